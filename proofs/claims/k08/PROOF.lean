import PyProof.Rows.All
import Wide.All
import OpenK.AllK
import Wide.FinOn
import Lean
import PyProof.EqAt
import PyProof.EqKinds
import PyProof.TupleCall
import PyProof.CompUse
import PyProof.P3Eq
import PyProof.NeData
import PyProof.P3In
import PyProof.EnumMake
import PyProof.Draws
import PyProof.ConsumeWalk
import PyProof.Rows.SetFrom
import PyProof.SetRoads
import PyProof.Rows.SortWalk
import PyProof.ListRange
import PyProof.WalksMore
import PySem.Challenge.RW_handnames_k08_whole_papers_hold
set_option Elab.async false
set_option linter.all false
set_option bootstrap.genMatcherCode false
set_option maxRecDepth 100000
set_option maxHeartbeats 4000000
local macro_rules (kind:=Lean.Parser.Command.declaration)
|s=>do
 if (s[1].isOfKind ``Lean.Parser.Command.definition||s[1].isOfKind ``Lean.Parser.Command.abbrev)&&s[0].getArgs.all (·.isNone) then return s.setArg 0 (<-`(command|noncomputable def x:=0)).raw[0]
 else Lean.Macro.throwUnsupported
local macro_rules|`(tactic|omega)=>`(tactic|first|with_reducible assumption|with_reducible exact Nat.le_refl _|exact Nat.zero_le _|exact Nat.succ_pos _|exact Nat.le_of_lt (by with_reducible assumption)|exact Nat.lt_succ_of_le (by with_reducible assumption)|exact Nat.le_trans (by with_reducible assumption) (by decide)|exact Nat.lt_of_le_of_lt (by with_reducible assumption) (by decide)|exact Nat.lt_of_lt_of_le (by with_reducible assumption) (by decide)|lia|omega +splitDisjunctions)
namespace PySem.W.Fast
def tw14629072810854297074:=0
def tw7901803624116047305:=0
def tw10304202989541351223:=0
def tw10619611218498494275:=0
def tw14835824186787470509:=0
def tw398682236619989882:=0
def tw8328734426026087673:=0
def tw18218480990682757903:=0
def tw8495982848538054710:=0
def tw7929302188705567240:=0
def tw8110492382987749178:=0
def tw6043816723248502853:=0
def tw11021175956469470471:=0
def tw1186200182070726080:=0
def tw5455860592942646619:=0
def tw4555659079760199195:=0
def tw5062152503674928486:=0
def tw6074984995525061872:=0
def tw10577725463602469716:=0
def tw7185984173471782498:=0
def tw15256953316094286288:=0
def tw10383599662727529262:=0
def tw15183768201456236597:=0
def tw10428590090097324486:=0
def tw12030914789931174442:=0
def tw15235182207497553589:=0
def tw18021955464392605214:=0
def tw10329082605269704617:=0
def tw14447630145481358797:=0
def tw14589214979918916942:=0
def tw6476026570137674988:=0
def tw9329399417119737684:=0
def tw2214475809230584438:=0
def tw5122744626131258407:=0
def tw3757184007779516925:=0
def tw6814037499053766509:=0
def tw9472092878290455322:=0
def tw4247478865880936848:=0
def tw16286468577199242940:=0
def tw14692517573112077723:=0
def tw4568346665779161997:=0
def tw10398973232172302261:=0
def tw9377733632702365867:=0
def tw12522459913070115998:=0
def tw5603410746043387:=0
def tw682455457530219968:=0
def tw9155075172623693816:=0
def tw11718433630034843652:=0
def tw4859808640614259929:=0
def tw6869787348928851249:=0
def tw4806652542681978444:=0
def tw18306674858222917060:=0
def tw16470456787616128027:=0
def tw14984650721943306960:=0
def tw4651705398683749990:=0
def tw9421089071854583332:=0
def tw6479871278716347272:=0
def tw17781082317555908227:=0
def tw601613796791142630:=0
def tw14169615533693185005:=0
def tw13172414415277343569:=0
def tw3977401985460287777:=0
def tw2635218752861280391:=0
def tw8862537942006676313:=0
def tw16368491754748664284:=0
def tw4304038514069516805:=0
def tw12898404647584857976:=0
def tw12679407656453049437:=0
def tw17286904938868371079:=0
def tw15040530806916242894:=0
def tw17213668433232461120:=0
def tw13622138800576406060:=0
def tw14047372416958673935:=0
def tw15766457171181490008:=0
def tw5622674798704418982:=0
def tw4004405419685464598:=0
def tw16865197690705949915:=0
def tw17593949624378673795:=0
def tw7139507800555941794:=0
def tw9445281373144289339:=0
def tw6634819182963955599:=0
def tw850211239731538276:=0
def tw1717801180478263230:=0
def tw4746214858820093227:=0
def tw6068897246351216677:=0
def tw9149114083449091922:=0
def tw1340672629820706535:=0
def tw16069168197363168842:=0
def tw11250630438511074676:=0
def tw14960424258728439969:=0
def tw11851946938814688475:=0
def tw7568808805454574017:=0
def tw9280626726493014326:=0
def tw7924963478492784850:=0
def tw12260295955374094272:=0
def tw4357843348291813847:=0
def tw11888301243162074390:=0
def tw6011670719600461776:=0
def tw11429201990934079295:=0
def tw15217647043028464895:=0
def tw15974123747531096279:=0
def tw16828113860302723046:=0
def tw5707514884544778950:=0
def tw7669229382495537195:=0
def tw12823176435800309952:=0
def tw10432601542752079519:=0
def tw3298708016386571585:=0
def tw7711336133699775668:=0
def tw416301899088511239:=0
def tw3644624875830575445:=0
def tw17690940707121657340:=0
def tw362519931912304001:=0
def tw12508253292350893277:=0
def tw1972811536249080798:=0
def tw15822588954371832450:=0
def tw3889679420110775842:=0
def tw10062787946679436087:=0
def tw13254974906570413057:=0
def tw3750898619775948384:=0
def tw6048306556495381961:=0
def tw16099951723690439454:=0
def tw7291352471257831270:=0
def tw7784820404404087183:=0
def tw2887781347273929944:=0
def tw11481768140544746599:=0
def tw8098593205456526598:=0
def tw6389040456427080043:=0
def tw6815993771535658268:=0
def tw3255193210127916552:=0
def tw12539156122591237722:=0
def tw16665331438453350783:=0
def tw15289455997045138823:=0
def tw1155910742390930271:=0
def tw22601574567939871:=0
def tw4499417302857706319:=0
def tw14573220994959701966:=0
def tw6750193625488906739:=0
def tw1123222282067463974:=0
def tw6069547152539479646:=0
def tw10624143995469617543:=0
def tw4095852551495840208:=0
def tw8490645047837455112:=0
def tw14323236969517548892:=0
def tw11922673662743926453:=0
def tw726532777557643815:=0
def tw16045872561562716656:=0
def tw12525957849019043745:=0
def tw6018790361487417512:=0
def tw2689954667318275918:=0
def tw183480872512053672:=0
def tw18124880825553681541:=0
def tw18079560099872958317:=0
def tw15813603171199104726:=0
def tw1789259753897992515:=0
def tw12620797684202903057:=0
def tw7521410405669959165:=0
def tw17661273357029622555:=0
def tw6460991831405631629:=0
def tw2051306567995602982:=0
def tw5940393976161349293:=0
def tw7712644607271366275:=0
def tw283052783539672037:=0
def tw33796343631953558:=0
def tw10492232354042088773:=0
def tw9269977893720764135:=0
def tw9398158331584370661:=0
def tw9858662659041341462:=0
def tw18112733751897543604:=0
def tw15647507374225507201:=0
def tw7923190070777326401:=0
def tw15654249791394460699:=0
def tw671377183649764814:=0
def tw3138707666968336635:=0
def tw4550532140817633962:=0
def tw15716132849250394753:=0
def tw5095670086105073488:=0
def tw9522336331717473927:=0
def tw7290450073451089370:=0
def tw3224035664813768754:=0
def tw1256893643861708079:=0
def tw17591372688323901278:=0
def tw3496086144057756286:=0
def tw11752309511273244399:=0
def tw2372583518592394012:=0
def tw15021174317145622357:=0
def tw11842081038144448396:=0
def tw14514932118315056628:=0
def tw16042755051150545137:=0
def tw10924123070240093998:=0
def tw11376460795992152995:=0
def tw5851865254802237102:=0
def tw1409183089814010866:=0
def tw1649861387011825384:=0
def tw8857109342801538812:=0
def tw6006492580686815998:=0
def tw14015689501675986836:=0
def tw9971082610863972807:=0
def tw15274321514080374874:=0
def tw1435135462626588372:=0
def tw15446845464002940993:=0
def tw3067697617561601623:=0
def tw12196125894674654063:=0
def tw1597574397706591804:=0
def tw5513707525829239150:=0
def tw5670297195737020662:=0
def tw7481048224200763562:=0
def tw3503356849687210555:=0
def tw4717473941014333497:=0
def tw466294813971270690:=0
def tw6099803918277675699:=0
def tw13022460977148787151:=0
def tw8481155176292581958:=0
def tw13123208119062078558:=0
def tw14091924224074004996:=0
def tw8248038951073540218:=0
def tw12900104173459536565:=0
def tw13303580336368021426:=0
def tw2321136853229327906:=0
def tw8189155520693950330:=0
def tw17141960835695049027:=0
def tw17852349239256867889:=0
def tw11768368759687225745:=0
def tw7289180219128801558:=0
def tw11217525485570345138:=0
def tw5477538588577502873:=0
def tw16466273014190401092:=0
def tw15583576928716845880:=0
def tw4462674175410823415:=0
def tw15477407675092388097:=0
def tw9469145109664603362:=0
def tw706156548447835501:=0
def tw9573033163922037545:=0
def tw6731325184278725596:=0
def tw3180501169257931964:=0
def tw17223094859940549154:=0
def tw6480825784022953016:=0
def tw16038632311059639468:=0
def tw3767055707189137877:=0
def tw4794442397266921471:=0
def tw15090108104706393154:=0
def tw7809488909755732455:=0
def tw8724953281403962563:=0
def tw327433106421509599:=0
def tw4699815219061088193:=0
def tw1242869771617419456:=0
def tw183740276082722105:=0
def tw15980535936558471713:=0
def tw4247736050059030206:=0
def tw15970611647484024222:=0
def tw6239695928983151712:=0
def tw17496018519296856534:=0
def tw8988227215934652552:=0
def tw15076059531003370795:=0
def tw1802627841520955321:=0
def tw3602537866408209010:=0
def tw2437505997091556639:=0
def tw2002564178908381276:=0
def tw14225364785825058825:=0
def tw9353760262130873282:=0
def tw1000210691363274813:=0
def tw13305614827413054373:=0
def tw3692193125771491375:=0
def tw12914784645381328935:=0
def tw3761065840781831001:=0
def tw2823625730039695554:=0
def tw9571888847467715534:=0
def tw3368440450890024980:=0
def tw911606891141121075:=0
def tw15479021905084555018:=0
def tw911392194606217260:=0
def tw14084261452508524889:=0
def tw6428365252621275206:=0
def tw10688979461854988071:=0
def tw4818108624053676879:=0
def tw6563245783498313104:=0
def tw2213221132685025756:=0
def tw3566548072087375730:=0
def tw7160224494211529033:=0
def tw1795443007495042245:=0
def tw15494878455716379788:=0
def tw16903275989241592102:=0
def tw6822380453871639361:=0
def tw12924506966905080714:=0
def tw11039285030494684163:=0
def tw6471936475488065639:=0
def tw14685599701960126814:=0
end PySem.W.Fast
def Gx:=@PySem.wpAny_bind
def Gy:=@PySem.wpAny_pure
def Gz:=@Bool.and_eq_true
def Ha:=@PySem.Heap.get?_push_of_some
def Hb:=@List.getElem?_eq_some_iff
def Hc:=@List.length_map
def Hd:=@Nat.le_refl
def He:=@Bool.false_ne_true
def Hf:=@List.mem_cons_self
def Hg:=@List.size_toArray
def Hh:=@List.mem_cons_of_mem
def Hi:=@List.getElem?_eq_getElem
def Hj:=@List.getElem?_append_left
def Hk:=@PySem.Heap.lt_size
def Hm:=@List.mem_singleton
def Ho:=@List.mem_cons
def Hq:=@Nat.ne_of_lt
def Hr:=@PySem.Heap.get?_push_size
def Hs:=@decide_eq_false
def Ht:=@List.map_cons
def Hu:=@List.length_append
def Hv:=@decide_eq_true
def Hw:=@decide_eq_true_eq
def Hx:=@Nat.lt_of_lt_of_le
def Hy:=@PySem.wpAny_mono
def Hz:=@List.mem_append
def HB:=@PySem.sizeLine_eq
def HC:=@List.getElem?_append_right
def HE:=@List.mem_of_getElem?
def HF:=@PySem.wpAny_newObj_type
def HG:=@List.getElem_mem
def HH:=@Option.some.inj
def HI:=@List.mem_append_right
def HJ:=@Nat.le_trans
def HK:=@List.getElem?_map
def HL:=@List.all_eq_true
def HM:=@List.getElem?_eq_none
def HN:=@List.mem_map
def HP:=@List.getElem?_set_ne
def HQ:=@Nat.le_of_ble_eq_true
def HR:=@of_decide_eq_true
def HS:=@Nat.lt_succ_self
def HU:=@List.append_nil
def HV:=@List.getElem?_set_self
def HW:=@Option.isSome_iff_exists
def HX:=@PySem.wpAny_holding
def HY:=@Nat.zero_le
def HZ:=@PySem.Heap.get?_update_self
def Ia:=@List.length_singleton
def Ib:=@List.all_cons
def Ic:=@List.length_cons
def Ie:=@PyProof.Rows.slot_tuple_getitem
def Ig:=@Nat.lt_succ_of_lt
def Ih:=@Option.isNone_iff_eq_none
def Ii:=@PySem.wpAny_Call_Name_kw
def Ij:=@List.mem_range
def Ik:=@List.find?_cons
def Il:=@List.drop_zero
def Im:=@beq_eq_false_iff_ne
def Io:=@PyProof.Rows.callWith_type1
def Ip:=@List.getElem?_replicate
def Iq:=@PySem.wpAny_callSpecial?_slot
def Ir:=@Nat.le_succ
def Iu:=@PySem.W.mg_of
def Iv:=@Option.map_eq_some_iff
def Iw:=@PySem.wpAny_field
def Ix:=@Bool.not_eq_true'
def Iy:=@PySem.F.slot_dict_get
def Iz:=@PySem.wpAny_standAt
def IA:=@PySem.Heap.size_push
def IB:=@List.map_append
def IC:=@PySem.F.slot_dict_keyiterator_next
def ID:=@PySem.wpAny_call_entry
def IE:=@List.not_mem_nil
def IF:=@List.getD_eq_getElem?_getD
def IG:=@List.take_succ_eq_append_getElem
def IH:=@List.replicate_succ
def II:=@Bool.eq_iff_iff
def IJ:=@List.length_filter_le
def IK:=@PySem.lookup_relabel_local
def IL:=@PySem.wpAny_typeNameOfWhole_keyiter
def IM:=@List.filter_cons_of_pos
def IN:=@List.filter_cons_of_neg
def IP:=@List.forIn_cons
def IQ:=@PySem.W.kia_one
def IR:=@PySem.Heap.SameBut.update
def IS:=@PyProof.Rows.F.plain_set_update_loop
def IT:=@PySem.codeAny_mono
def IU:=@PySem.F.entry_dict_get
def IV:=@List.take_of_length_le
def IW:=@List.any_cons
def IY:=@Option.bind_some
def IZ:=@List.mem_flatMap
def Ja:=@Nat.succ_le_succ
def Jb:=@List.mem_filterMap
def Jc:=@PySem.Calls.spliced_cons
def Jd:=@Bool.false_eq_true
def Je:=@List.filter_append
def Jf:=@List.length_replicate
def Jg:=@List.findIdx?_eq_some_iff_getElem
def Jh:=@List.getElem?_eq_none_iff
def Ji:=@PySem.wpAny_passesOwn
def Jj:=@List.nodup_cons
def Jk:=@PySem.Calls.spliced_nil
def Jl:=@List.flatten_cons
def Jm:=@List.map_map
def Jn:=@Nat.lt_irrefl
def Jo:=@PySem.wpAny_comprehension_free
def Jp:=@PySem.wpAny_typeNameOf_keyiter
def Jq:=@List.filterMap_cons
def Jr:=@PySem.mem_of_lookup
def Js:=@List.length_flatMap
def Jt:=@List.length_take
def Ju:=@PyProof.Rows.callWith_builtin1
def Jv:=@Nat.le_of_not_lt
def Jw:=@List.lookup_cons
def Jx:=@PySem.wpAny_setField
def Jy:=@beq_iff_eq
def Jz:=@PySem.Heap.get?_update_other
def JA:=@PySem.wpAny_pyIter_tuple
def JB:=@List.mem_filter
def JC:=@PySem.wpAny_execs_nil
def JD:=@List.append_assoc
def JE:=@Int.toNat_natCast
def JF:=@List.flatMap_cons
def JG:=@PySem.wpAny_call
def JH:=@List.forIn_nil
def JI:=@PySem.codeAny_call_builtin
def JJ:=@PySem.wpAny_newFunctionEnv
def JK:=@List.map_flatMap
def JL:=@PySem.wpAny_binaryOp_repeat_ref
def JM:=@Array.getElem?_eq_getElem
def JN:=@List.drop_eq_getElem_cons
def JO:=@List.findIdx?_eq_none_iff
def JP:=@Array.length_toList
def JQ:=@PySem.Heap.get?_update_ne
def JR:=@List.getElem_of_mem
def JS:=@List.length_reverse
def JT:=@List.filter_eq_self
def JU:=@PyProof.Rows.F.entry_set_update_loop
def JV:=@PySem.F.args_dict_keyiterator_next_1
def JW:=@PySem.F.args_tuple_add_2
def JX:=@PySem.F.entry_dict_keyiterator_next
def JY:=@List.nil_append
def JZ:=@Bool.or_eq_true
def Ka:=@PySem.W.callWith_K
def Kb:=@List.filterMap_map
def Kc:=@PySem.call_meets
def Kd:=@PySem.tupleKind_room_in1
def Ke:=@Int.emod_lt_of_pos
def Kf:=@PySem.F.entry_tuple_add
def Kg:=@PySem.F.args_dict_get_2
def Kh:=@PySem.F.plainAttrs_list
def Kj:=@PySem.F.slot_tuple_add
def Kk:=@if_false
def Kl:=@PySem.Calls.callWith_builtin
def Km:=@PySem.eqIsQuiet_byValue
def Kn:=@List.nodup_append
def Ko:=@PySem.wpAny_pyIter_enum
def Kq:=@PySem.codeAny_compStart_list
def Kr:=@List.reverse_cons
def Ks:=@List.length_range
def Kt:=@Array.getElem?_toList
def Ku:=@List.pairwise_flatMap
def Kv:=@PySem.typeIs_int
def Kw:=@Nat.succ_ne_self
def Kx:=@Prod.mk.injEq
def Ky:=@PySem.wpAny_of_eq
def Kz:=@List.mem_of_mem_tail
def KA:=@or_false
def KC:=@List.find?_some
def KD:=@Int.emod_nonneg
def KE:=@PyProof.Rows.entry_tuple_getitem
def KF:=@PySem.wpAny_typeOf
def KG:=@PySem.call_meetsIn
def KH:=@List.all_map
def KI:=@PySem.Calls.Name_function_global
def KJ:=@PyProof.Rows.slicePart_none
def KL:=@PyProof.Rows.args_tuple_getitem
def KM:=@PySem.Heap.IsSliceOf.new
def KN:=@PySem.wpAny_loadPart
def KO:=@PySem.F.excBase_ValueError
def KP:=@PyProof.Rows.listItems_at
def KQ:=@PySem.wpAny_truthy_bool
def KR:=@PySem.wpAny_sequenceKey
def KS:=@bne_self_eq_false
def KU:=@PySem.wpAny_pyIter_list
def KW:=@PySem.wpAny_dictEntries
def KY:=@List.pairwise_map
def KZ:=@PyProof.Rows.tupleItemsOf_
def La:=@PySem.wpAny_getItem_list_slice
def Lb:=@PySem.wpAny_attempt
def Ld:=@PySem.strLen_append
def Le:=@Bool.and_self
def Lf:=@Nat.lt_succ_iff_lt_or_eq
def Lg:=@List.filterMap_cons_none
def Lh:=@List.filterMap_cons_some
def Li:=@List.length_filterMap_le
def Lj:=@List.getElem_inj
def Lk:=@PySem.wpAny_execs_cons
def Ll:=@PySem.noFill_tuple_add
def Lm:=@LawfulBEq.eq_of_beq
def Ln:=@PySem.F.args_dict_get_3
def Lo:=@PySem.F.plainAttrs_dict
def Lp:=@Int.eq_ofNat_of_zero_le
def Lq:=@List.take_length
def Lr:=@beq_self_eq_true
def Lu:=@Nat.le_of_lt
def Lv:=@Nat.ne_of_gt
def Lw:=@PySem.wpAny_rule
def Lx:=@PySem.codeAny_loop
def Ly:=@List.any_map
def Lz:=@Int.ne_of_gt
def LA:=@List.of_mem_zip
def LB:=@List.length_nil
def LC:=@Option.map_some
def LD:=@PySem.codeAny_of_tree
def LF:=@PySem.wpAny_specialOf
def LG:=@PySem.W.mapOf_K
def LH:=@List.filter_nil
def LI:=@PySem.codeAny_builtin
def LJ:=@PySem.wpAny_dictEpoch
def LK:=@Bool.false_and
def LL:=@PySem.wpAny_noted
def LM:=@PySem.W.find_K
def LN:=@PySem.seq_tuple_add
def LO:=@PySem.evalPart_none
def LP:=@PySem.strKind_is
def LQ:=@if_true
namespace L2
open PySem PySem.Spec PyProof.Rows
abbrev Key:=Sum Int Str
def bp:Key->Value->Bool
 | .inl k,v=>Value.isInt k v
 | .inr x,v=>Value.isStrOf x v
def Fj(w:World):Key->Int
 | .inl k=>hashInt k
 | .inr x=>hashStr w x
theorem j5:∀{k:Key}{v:Value},bp k v=true->(∃i t,k=Sum.inl i/\v=Value.int i t)\/(∃x t,k=Sum.inr x/\v=Value.str x t)
 | .inl i,v,h=>by
  obtain⟨t,e⟩:=Value.isInt_shape h;exact .inl ⟨i,t,rfl,e⟩
 | .inr x,v,h=>by
  obtain⟨t,e⟩:=Value.isStrOf_shape h;exact .inr ⟨x,t,rfl,e⟩
theorem mU(i:Int)(t:Tok):bp (.inl i) (.int i t)=true:=by simp[bp,Value.isInt]
theorem lp(x:Str)(t:Tok):bp (.inr x) (.str x t)=true:=by simp[bp,Value.isStrOf]
theorem zT(a b:Int):decide ((Sum.inl a:Key)=Sum.inl b)=(a==b):=by
 by_cases e:a=b
 ·subst e;simp
 ·have h:¬ (Sum.inl a:Key)=Sum.inl b:=λq=>e (Sum.inl.inj q);rw[Hs h];exact(Im.mpr e).symm
theorem AB(a b:Str):decide ((Sum.inr a:Key)=Sum.inr b)=decide (a=b):=by
 by_cases e:a=b
 ·subst e;simp
 ·have h:¬ (Sum.inr a:Key)=Sum.inr b:=λq=>e (Sum.inr.inj q);rw[Hs h,Hs e]
theorem zt(a:Int)(b:Str):decide ((Sum.inl a:Key)=Sum.inr b)=false:=Hs (λq=>nomatch q)
theorem yY(a:Str)(b:Int):decide ((Sum.inr a:Key)=Sum.inl b)=false:=Hs (λq=>nomatch q)
def i9(prog:Program)(w:World):PySem.KeyKind prog w Key where
 is:=bp
 hash:=Fj w
 inj:=λv a b ha hb=>by
  rcases j5 ha with ⟨i,t,rfl,rfl⟩ | ⟨x,t,rfl,rfl⟩
  ·rcases j5 hb with ⟨j,u,rfl,e⟩ | ⟨y,u,rfl,e⟩
   ·injection e with e1 _;rw[e1]
   ·exact nomatch e
  ·rcases j5 hb with ⟨j,u,rfl,e⟩ | ⟨y,u,rfl,e⟩
   ·exact nomatch e
   ·injection e with e1 _;rw[e1]
 byValue:=λk v h=>by
  rcases j5 h with ⟨i,t,rfl,rfl⟩ | ⟨x,t,rfl,rfl⟩ <;> rfl
 pyHash:=λhv h=>by
  rcases j5 hv with ⟨i,t,rfl,rfl⟩ | ⟨x,t,rfl,rfl⟩
  ·exact wpAny_pyHash_int h
  ·exact wpAny_pyHash_str h
 eqBool:=λhu hv h=>by
  rcases j5 hu with ⟨i,t,rfl,rfl⟩ | ⟨x,t,rfl,rfl⟩
  ·rcases j5 hv with ⟨j,u,rfl,rfl⟩ | ⟨y,u,rfl,rfl⟩
   ·rw[zT]at h;exact wpAny_eqBool_int h
   ·rw[zt]at h;exact SeqAt.EqAt.int_str i t y u _ _ _ _ h
  ·rcases j5 hv with ⟨j,u,rfl,rfl⟩ | ⟨y,u,rfl,rfl⟩
   ·rw[yY]at h;exact SeqAt.EqAt.str_int x t j u _ _ _ _ h
   ·rw[AB]at h;exact wpAny_eqBool_str h
 «strs»:=λk x t v h=>by
  rcases j5 h with ⟨i,u,rfl,e⟩ | ⟨y,u,rfl,e⟩
  ·exact nomatch e
  ·injection e with e1 _;subst e1;cases v <;> rfl
theorem gH(prog:Program)(w:World)(i:Int)(t:Tok):(i9 prog w).is (.inl i) (.int i t)=true:=mU i t
theorem eU(prog:Program)(w:World)(x:Str)(t:Tok):(i9 prog w).is (.inr x) (.str x t)=true:=lp x t
inductive V where
 | non | bl (b:Bool) | int (i:Int) | str (x:Str) | byt (b:Array UInt8) | flt (b:UInt64) | ref (a:Addr) | ty (n:String)
 deriving DecidableEq
def RelV:V->Value->Prop
 | .non,u=>u=Value.none
 | .bl b,u=>u=Value.bool b
 | .int i,u=>∃t,u=Value.int i t
 | .str x,u=>∃t,u=Value.str x t
 | .byt b,u=>∃t,u=Value.bytes b t
 | .flt b,u=>∃t,u=Value.float b t
 | .ref a,u=>u=Value.ref a
 | .ty n,u=>u=Value.type n
abbrev Vals:List V->List Value->Prop:=Paired RelV
theorem Vals.length(r:Vals xs us):xs.length=us.length:=Paired.length r
theorem Vals.get:∀{xs:List V}{us:List Value}{i:Nat}{x:V},Vals xs us->xs[i]?=some x->∃u,us[i]?=some u/\RelV x u
 | _,_,_,_,.nil,e=>by simp at e
 | _,_,0,_,.cons r _,e=>by simp at e;subst e;exact⟨_,rfl,r⟩
 | _,_,i+1,x,.cons _ t,e=>by
  obtain⟨u,b,a⟩:=Vals.get t (by simpa using e);exact⟨u,by simpa using b,a⟩
theorem Vals.set(r:RelV x u):∀{xs:List V}{us:List Value}(i:Nat),Vals xs us->Vals (xs.set i x) (us.set i u)
 | _,_,_,.nil=>.nil
 | _,_,0,.cons _ t=>.cons r t
 | _,_,i+1,.cons q t=>.cons q (Vals.set r i t)
theorem Vals.append:∀{xs ys:List V}{us ws:List Value},Vals xs us->Vals ys ws->Vals (xs++ys) (us++ws)
 | _,_,_,_,.nil,s=>s
 | _,_,_,_,.cons r t,s=>.cons r (Vals.append t s)
theorem Vals.take:∀{xs:List V}{us:List Value}(n:Nat),Vals xs us->Vals (xs.take n) (us.take n)
 | _,_,0,_=>.nil
 | _,_,_+1,.nil=>.nil
 | _,_,n+1,.cons r t=>.cons r (Vals.take n t)
theorem Vals.drop:∀{xs:List V}{us:List Value}(n:Nat),Vals xs us->Vals (xs.drop n) (us.drop n)
 | _,_,0,r=>r
 | _,_,_+1,.nil=>.nil
 | _,_,n+1,.cons _ t=>Vals.drop n t
def RelO:Option V->Option Value->Prop
 | some v,some u=>RelV v u
 | none,none=>True
 | _,_=>False
def KV{κ:Type}:List (κ×V)->List (κ×Value)->Prop:=Paired λ(p:κ×V)(q:κ×Value)=>p.1=q.1/\RelV p.2 q.2
def kV:Key->V
 | .inl i=>.int i
 | .inr x=>.str x
inductive HO where
 | lst (xs:List V)
 | tup (xs:List V)
 | dK (kvs:List (Key×V)) | dT (kvs:List (List Key×V))
 | set (S:Int->Bool) (n:Nat)
 | ins (C dx:Addr) (fs:List (Str×V))
 | own (x:Addr)
 | xd (fs:List (Str×V))
 | met (f x:Addr)
 | rng (lo hi:Int)
 | frz (o:Obj) (u:HO)
 | tbl (ps:Array Value)
 | ext (φ:Heap->Prop)
abbrev Hp:=Addr->Option HO
def upd(H:Hp)(a:Addr)(o:HO):Hp:=λb=>if b=a then some o else H b
theorem b9:upd H a o a=some o:=by unfold upd;rw[if_pos rfl]
theorem a9{a b:Addr}{o:HO}(h:b≠a):upd H a o b=H b:=by unfold upd;rw[if_neg h]
theorem kY{H:Hp}{a b:Addr}{o u:HO}(h:H a=some o)(h':H b=some u)(d:o≠u):a≠b:=by
 intro e;subst e;rw[h]at h';exact d (HH h')
theorem c6{H:Hp}{a b:Addr}{o:HO}(h:H a=some o)(h':H b=none):a≠b:=by
 intro e;subst e;rw[h]at h';cases h'
def TupN(h:Heap)(a:Addr)(items:Array Value):Prop:=∃o,h.get? a=some o/\o.cls=.type "tuple"/\∃n,o.data=.seq items n/\o.dict=none
theorem TupN.is(x:TupN h a items):IsTup h a items:=let ⟨o,e,c,n,d,_⟩:=x;⟨o,e,c,n,d⟩
theorem TupN.new(h:Heap)(items:Array Value):TupN (h.push { cls:=.type "tuple",data:=.seq items }) h.objs.size items:=⟨_,Hr _ rfl,rfl,_,rfl,rfl⟩
section
variable (P:Program)(w:World)
def ObjOk(H:Hp)(h:Heap)(a:Addr):HO->Prop
 | .lst xs=>xs.length<=sizeLine/\∃(b:List Value) (n:Nat),Vals xs b/\h.get? a=some { cls:=.type "list",data:=.seq b.toArray n }
 | .tup xs=>xs.length<=sizeLine/\∃b:List Value,Vals xs b/\TupN h a b.toArray
 | .dK c=>c.length<=sizeLine/\(a==sysModules)=false/\∃vs,KV c vs/\h.DictOf (i9 P w) a vs
 | .dT c=>c.length<=sizeLine/\(a==sysModules)=false/\∃xs:List (List Key×Addr×Value),
   Paired (λ(p:List Key×V)(q:List Key×Addr×Value)=>p.1=q.1/\H q.2.1=some (.tup (p.1.map kV))/\RelV p.2 q.2.2) c xs /\
   ∃o es k,h.get? a=some o/\o.ExactDict/\o.data=.dict es k/\es.toList=xs.map (entryOfKey (tupleKind (i9 P w)))/\(xs.map (·.1)).Nodup
 | .set S n=>h.SetOf (intKind P w) a S n
 | .ins C d fs=>H d=some (.own a)/\fs.length<=1000/\d≠a/\h.get? a=some (PySem.W.instObj C d) /\
   ∃mA,h.Ns1 d mA/\(∀f,RelO (fs.lookup f) (mA f))/\PySem.Within mA (fs.map (·.1))
 | .own _=>∃o,h.get? a=some o
 | .xd fs=>∃mA,h.Ns1 a mA/\∀f,RelO (fs.lookup f) (mA f)
 | .rng lo j=>∃t u v,h.get? a=some { cls:=.type "range",data:=.fields #[.int lo t,.int j u,.int 1 v] }
 | .frz o u=>h.get? a=some o/\ObjOk H h a u
 | .tbl ps=>h.get? a=some { cls:=.none,data:=.fields ps }
 | .met f x=>h.get? a=some (PySem.W.methodObj (.ref f) (.ref x))
 | .ext e=>e h/\(∃o,h.get? a=some o)/\∀g i:Heap,e g->(∀o,g.get? a=some o->i.get? a=some o)->e i
def HOk(H:Hp)(h:Heap):Prop:=∀a o,H a=some o->ObjOk P w H h a o
end
section
variable {P:Program}{w:World}{H H':Hp}{h h':Heap}{a:Addr}{o:HO}
theorem ObjOk.lt(x:ObjOk P w H h a o):a<h.objs.size:=by
 cases o with
 | lst xs=>obtain⟨_,_,_,_,e⟩:=x;exact Hk e
 | tup xs=>obtain⟨_,_,_,p⟩:=x;exact p.is.lt
 | dK kvs=>obtain⟨_,_,_,_,o,_,_,e,_⟩:=x;exact Hk e
 | dT kvs=>obtain⟨_,_,_,_,o,_,_,e,_⟩:=x;exact Hk e
 | set S n=>obtain⟨o,_,_,_,e,_⟩:=x;exact Hk e
 | ins C dx fs=>obtain⟨_,_,_,e,_⟩:=x;exact Hk e
 | own y=>obtain⟨_,e⟩:=x;exact Hk e
 | xd fs=>obtain⟨_,⟨_,_,_,e,_⟩,_⟩:=x;exact Hk e
 | rng lo hi=>obtain⟨_,_,_,e⟩:=x;exact Hk e
 | frz ob u=>obtain⟨e,_⟩:=x;exact Hk e
 | tbl ps=>exact Hk (x)
 | met f y=>exact Hk (x)
 | ext φ=>obtain⟨_,⟨_,e⟩,_⟩:=x;exact Hk e
theorem Paired.mapP:∀{c:List α}{d:List β},Paired F c d->(∀a b,F a b->G a b)->Paired G c d
 | _,_,.nil,_=>.nil
 | _,_,.cons r t,f=>.cons (f _ _ r) (Paired.mapP t f)
theorem ObjOk.stay(x:ObjOk P w H h a o)(k:∀b u,(b=a\/H b=some (.own a))->h.get? b=some u->h'.get? b=some u)
  (ho:∀b,H b=some (.own a)->H' b=some (.own a)) (ht:∀b xs,H b=some (.tup xs)->H' b=some (.tup xs)):ObjOk P w H' h' a o:=by
 induction o with
 | lst xs=>obtain⟨z,its,n,r,e⟩:=x;exact⟨z,its,n,r,k _ _ (.inl rfl) e⟩
 | tup xs=>obtain⟨z,its,r,ob,e,c⟩:=x;exact⟨z,its,r,ob,k _ _ (.inl rfl) e,c⟩
 | dK kvs=>obtain⟨z,y,vs,r,ob,es,ep,e,c⟩:=x;exact⟨z,y,vs,r,ob,es,ep,k _ _ (.inl rfl) e,c⟩
 | dT kvs=>
  obtain⟨z,y,xs,r,ob,es,ep,e,c⟩:=x;exact⟨z,y,xs,Paired.mapP r λp q z=>⟨z.1,ht _ _ z.2.1,z.2.2⟩,ob,es,ep,k _ _ (.inl rfl) e,c⟩
 | set S n=>obtain⟨ob,es,ep,t,e,c⟩:=x;exact⟨ob,es,ep,t,k _ _ (.inl rfl) e,c⟩
 | ins C dx fs=>
  obtain⟨d,z,ne,e,mA,⟨od,es,ep,e2,c⟩,r⟩:=x;exact⟨ho _ d,z,ne,k _ _ (.inl rfl) e,mA,⟨od,es,ep,k _ _ (.inr d) e2,c⟩,r⟩
 | own y=>obtain⟨ob,e⟩:=x;exact⟨ob,k _ _ (.inl rfl) e⟩
 | xd fs=>obtain⟨mA,⟨od,es,ep,e,c⟩,r⟩:=x;exact⟨mA,⟨od,es,ep,k _ _ (.inl rfl) e,c⟩,r⟩
 | rng lo hi=>obtain⟨t,u,v,e⟩:=x;exact⟨t,u,v,k _ _ (.inl rfl) e⟩
 | frz ob u ih=>obtain⟨e,q⟩:=x;exact⟨k _ _ (.inl rfl) e,ih q⟩
 | tbl ps=>
  have e:=x;exact k a _ (.inl rfl) e
 | met f y=>
  have e:=x;exact k a _ (.inl rfl) e
 | ext φ=>obtain⟨p,⟨o,e⟩,st⟩:=x;exact⟨st _ _ p λo q=>k _ _ (.inl rfl) q,⟨o,k _ _ (.inl rfl) e⟩,st⟩
theorem HOk.lt(x:HOk P w H h)(e:H a=some o):a<h.objs.size:=(x a o e).lt
theorem HOk.fresh(x:HOk P w H h)(e:h.objs.size<=a):H a=none:=by
 cases q:H a with
 | none=>rfl
 | some u=>exact absurd (Hx (x.lt q) e) (Jn _)
theorem HOk.kept(x:HOk P w H h)(k:∀b u,h.get? b=some u->h'.get? b=some u):HOk P w H h':=λa o e=>
 (x a o e).stay (λb u _ q=>k b u q) (λ_ q=>q) λ_ _ q=>q
theorem HOk.laid(x:HOk P w H h)(k:∀b u,h.get? b=some u->h'.get? b=some u)(i:h.objs.size<=a)(d:ObjOk P w (upd H a o) h' a o):HOk P w (upd H a o) h':=λb u e=>by
 have g:=x.fresh i;by_cases f:b=a
 ·subst f;rw[b9]at e;cases e;exact d
 ·rw[a9 f]at e;exact(x b u e).stay (λc v _ q=>k c v q) (λc q=>by rw[a9 (c6 q g)];exact q) λc xs q=>by rw[a9 (c6 q g)];exact q
end
def Rd(H:Hp)(a:Addr)(u:HO):Prop:=H a=some u\/∃o,H a=some (.frz o u)
theorem Rd.ok{H:Hp}{h:Heap}{a:Addr}{u:HO}(r:Rd H a u)(x:HOk P w H h):ObjOk P w H h a u:=by
 rcases r with r | ⟨o,r⟩
 ·exact x a u r
 ·obtain⟨_,q⟩:=x a _ r;exact q
def Mut:Option HO->Prop
 | some (.lst _)=>True
 | some (.dK _)=>True
 | some (.dT _)=>True
 | some (.set _ _)=>True
 | some (.ins _ _ _)=>True
 | some (.ext _)=>True
 | _=>False
section
variable {P:Program}{w:World}{H:Hp}{h h':Heap}{x e:Addr}{o':HO}
theorem HOk.write(ok:HOk P w H h)(mu:Mut (H x))(he:e=x\/H e=some (.own x))(k:∀b u,b≠e->h.get? b=some u->h'.get? b=some u)(heo:∃u,h'.get? e=some u)
  (new:ObjOk P w (upd H x o') h' x o'):HOk P w (upd H x o') h':=λb u q=>by
 have nown:∀c y,H c=some (.own y)->c≠x:=λc y r z=>by subst z;rw[r]at mu;exact mu
 have ntup:∀c xs,H c=some (.tup xs)->c≠x:=λc xs r z=>by subst z;rw[r]at mu;exact mu
 by_cases hb:b=x
 ·subst hb;rw[b9]at q;cases q;exact new
 ·rw[a9 hb]at q;by_cases hbe:b=e
  ·have q':H b=some (.own x):=by
    rcases he with z | z
    ·exact absurd (hbe.trans z) hb
    ·rw[hbe];exact z
   rw[q]at q';cases q';obtain⟨v,hv⟩:=heo;exact⟨v,by rw[hbe];exact hv⟩
  ·refine(ok b u q).stay (λc v hc r=>k c v ?_ r) (λc r=>by rw[a9 (nown c b r)];exact r) λc xs r=>by rw[a9 (ntup c xs r)];exact r
   rcases hc with rfl | hc
   ·exact hbe
   ·rintro rfl;rcases he with z | z
    ·exact nown c b hc z
    ·rw[hc]at z;cases z;exact hb rfl
end
structure Un(fs ex:List Addr)(H H':Hp)(h h':Heap):Prop where
 keep:∀b o,h.get? b=some o->H b=none->b∉fs->b∉ex->h'.get? b=some o
 slot:∀b o,h.get? b=some o->H b=none->b∈fs->b∉ex->∃sl,h'.get? b=some { o with slots:=sl }
 free:∀b o,h.get? b=some o->H b=none->b∉ex->H' b=none
 there:∀b o,h.get? b=some o->b∉ex->∃o',h'.get? b=some o'
 tups:∀b xs,H b=some (.tup xs)->H' b=some (.tup xs)
 frzs:∀b o u,H b=some (.frz o u)->H' b=some (.frz o u)
 tbls:∀b ps,H b=some (.tbl ps)->∃more,H' b=some (.tbl (ps++more))
section
variable {fs fs' ex ex':List Addr}{H H1 H2:Hp}{h h1 h2 h':Heap}{a x e:Addr}{o:HO}
theorem Un.any(u:Un fs ex H H1 h h1){b:Addr}{ob:Obj}(q:h.get? b=some ob)(n:H b=none)(c:b∉ex):∃d,h1.get? b=some { ob with slots:=d }:=by
 by_cases a:b∈fs
 ·exact u.slot b ob q n a c
 ·exact⟨ob.slots,u.keep b ob q n a c⟩
theorem Un.kept(k:∀b u,h.get? b=some u->h'.get? b=some u):Un fs ex H H h h':=
 ⟨λb ob q _ _ _=>k b ob q,λb ob q _ _ _=>⟨ob.slots,k b ob q⟩,λ_ _ _ n _=>n,λb ob q _=>⟨ob,k b ob q⟩,λ_ _ q=>q,λ_ _ _ q=>q,λ_ ps q=>⟨#[],by rw[q];simp⟩⟩
theorem Un.refl:Un fs ex H H h h:=Un.kept λ_ _ q=>q
theorem Un.laid(k:∀b u,h.get? b=some u->h'.get? b=some u)(d:h.objs.size<=a)(c:H a=none):Un fs ex H (upd H a o) h h' where
 keep:=λb u q _ _ _=>k b u q
 slot:=λb u q _ _ _=>⟨u.slots,k b u q⟩
 free:=λb u q n _=>by rw[a9 (Hq (Hx (Hk q) d))];exact n
 there:=λb u q _=>⟨u,k b u q⟩
 tups:=λb xs q=>by rw[a9 (c6 q c)];exact q
 frzs:=λb u xs q=>by rw[a9 (c6 q c)];exact q
 tbls:=λb ps q=>⟨#[],by rw[a9 (c6 q c),q];simp⟩
theorem Un.write(mu:Mut (H x))(he:e=x\/H e=some (.own x))(k:∀b u,b≠e->h.get? b=some u->h'.get? b=some u)(heo:∃u,h'.get? e=some u):Un fs ex H (upd H x o) h h':=by
 have hx:∀b,H b=none->b≠x:=λb n z=>by subst z;rw[n]at mu;exact mu
 have hb:∀b,H b=none->b≠e:=λb n z=>by
  subst z;rcases he with r | r
  ·exact hx b n r
  ·rw[n]at r;cases r
 have hm:∀b u,H b=some u->¬ Mut (some u)->b≠x:=λb u q nm z=>by subst z;rw[q]at mu;exact nm mu
 refine⟨λb u q n _ _=>k b u (hb b n) q,λb u q n _ _=>⟨u.slots,k b u (hb b n) q⟩,λb u q n _=>by rw[a9 (hx b n)];exact n,λb u q _=>?_,
  λb xs q=>by rw[a9 (hm b _ q λz=>z)];exact q,λb u xs q=>by rw[a9 (hm b _ q λz=>z)];exact q,λb ps q=>⟨#[],by rw[a9 (hm b _ q λz=>z),q];simp⟩⟩
 by_cases hbe:b=e
 ·subst hbe;exact heo
 ·exact⟨u,k b u hbe q⟩
end
def trk(h:Heap)(H:Hp):List Addr:=(List.range h.objs.size).filter λa=>(H a).isSome
def eE(h:Heap)(H:Hp):Heap:=PySem.W.hideAll h (trk h H)
theorem lf(h:Heap)(H:Hp):(eE h H).objs.size=h.objs.size:=PySem.W.hideAll_size _ _
theorem nY{H:Hp}{b:Addr}{o:Obj}(e:h.get? b=some o)(n:H b=none):(eE h H).get? b=some o:=
 PySem.W.hideAll_get _ e λa=>by
  have q:=(JB.mp a).2;rw[n]at q;simp at q
theorem tq(e:(eE h H).get? b=some o):h.get? b=some o/\H b=none:=by
 have a:=PySem.W.of_hideAll (trk h H) e;refine⟨a,?_⟩;cases q:H b with
 | none=>rfl
 | some x=>
  have c:b∈trk h H:=JB.mpr ⟨Ij.mpr (Hk a),by simp[q]⟩;have z:(eE h H).get? b=none:=PySem.W.hideAll_none (trk h H) c;rw[z]at e;cases e
structure Mod(K:PySem.W.Frag)(mg:Str->Option Value)(base:Heap):Prop where
 kin:K.In base
 glob:base.Ns mainGlobals mg
 blt:∃mb,base.Ns builtinsNs mb/\∀x:Str,x ≠ "__name__"->mb x=bootBuiltins x
 nolimit:base.NoLimit
structure Cx where
 prog:Program
 w:World
 K:PySem.W.Frag
 mg:Str->Option Value
 base:Heap
 A:Around
 N:List Str
 s₀:Shared
 H₀:Hp
 env:Env
 outer:List Env
 stack:List Env
 ex:List Addr
 fn:Str->Bool
 calm:Bool
 pn:List (Addr×Obj)
 xe:Value->Shared->Prop
def frs(l:List Env):List Addr:=l.filterMap (·.frame)
abbrev Cx.fs(X:Cx):List Addr:=frs X.outer
def Vis(a:Scope)(x:Str):Prop:=a.names.lookup x=some .local\/a.names.lookup x=some .cell\/a.names.lookup x=some .free
def Loc(a:Scope)(x:Str):Prop:=a.names.lookup x=some .local\/a.names.lookup x=some .cell
def Fb(a:Env)(h:Heap)(m:Str->Option Value)(x:Str)(u:Value):Prop:=
 (a.kindOf x=some .local/\m x=some u)\/((a.kindOf x=some .cell\/a.kindOf x=some .free)/\∃c,a.cells.lookup x=some c/\h.IsCell c (some u))
structure Cx.Ok(X:Cx):Prop where
 mod:Mod X.K X.mg X.base
 kind:X.env.scope.kind=.function
 glob:X.env.globals=mainGlobals
 blt:X.env.builtins=builtinsNs
 above:X.s₀.heap.objs.size<=X.env.locals
 inj:∀x y c,X.env.cells.lookup x=some c->X.env.cells.lookup y=some c->x=y
 has:∀x,(X.env.kindOf x=some .cell\/X.env.kindOf x=some .free)->∃c,X.env.cells.lookup x=some c
 cab:∀x c,X.fn x=true->X.env.cells.lookup x=some c->X.s₀.heap.objs.size<=c
 hd:X.calm=true->X.A.handled=none
 frames:X.A.frames=some X.stack
 stk:X.stack=X.outer\/(X.stack=X.env::X.outer/\X.env.frame=some X.env.locals)
 exf:∀b∈X.ex,b≠X.env.locals/\∀x c,X.env.cells.lookup x=some c->c≠b
 bs:∀b o,X.base.get? b=some o->X.s₀.heap.get? b=some o/\X.H₀ b=none
 bsz:X.base.objs.size<=X.s₀.heap.objs.size
 noex:∀b o,X.base.get? b=some o->b∉X.ex
 exfs:∀b∈X.ex,b∉X.fs
 funs:X.s₀.heap.FunFrames X.base X.outer
 frf:∀b∈X.fs,X.H₀ b=none
structure Inv(X:Cx)(pins:List (Addr×Obj))(σ:List (Option V))(H:Hp)(s:Shared):Prop where
 ok:X.Ok
 os:s.os=X.s₀.os
 bare:AllBare s.gens
 base:Un X.fs X.ex X.H₀ H X.s₀.heap s.heap
 loc:∃m,s.heap.Ns X.env.locals m/\∀(i:Nat)(x:Str)(v:V),X.N[i]?=some x->σ[i]?=some (some v)->Vis X.env.scope x->∃u,RelV v u/\Fb X.env s.heap m x u
 cell:∀x c,X.env.cells.lookup x=some c->∃v,s.heap.IsCell c v
 free:H X.env.locals=none
 freeC:∀x c,X.env.cells.lookup x=some c->H c=none
 pin:∀p∈X.pn++pins,s.heap.get? p.1=some p.2/\H p.1=none/\p.1≠X.env.locals/\p.1∉X.fs/\∀v,p.2.data≠.cell v
 hok:HOk X.prog X.w H s.heap
 len:σ.length=X.N.length
section
variable {X:Cx}{pins:List (Addr×Obj)}{σ:List (Option V)}{H H':Hp}{s:Shared}{h':Heap}
theorem Cx.Ok.nofr(c:X.Ok){b:Addr}{o:Obj}(e:X.base.get? b=some o):b∉X.fs:=λa=>by
 have:=(c.funs.mem a).1;rw[e]at this;cases this
theorem Inv.bs(I:Inv X pins σ H s):∀b o,X.base.get? b=some o->s.heap.get? b=some o/\H b=none:=λb o e=>
 ⟨I.base.keep b o (I.ok.bs b o e).1 (I.ok.bs b o e).2 (I.ok.nofr e) (I.ok.noex b o e),I.base.free b o (I.ok.bs b o e).1 (I.ok.bs b o e).2 (I.ok.noex b o e)⟩
theorem Inv.bk(I:Inv X pins σ H s):∀b o,X.base.get? b=some o->s.heap.get? b=some o:=λb o e=>(I.bs b o e).1
theorem Inv.mod(I:Inv X pins σ H s):Mod X.K X.mg X.base:=I.ok.mod
theorem Inv.kIn(I:Inv X pins σ H s):X.K.In s.heap:=I.ok.mod.kin.keeps I.bk
theorem Inv.fr(I:Inv X pins σ H s):∃m,Fr X.base X.env.locals s.heap m:=
 let ⟨m,a,_⟩:=I.loc
 ⟨m,a,I.bk,HJ I.ok.bsz I.ok.above⟩
theorem Inv.lt(I:Inv X pins σ H s):X.env.locals<s.heap.objs.size:=let ⟨_,a,_⟩:=I.loc;a.lt
theorem Inv.sz(I:Inv X pins σ H s):X.s₀.heap.objs.size<=s.heap.objs.size:=HJ I.ok.above (Lu I.lt)
theorem Inv.nofs(I:Inv X pins σ H s){a:Addr}(h:s.heap.objs.size<=a):a∉X.fs:=λb=>by
 obtain⟨_,o,c,_⟩:=I.ok.funs.mem b;exact absurd (Hx (Hk c) (HJ I.sz h)) (Jn _)
theorem Inv.cne(I:Inv X pins σ H s):∀x c,X.env.cells.lookup x=some c->c≠X.env.locals:=λx c e z=>by
 obtain⟨v,o,d,hd⟩:=I.cell x c e;obtain⟨m,⟨o',es,f,a,b,_⟩,_⟩:=I.loc;rw[z,a]at d;cases d;rw[b]at hd;cases hd
theorem Inv.funs(I:Inv X pins σ H s):s.heap.FunFrames X.base X.outer:=by
 have a:∀(l:List Env),(∀b∈frs l,b∈X.fs)->X.s₀.heap.FunFrames X.base l->s.heap.FunFrames X.base l:=by
  intro l;induction l with
  | nil=>intro _ _;trivial
  | cons j r n=>
   intro hs k;obtain⟨g,⟨L,o,c,i,h,hd⟩,m⟩:=k;have f:=hs L (by unfold frs;rw[Jq,c];exact Hf);obtain⟨p,e⟩:=I.base.slot L o h (I.ok.frf L f) f λz=>I.ok.exfs L z f;exact⟨g,⟨L,_,c,i,e,hd⟩,n (λb d=>hs b (by unfold frs;rw[Jq,c];exact Hh _ d)) m⟩
 exact a X.outer (λ_ d=>d) I.ok.funs
theorem Inv.stack(I:Inv X pins σ H s):s.heap.FunFrames X.base X.stack:=by
 rcases I.ok.stk with e | ⟨e,hf⟩
 ·rw[e];exact I.funs
 ·rw[e];obtain⟨m,a,_⟩:=I.loc;refine .cons (by rw[I.ok.kind];decide) hf a ?_ I.funs;exact Heap.get?_none_of_le (HJ I.ok.bsz I.ok.above)
theorem Inv.stkSub(I:Inv X pins σ H s):∀b∈frs X.stack,b∈X.env.locals::X.fs:=λb hb=>by
 rcases I.ok.stk with e | ⟨e,hf⟩
 ·rw[e]at hb;exact Hh _ hb
 ·rw[e]at hb;unfold frs at hb;rw[Jq,hf]at hb;exact hb
theorem Inv.stkFree(I:Inv X pins σ H s):∀b∈frs X.stack,H b=none:=λb a=>by
 rcases Ho.mp (I.stkSub b a)with e | a
 ·rw[e];exact I.free
 ·obtain⟨_,o,c,_⟩:=I.ok.funs.mem a;exact I.base.free b o c (I.ok.frf b a) λz=>I.ok.exfs b z a
theorem Inv.step{d':Drawn}{ch:List Addr}(I:Inv X pins σ H s)
  (h:∀b∈ch,(b∈X.ex\/X.s₀.heap.objs.size<=b)/\b≠X.env.locals/\(∀x c,X.env.cells.lookup x=some c->c≠b)/\∀p∈X.pn++pins,p.1≠b)
  (j:∀b o,b≠X.env.locals->b∉X.fs->b∉ch->s.heap.get? b=some o->H b=none->h'.get? b=some o)
  (A:∀b o,b≠X.env.locals->b∈X.fs->b∉ch->s.heap.get? b=some o->H b=none->∃O,h'.get? b=some { o with slots:=O }) (f:∀b o,b∉ch->s.heap.get? b=some o->H b=none->H' b=none)
  (C:∀b o,b∉ch->s.heap.get? b=some o->∃o',h'.get? b=some o')
  (G:∀b xs,H b=some (.tup xs)->H' b=some (.tup xs)) (J:∀b o u,H b=some (.frz o u)->H' b=some (.frz o u)) (E:∀b ps,H b=some (.tbl ps)->∃F,H' b=some (.tbl (ps++F)))
  (ns:∀m,s.heap.Ns X.env.locals m->h'.Ns X.env.locals m) (N:HOk X.prog X.w H' h') (Y:AllBare g') :
  Inv X pins σ H' { s with heap:=h',gens:=g',drawn:=d',toks:=t' }:=by
 have K:∀b o,X.s₀.heap.get? b=some o->b≠X.env.locals:=λb o e=>Hq (Hx (Hk e) I.ok.above);have w:∀b o,X.s₀.heap.get? b=some o->b∉X.ex->b∉ch:=λb o e a B=>by
  rcases(h b B).1 with z | z
  ·exact a z
  ·exact absurd (Hx (Hk e) z) (Jn _)
 have t:∀x c,X.env.cells.lookup x=some c->∀v,s.heap.IsCell c v->h'.IsCell c v:=λx c e v ⟨o,D,hd⟩=>by
  have g:=λz=>(h c z).2.2.1 x c e rfl;by_cases P:c∈X.fs
  ·obtain⟨O,q⟩:=A c o (I.cne x c e) P g D (I.freeC x c e);exact⟨_,q,hd⟩
  ·exact⟨o,j c o (I.cne x c e) P g D (I.freeC x c e),hd⟩
 refine⟨I.ok,I.os,Y,⟨λb o e n B a=>?_,λb o e n B a=>?_,λb o e n a=>?_,λb o e a=>?_,λb xs e=>G b xs (I.base.tups b xs e),λb o xs e=>J b o xs (I.base.frzs b o xs e),λb ps e=>?_⟩,?_,λx c e=>?_,?_,λx c e=>?_,λp S=>?_,N,I.len⟩
 ·exact j b o (K b o e) B (w b o e a) (I.base.keep b o e n B a) (I.base.free b o e n a)
 ·obtain⟨O,y⟩:=I.base.slot b o e n B a;obtain⟨M,L⟩:=A b _ (K b o e) B (w b o e a) y (I.base.free b o e n a);exact⟨M,L⟩
 ·obtain⟨o',y⟩:=I.base.there b o e a;exact f b o' (w b o e a) y (I.base.free b o e n a)
 ·obtain⟨o',y⟩:=I.base.there b o e a;exact C b o' (w b o e a) y
 ·obtain⟨U,y⟩:=I.base.tbls b ps e;obtain⟨m2,L⟩:=E b _ y;exact⟨U++m2,by rw[L,Array.append_assoc]⟩
 ·obtain⟨m,V,T⟩:=I.loc;refine⟨m,ns m V,λi x v y L W=>?_⟩;obtain⟨u,r,l⟩:=T i x v y L W;refine⟨u,r,?_⟩;rcases l with l | ⟨k,c,e,z⟩
  ·exact .inl l
  ·exact .inr ⟨k,c,e,t x c e _ z⟩
 ·obtain⟨v,z⟩:=I.cell x c e;exact⟨v,t x c e v z⟩
 ·obtain⟨m,⟨o,_,_,D,_⟩,_⟩:=I.loc;exact f _ o (λz=>(h _ z).2.1 rfl) D I.free
 ·obtain⟨v,o,D,hd⟩:=I.cell x c e;exact f c o (λz=>(h c z).2.2.1 x c e rfl) D (I.freeC x c e)
 ·obtain⟨e,n,R,Q,d⟩:=I.pin p S;have g:=λz=>(h p.1 z).2.2.2 p S rfl;exact⟨j p.1 p.2 R Q g e n,f p.1 p.2 g e n,R,Q,d⟩
theorem Inv.un(I:Inv X pins σ H s)(u:Un X.fs [] H H' s.heap h')(c:HOk X.prog X.w H' h'):Inv X pins σ H' { s with heap:=h',toks:=t' }:=by
 obtain⟨m,⟨o,es,k,g,r⟩,_⟩:=id I.loc;obtain⟨l,j⟩:=u.any g I.free (by simp);exact I.step (ch:=[]) (λ_ z=>nomatch z) (λb o _ d _ e n=>u.keep b o e n d (by simp)) (λb o _ d _ e n=>u.slot b o e n d (by simp)) (λb o _ e n=>u.free b o e n (by simp)) (λb o _ e=>u.there b o e (by simp)) u.tups u.frzs u.tbls (λm' i=>by
  obtain⟨o',es',f,a,h⟩:=i;rw[g]at a;cases a;exact⟨_,es',f,j,h⟩) c I.bare
theorem Inv.call{d':Drawn}{ch:List Addr}(I:Inv X pins σ H s)(u:Un (frs X.stack) ch H H' s.heap h')(g:HOk X.prog X.w H' h')(q:AllBare g')
  (f:∀b∈ch,(b∈X.ex\/X.s₀.heap.objs.size<=b)/\b≠X.env.locals/\(∀x c,X.env.cells.lookup x=some c->c≠b)/\∀p∈X.pn++pins,p.1≠b) :
  Inv X pins σ H' { s with heap:=h',gens:=g',drawn:=d',toks:=t' }:=by
 obtain⟨m,⟨o,es,v,j,r⟩,_⟩:=id I.loc;obtain⟨w,i⟩:=u.any j I.free λz=>(f _ z).2.1 rfl;exact I.step f (λb o i l a e n=>u.keep b o e n (λz=>(Ho.mp (I.stkSub b z)).elim i l) a) (λb o _ _ a e n=>u.any e n a) (λb o a e n=>u.free b o e n a) (λb o a e=>u.there b o e a) u.tups u.frzs u.tbls (λm' t=>by
  obtain⟨o',es',h,d,k⟩:=t;rw[j]at d;cases d;exact⟨_,es',h,i,k⟩) g q
theorem Inv.turned{t':Nat}{it:Addr}(I:Inv X pins σ H s)(k:∀b o,b≠it->s.heap.get? b=some o->h'.get? b=some o)(hn:H it=none)(hL:it≠X.env.locals)
  (h1:it∈X.ex\/X.s₀.heap.objs.size<=it) (h2:∀x c,X.env.cells.lookup x=some c->c≠it) (h3:∀p∈X.pn++pins,p.1≠it):Inv X pins σ H { s with heap:=h',toks:=t' }:=by
 have nit:∀b u,H b=some u->b≠it:=λb u e z=>by rw[z,hn]at e;cases e
 refine I.step (g':=s.gens) (d':=s.drawn) (ch:=[it]) (λb hb=>?_) (λb o _ _ hc e _=>k b o (λz=>hc (by simp[z])) e) (λb o _ _ hc e _=>⟨o.slots,k b o (λz=>hc (by simp[z])) e⟩) (λ_ _ _ _ n=>n)
  (λb o hc e=>⟨o,k b o (λz=>hc (by simp[z])) e⟩) (λ_ _ e=>e) (λ_ _ _ e=>e) (λb ps e=>⟨#[],by rw[e];simp⟩) (λm hm=>?_) (λb u e=>?_) I.bare
 ·have e:b=it:=by simpa using hb
  subst e;exact⟨h1,hL,h2,h3⟩
 ·obtain⟨o,es,ep,ho,r⟩:=hm;exact⟨o,es,ep,k _ o (Ne.symm hL) ho,r⟩
 ·refine(I.hok b u e).stay (λc v hc q=>k c v ?_ q) (λ_ q=>q) λ_ _ q=>q;rcases hc with z | z
  ·rw[z];exact nit b u e
  ·exact nit c _ z
theorem Inv.tok(I:Inv X pins σ H s)(t:Nat):Inv X pins σ H { s with toks:=t }:=I.un Un.refl I.hok
theorem Inv.kept(I:Inv X pins σ H s)(k:∀b u,s.heap.get? b=some u->h'.get? b=some u):Inv X pins σ H { s with heap:=h',toks:=t' }:=I.un (Un.kept k) (I.hok.kept k)
theorem Inv.laid{a:Addr}{o:HO}{t':Nat}(I:Inv X pins σ H s)(k:∀b u,s.heap.get? b=some u->h'.get? b=some u)(d:s.heap.objs.size<=a)(c:ObjOk X.prog X.w (upd H a o) h' a o) :
  Inv X pins σ (upd H a o) { s with heap:=h',toks:=t' }:=I.un (Un.laid k d (I.hok.fresh d)) (I.hok.laid k d c)
theorem Inv.write(I:Inv X pins σ H s)(f:Mut (H x))(d:e=x\/H e=some (.own x))(k:∀b u,b≠e->s.heap.get? b=some u->h'.get? b=some u)(a:∃u,h'.get? e=some u)
  (c:ObjOk X.prog X.w (upd H x o) h' x o):Inv X pins σ (upd H x o) { s with heap:=h',toks:=t' }:=I.un (Un.write f d k a) (I.hok.write f d k a c)
theorem Inv.weak(I:Inv X pins σ H s)(d:σ'.length=σ.length)(w:∀(i:Nat) v,σ'[i]?=some (some v)->σ[i]?=some (some v)):Inv X pins σ' H s:=
 ⟨I.ok,I.os,I.bare,I.base,let ⟨m,b,a⟩:=I.loc;⟨m,b,λi x v e c f=>a i x v e (w i v c) f⟩,I.cell,I.free,I.freeC,I.pin,I.hok,d.trans I.len⟩
theorem Inv.pins_of(I:Inv X pins σ H s)(h:∀p∈pins',s.heap.get? p.1=some p.2/\H p.1=none/\p.1≠X.env.locals/\p.1∉X.fs/\∀v,p.2.data≠.cell v):Inv X pins' σ H s:=
 ⟨I.ok,I.os,I.bare,I.base,I.loc,I.cell,I.free,I.freeC,λp a=>(Hz.mp a).elim (λz=>I.pin p (List.mem_append_left _ z)) (h p),I.hok,I.len⟩
theorem aF{N:List Str}(e:N.Nodup){i j:Nat}{x:Str}(a:N[i]?=some x)(b:N[j]?=some x):i=j:=by
 obtain⟨f,d⟩:=Hb.mp a;obtain⟨g,c⟩:=Hb.mp b;exact(Lj e).mp (d.trans c.symm)
theorem bb{i:Nat}{x:Str}{v:V}{u:Value}{Q:Unit->Shared->Prop}(I:Inv X pins σ H s)(hN:X.N.Nodup)(hi:X.N[i]?=some x)(hx:Loc X.env.scope x)(r:RelV v u)
  (h:∀s',Inv X pins (σ.set i (some v)) H s'->(∃a,Heap.SameBut a s.heap s'.heap/\(a=X.env.locals\/X.env.cells.lookup x=some a))->Q () s') (hf:X.fn x=true\/X.env.scope.names.lookup x=some .local:=by first | exact .inl rfl | exact .inr rfl | assumption):wpAny M A (storeName X.env x u) Q E s:=by
 obtain⟨m,hn,hl⟩:=id I.loc;have hcls:(X.env.scope.kind==.class||(X.env.scope.kind==.module&&X.env.locals != X.env.globals))=false:=by rw[I.ok.kind];rfl
 have hiσ:i<σ.length:=by rw[I.len];exact(Hb.mp hi).1
 have cne:=I.cne;have tracked:∀{a:Addr}{h':Heap},(∃o,s.heap.get? a=some o/\H a=none)->Heap.SameBut a s.heap h'->HOk X.prog X.w H h':=λ{a h'} ha hs b ob e=>by
  obtain⟨_,_,hfree⟩:=ha;refine(I.hok b ob e).stay (λc w' hc q=>(hs.2 c ?_).trans q) (λ_ q=>q) λ_ _ q=>q;rintro rfl;rcases hc with rfl | hc
  ·rw[hfree]at e;cases e
  ·rw[hfree]at hc;cases hc
 rcases hx with hk | hk
 ·refine wpAny_storeName_local hk hn (λh' hn' hs=>?_) hcls;obtain⟨oL,_,_,hoL,_⟩:=id hn;refine h _ ⟨I.ok,I.os,I.bare,⟨λb o e n hb hx=>?_,λb o e n hb hx=>?_,I.base.free,λb o e hx=>?_,I.base.tups,I.base.frzs,I.base.tbls⟩,⟨_,hn',λj y v' e1 e2 e3=>?_⟩,λy c e=>?_,I.free,I.freeC,λp hp=>?_,tracked ⟨oL,hoL,I.free⟩ hs,by simpa using I.len⟩ ⟨_,hs,.inl rfl⟩
  ·exact(hs.2 b (Hq (Hx (Hk e) I.ok.above))).trans (I.base.keep b o e n hb hx)
  ·obtain⟨sl,e1⟩:=I.base.slot b o e n hb hx;exact⟨sl,(hs.2 b (Hq (Hx (Hk e) I.ok.above))).trans e1⟩
  ·obtain⟨o',e1⟩:=I.base.there b o e hx;exact⟨o',(hs.2 b (Hq (Hx (Hk e) I.ok.above))).trans e1⟩
  ·by_cases hj:j=i
   ·subst hj;rw[hi]at e1;cases e1;rw[HV hiσ]at e2;cases e2;exact⟨u,r,.inl ⟨hk,by simp⟩⟩
   ·rw[HP (Ne.symm hj)]at e2;obtain⟨u',r',q⟩:=hl j y v' e1 e2 e3;refine⟨u',r',?_⟩;rcases q with ⟨k,e⟩ | ⟨k,c,e,z⟩
    ·refine .inl ⟨k,?_⟩;have:y≠x:=λe=>hj (aF hN e1 (e▸hi));simp[this,e]
    ·exact .inr ⟨k,c,e,z.sameBut hs (cne y c e)⟩
  ·obtain⟨w',z⟩:=I.cell y c e;exact⟨w',z.sameBut hs (cne y c e)⟩
  ·obtain⟨e,n,ne,nf,d⟩:=I.pin p hp;exact⟨(hs.2 p.1 ne).trans e,n,ne,nf,d⟩
 ·have hfn:X.fn x=true:=by
   rcases hf with z | z
   ·exact z
   ·rw[z]at hk;cases hk
  obtain⟨c,hc⟩:=I.ok.has x (.inl hk);obtain⟨w',z⟩:=I.cell x c hc;refine wpAny_storeName_cell I.ok.kind hk hc z (λh' hc' hs=>?_);obtain⟨oc,hoc,hocd⟩:=id z;refine h { s with heap:=h' } ⟨I.ok,I.os,I.bare,⟨λb o e n hb hx=>?_,λb o e n hb hx=>?_,I.base.free,λb o e hx=>?_,I.base.tups,I.base.frzs,I.base.tbls⟩,⟨m,hn.sameBut hs (Ne.symm (cne x c hc)),λj y v' e1 e2 e3=>?_⟩,λy c' e=>?_,I.free,I.freeC,λp hp=>?_,tracked ⟨oc,hoc,I.freeC x c hc⟩ hs,by simpa using I.len⟩ ⟨c,hs,.inr hc⟩
  ·exact(hs.2 b (Hq (Hx (Hk e) (I.ok.cab x c hfn hc)))).trans (I.base.keep b o e n hb hx)
  ·obtain⟨sl,e1⟩:=I.base.slot b o e n hb hx;exact⟨sl,(hs.2 b (Hq (Hx (Hk e) (I.ok.cab x c hfn hc)))).trans e1⟩
  ·obtain⟨o',e1⟩:=I.base.there b o e hx;exact⟨o',(hs.2 b (Hq (Hx (Hk e) (I.ok.cab x c hfn hc)))).trans e1⟩
  ·by_cases hj:j=i
   ·subst hj;rw[hi]at e1;cases e1;rw[HV hiσ]at e2;cases e2;exact⟨u,r,.inr ⟨.inl hk,c,hc,hc'⟩⟩
   ·rw[HP (Ne.symm hj)]at e2;obtain⟨u',r',q⟩:=hl j y v' e1 e2 e3;refine⟨u',r',?_⟩;rcases q with q | ⟨k,c',e,z'⟩
    ·exact .inl q
    ·refine .inr ⟨k,c',e,z'.sameBut hs ?_⟩;rintro rfl;exact hj (aF hN e1 (I.ok.inj _ _ _ e hc▸hi))
  ·by_cases hcc:c'=c
   ·subst hcc;exact⟨_,hc'⟩
   ·obtain⟨w2,z2⟩:=I.cell y c' e;exact⟨w2,z2.sameBut hs hcc⟩
  ·obtain⟨e,n,ne,nf,d⟩:=I.pin p hp;refine⟨(hs.2 p.1 ?_).trans e,n,ne,nf,d⟩;intro q;rw[q,hoc]at e;have q':=HH e;exact d w' (by rw[<- q'];exact hocd)
theorem G9{i:Nat}{x:Str}{v:V}{u:Value}{Q:Unit->Shared->Prop}(I:Inv X pins σ H s)(e:X.N.Nodup)(c:X.N[i]?=some x)(a:Loc X.env.scope x)(r:RelV v u)
  (h:∀s',Inv X pins (σ.set i (some v)) H s'->Q () s') (b:X.fn x=true\/X.env.scope.names.lookup x=some .local:=by first | exact .inl rfl | exact .inr rfl | assumption):wpAny M A (storeName X.env x u) Q E s:=
 bb I e c a r (λs' d _=>h s' d) b
theorem Inv.call'{ch:List Addr}(I:Inv X pins σ H s)(g:s'.os=s.os)(u:Un (frs X.stack) ch H H' s.heap s'.heap)(d:HOk X.prog X.w H' s'.heap)(f:AllBare s'.gens)
  (a:∀b∈ch,(b∈X.ex\/X.s₀.heap.objs.size<=b)/\b≠X.env.locals/\(∀x c,X.env.cells.lookup x=some c->c≠b)/\∀p∈X.pn++pins,p.1≠b):Inv X pins σ H' s':=by
 obtain⟨h',g',d',t',o'⟩:=s';have e:=g;subst e;exact I.call u d f a
end
abbrev XK:=Value->Option Addr->Hp->Prop
abbrev St:=List (Option V)
abbrev VK:=V->Hp->Prop
abbrev TE:=St->Hp->VK->Prop
abbrev TT:=St->Hp->(Bool->Hp->Prop)->Prop
abbrev TA:=St->Hp->(List V->Hp->Prop)->Prop
structure Ends where
 nx:St->Hp->Prop
 rt:VK
 bk:St->Hp->Prop:=λ_ _=>False
 ct:St->Hp->Prop:=λ_ _=>False
abbrev TS:=Ends->St->Hp->Prop
def EP(X:Cx)(pins:List (Addr×Obj))(σ:St)(Q:VK)(u:Value)(s':Shared):Prop:=∃v H',Inv X pins σ H' s'/\RelV v u/\Q v H'
def TP(X:Cx)(pins:List (Addr×Obj))(σ:St)(Q:Bool->Hp->Prop)(b:Bool)(s':Shared):Prop:=∃H',Inv X pins σ H' s'/\Q b H'
def AP(X:Cx)(pins:List (Addr×Obj))(σ:St)(Q:List V->Hp->Prop)(us:List Value)(s':Shared):Prop:=∃vs H',Inv X pins σ H' s'/\Vals vs us/\Q vs H'
def SP(X:Cx)(pins:List (Addr×Obj))(D:Ends)(f:Flow)(s':Shared):Prop:=
 match f with
 | .next=>∃a H',Inv X pins a H' s'/\D.nx a H'
 | .brk=>∃a H',Inv X pins a H' s'/\D.bk a H'
 | .cont=>∃a H',Inv X pins a H' s'/\D.ct a H'
 | .ret u=>∃v a H',Inv X pins a H' s'/\RelV v u/\D.rt v H'
def PE(X:Cx)(e:Expr)(t:TE):Prop:=
 ∀(pins:List (Addr×Obj)) (s:Shared) (σ:St) (H:Hp) (Q:VK),Inv X pins σ H s->t σ H Q->wpAny (model X.prog X.w) X.A (eval e X.env) (EP X pins σ Q) X.xe s
def PT(X:Cx)(e:Expr)(t:TT):Prop:=
 ∀(pins:List (Addr×Obj)) (s:Shared) (σ:St) (H:Hp) (Q:Bool->Hp->Prop),Inv X pins σ H s->t σ H Q->wpAny (model X.prog X.w) X.A (isTrue e X.env (eval e X.env)) (TP X pins σ Q) X.xe s
def PW(X:Cx)(e:Expr)(t:TT):Prop:=
 ∀(a:Sem Value) (pins:List (Addr×Obj)) (s:Shared) (σ:St) (H:Hp) (Q:Bool->Hp->Prop),Inv X pins σ H s->t σ H Q->wpAny (model X.prog X.w) X.A (isTrue e X.env a) (TP X pins σ Q) X.xe s
theorem PW.pt(h:PW X e t):PT X e t:=h _
def PA(X:Cx)(es:List Expr)(t:TA):Prop:=
 ∀(pos:Pos) (pins:List (Addr×Obj)) (s:Shared) (σ:St) (H:Hp) (Q:List V->Hp->Prop),Inv X pins σ H s->t σ H Q->wpAny (model X.prog X.w) X.A (spliced (backTo pos (starEach es X.env))) (AP X pins σ Q) X.xe s
def PS(X:Cx)(st:Stmt)(t:TS):Prop:=
 ∀(pins:List (Addr×Obj)) (s:Shared) (σ:St) (H:Hp) (D:Ends),Inv X pins σ H s->t D σ H->wpAny (model X.prog X.w) X.A (exec st X.env) (SP X pins D) X.xe s
def PSs(X:Cx)(st:List Stmt)(t:TS):Prop:=
 ∀(pins:List (Addr×Obj)) (s:Shared) (σ:St) (H:Hp) (D:Ends),Inv X pins σ H s->t D σ H->wpAny (model X.prog X.w) X.A (execs st X.env) (SP X pins D) X.xe s
theorem thn{M:Model}{A:Around}{E:Value->Shared->Prop}{s:Shared}(h:wpAny M A t Q E s)(b:∀a s,Q a s->Q' a s):wpAny M A t Q' E s:=Hy h b λ_ _ x=>x
section
variable {X:Cx}
def zK(i:Nat):TE:=λσ H Q=>∃v,σ[i]?=some (some v)/\Q v H
def tC(v:V):TE:=λ_ H Q=>Q v H
theorem oS{pos:Pos}(o:X.N[i]?=some x)(p:Vis X.env.scope x)(hd:(x==("__debug__" : Str))=false:=by decide) (f:(x==("__classdict__" : Str))=false:=by decide):PE X (.Name x pos) (zK i):=by
 intro pins s σ H Q I h;obtain⟨v,e,h⟩:=h;obtain⟨m,j,k⟩:=I.loc;obtain⟨u,r,l⟩:=k i x v o e p;have d:EP X pins σ Q u s:=⟨v,H,I,r,h⟩;rcases l with ⟨b,n⟩ | ⟨b,c,g,a⟩
 ·exact wpAny_Name (wpAny_loadName_local I.ok.kind b j n d) hd
 ·rcases b with b | b
  ·exact wpAny_Name (wpAny_loadName_cell I.ok.kind b g a d) hd
  ·exact wpAny_Name (wpAny_loadName_free I.ok.kind b g a d f) hd
theorem Bc{i j pos}:PE X (.Constant (.int i) j pos) (tC (.int i)):=λ_ _ _ H _ I h=>wpAny_Constant_int ⟨.int i,H,I.tok _,⟨_,rfl⟩,h⟩
theorem Dx{b j pos}:PE X (.Constant (.bool b) j pos) (tC (.bl b)):=λ_ _ _ H _ I h=>Constant_bool ⟨.bl b,H,I,rfl,h⟩
theorem yd{j pos}:PE X (.Constant .none j pos) (tC .non):=λ_ _ _ H _ I h=>Constant_none ⟨.non,H,I,rfl,h⟩
theorem yZ{x j pos}:PE X (.Constant (.str x) j pos) (tC (.str x)):=λ_ _ _ H _ I h=>Calls.Constant_str ⟨.str x,H,I.tok _,⟨_,rfl⟩,h⟩
def Gl(X:Cx)(x:Str):Prop:=X.env.kindOf x=some .globalImplicit
theorem D9{pins:List (Addr×Obj)}{s:Shared}{σ:St}{H:Hp}{x:Str}{u:Value}{pos:Pos}{Q:Value->Shared->Prop}(I:Inv X pins σ H s)(a:Gl X x)(b:X.mg x=some u)(h:Q u s)
  (hd:(x==("__debug__" : Str))=false:=by decide):wpAny (model X.prog X.w) X.A (eval (.Name x pos) X.env) Q E s:=
 KI I.ok.kind a (Calls.loadGlobal_global (by rw[I.ok.glob];exact I.mod.glob.keeps I.bk) b h) hd
theorem B7{E:Value->Shared->Prop}{pins:List (Addr×Obj)}{s:Shared}{σ:St}{H:Hp}{x:Str}{u:Value}{pos:Pos}{Q:Value->Shared->Prop}(I:Inv X pins σ H s)(d:Gl X x)(e:X.mg x=none)(f:bootBuiltins x=some u)(h:Q u s)
  (a:x ≠ "__name__":=by decide) (hd:(x==("__debug__" : Str))=false:=by decide):wpAny (model X.prog X.w) X.A (eval (.Name x pos) X.env) Q E s:=by
 obtain⟨g,b,c⟩:=I.mod.blt;exact KI I.ok.kind d (Calls.loadGlobal_builtin (by rw[I.ok.glob];exact I.mod.glob.keeps I.bk) e (by rw[I.ok.blt];exact b.keeps I.bk) ((c x a).trans f) h) hd
theorem Z5{u:Value}{pos:Pos}(a:Gl X x)(b:X.mg x=some u)(r:RelV v u)(hd:(x==("__debug__" : Str))=false:=by decide):PE X (.Name x pos) (tC v):=
 λ_ _ _ H _ I h=>D9 I a b ⟨v,H,I,r,h⟩ hd
theorem tK{u:Value}{pos:Pos}(c:Gl X x)(d:X.mg x=none)(b:bootBuiltins x=some u)(r:RelV v u)(a:x ≠ "__name__":=by decide) (hd:(x==("__debug__" : Str))=false:=by decide):PE X (.Name x pos) (tC v):=
 λ_ _ _ H _ I h=>B7 I c d b ⟨v,H,I,r,h⟩ a hd
variable {a b:Expr}{ta tb:TE}{pos:Pos}
variable {tA tB':TT}{rest:List Expr}
def GQ(t u:TT):TT:=λσ H Q=>t σ H λc a=>if c=true then u σ a Q else Q false a
def tOr(t u:TT):TT:=λσ H Q=>t σ H λc a=>if c=true then Q true a else u σ a Q
def BD(t:TT):TT:=λσ H Q=>t σ H λc a=>Q (!c) a
theorem pw_and1(b:PT X a tA):PW X (.BoolOp .And [a] pos) tA:=by
 intro d pins s σ H Q I h;refine isTrue_and (thn (b pins s σ H Q I h) λc f e=>?_);cases c with
 | true=>exact isTrue_and_nil e
 | false=>exact e
theorem pw_or1(b:PT X a tA):PW X (.BoolOp .Or [a] pos) tA:=by
 intro d pins s σ H Q I h;refine isTrue_or (thn (b pins s σ H Q I h) λc f e=>?_);cases c with
 | false=>exact isTrue_or_nil e
 | true=>exact e
theorem pw_and(g:PT X a tA)(j:PW X (.BoolOp .And (b::rest) pos) tB'):PW X (.BoolOp .And (a::b::rest) pos) (GQ tA tB'):=by
 intro i pins s σ H Q I h;refine isTrue_and (thn (g pins s σ H _ I h) λc k ⟨e,d,f⟩=>?_);cases c with
 | true=>exact j i pins k σ e Q d f
 | false=>exact⟨e,d,f⟩
theorem pw_or(g:PT X a tA)(j:PW X (.BoolOp .Or (b::rest) pos) tB'):PW X (.BoolOp .Or (a::b::rest) pos) (tOr tA tB'):=by
 intro i pins s σ H Q I h;refine isTrue_or (thn (g pins s σ H _ I h) λc k ⟨e,d,f⟩=>?_);cases c with
 | true=>exact⟨e,d,f⟩
 | false=>exact j i pins k σ e Q d f
theorem AX(d:PT X a tA):PT X (.UnaryOp .Not a pos) (BD tA):=by
 intro pins s σ H Q I h;exact isTrue_not (d pins s σ H (λc b=>Q (!c) b) I h)
theorem BO{op}{t:TE}(h:PE X a t):PE X (.BoolOp op [a] pos) t:=λpins s σ H Q I b=>BoolOp_one (h pins s σ H Q I b)
def tIf(t:TT)(b d:TE):TE:=λσ H Q=>t σ H λc a=>if c=true then b σ a Q else d σ a Q
theorem sJ(l:PT X c tA)(j:PE X a ta)(k:PE X b tb):PE X (.IfExp c a b pos) (tIf tA ta tb):=by
 intro pins s σ H Q I h;refine wpAny_IfExp (thn (l pins s σ H _ I h) λd g ⟨f,e,i⟩=>?_);cases d with
 | true=>exact j pins g σ f Q e i
 | false=>exact k pins g σ f Q e i
end
def SqL(K:PySem.W.Frag)(H:Hp)(a:Addr)(xs:List V):Prop:=
 Rd H a (.lst xs) \/
  ∃(o:Obj) (b:Array Value) (n:Nat),K.lookup a=some o/\o.cls=.type "list"/\o.dict=none/\o.data=.seq b n/\b.size<=sizeLine/\Vals xs b.toList
def SqT(K:PySem.W.Frag)(H:Hp)(a:Addr)(xs:List V):Prop:=
 Rd H a (.tup xs) \/
  ∃(o:Obj) (b:Array Value) (n:Nat),K.lookup a=some o/\o.cls=.type "tuple"/\o.data=.seq b n/\b.size<=sizeLine/\Vals xs b.toList
def GT:Value->Option V
 | .none=>some .non
 | .bool b=>some (.bl b)
 | .int i _=>some (.int i)
 | .str x _=>some (.str x)
 | .bytes b _=>some (.byt b)
 | .float b _=>some (.flt b)
 | .ref a=>some (.ref a)
 | .type n=>some (.ty n)
 | _=>none
theorem RelV.abs(r:RelV x u):GT u=some x:=by
 cases x with
 | non=>cases r;rfl
 | bl _=>cases r;rfl
 | int _=>obtain⟨t,rfl⟩:=r;rfl
 | str _=>obtain⟨t,rfl⟩:=r;rfl
 | byt _=>obtain⟨t,rfl⟩:=r;rfl
 | flt _=>obtain⟨t,rfl⟩:=r;rfl
 | ref _=>cases r;rfl
 | ty _=>cases r;rfl
theorem RelV.inj{u:Value}(r:RelV x u)(q:RelV y u):x=y:=HH (r.abs.symm.trans q.abs)
theorem Vals.inj:∀{xs ys:List V}{us:List Value},Vals xs us->Vals ys us->xs=ys
 | _,_,_,.nil,.nil=>rfl
 | _,_,_,.cons r t,.cons a t'=>by rw[r.inj a,Vals.inj t t']
section
variable {X:Cx}{pins:List (Addr×Obj)}{σ:St}{H:Hp}{s:Shared}{a:Addr}{xs ys:List V}
theorem Inv.list(I:Inv X pins σ H s)(h:SqL X.K H a xs):∃b:List Value,Vals xs b/\PlainL s.heap a b.toArray/\xs.length<=sizeLine:=by
 rcases h with h | ⟨o,b,n,hk,hc,hd,hs,hz,r⟩
 ·obtain⟨z,b,n,r,e⟩:=h.ok I.hok;exact⟨b,r,⟨_,n,e,rfl,rfl,rfl⟩,z⟩
 ·refine⟨b.toList,r,⟨o,n,I.kIn a o hk,hc,hd,by simpa using hs⟩,?_⟩;have e:=r.length;simp at e;omega
theorem Inv.tuple(I:Inv X pins σ H s)(h:SqT X.K H a xs):∃b:List Value,Vals xs b/\IsTup s.heap a b.toArray/\xs.length<=sizeLine:=by
 rcases h with h | ⟨o,b,n,hk,hc,hs,hz,r⟩
 ·obtain⟨z,b,r,p⟩:=h.ok I.hok;exact⟨b,r,p.is,z⟩
 ·refine⟨b.toList,r,⟨o,I.kIn a o hk,hc,n,by simpa using hs⟩,?_⟩;have e:=r.length;simp at e;omega
theorem Inv.list_inj(I:Inv X pins σ H s)(h:SqL X.K H a xs)(h':SqL X.K H a ys):xs=ys:=by
 obtain⟨b,r,⟨o,n,e,_,_,d⟩,_⟩:=I.list h;obtain⟨its',f,⟨o',g,c,_,_,d'⟩,_⟩:=I.list h';rw[e]at c;cases c;rw[d]at d';injection d' with d1 _;have:b=its':=by simpa using congrArg Array.toList d1
 subst this;exact r.inj f
theorem Inv.tuple_inj(I:Inv X pins σ H s)(h:SqT X.K H a xs)(h':SqT X.K H a ys):xs=ys:=by
 obtain⟨b,r,⟨o,e,_,n,d⟩,_⟩:=I.tuple h;obtain⟨its',f,⟨o',c,_,g,d'⟩,_⟩:=I.tuple h';rw[e]at c;cases c;rw[d]at d';injection d' with d1 _;have:b=its':=by simpa using congrArg Array.toList d1
 subst this;exact r.inj f
end
abbrev Cx.wish(X:Cx)(E:Value->Shared->Prop):Cx:={ X with xe:=E }
abbrev Cx.nox(X:Cx):Cx:=X.wish λ_ _=>False
theorem Cx.Ok.wish{X:Cx}(a:X.Ok)(E:Value->Shared->Prop):(X.wish E).Ok:=
 ⟨a.mod,a.kind,a.glob,a.blt,a.above,a.inj,a.has,a.cab,a.hd,a.frames,a.stk,a.exf,a.bs,a.bsz,a.noex,a.exfs,a.funs,a.frf⟩
theorem Cx.Ok.unwish{X:Cx}{E:Value->Shared->Prop}(a:(X.wish E).Ok):X.Ok:=
 ⟨a.mod,a.kind,a.glob,a.blt,a.above,a.inj,a.has,a.cab,a.hd,a.frames,a.stk,a.exf,a.bs,a.bsz,a.noex,a.exfs,a.funs,a.frf⟩
section
variable {X:Cx}{pins:List (Addr×Obj)}{σ:St}{H:Hp}{s:Shared}{E:Value->Shared->Prop}
theorem Inv.wish(I:Inv X pins σ H s)(E:Value->Shared->Prop):Inv (X.wish E) pins σ H s:=⟨I.ok.wish E,I.os,I.bare,I.base,I.loc,I.cell,I.free,I.freeC,I.pin,I.hok,I.len⟩
theorem Inv.unwish(I:Inv (X.wish E) pins σ H s):Inv X pins σ H s:=⟨I.ok.unwish,I.os,I.bare,I.base,I.loc,I.cell,I.free,I.freeC,I.pin,I.hok,I.len⟩
theorem SP.unwish(h:SP (X.wish E) pins D f s'):SP X pins D f s':=by
 cases f with
 | next=>obtain⟨σ',H',I,q⟩:=h;exact⟨σ',H',I.unwish,q⟩
 | brk=>obtain⟨σ',H',I,q⟩:=h;exact⟨σ',H',I.unwish,q⟩
 | cont=>obtain⟨σ',H',I,q⟩:=h;exact⟨σ',H',I.unwish,q⟩
 | ret u=>obtain⟨v,σ',H',I,r,q⟩:=h;exact⟨v,σ',H',I.unwish,r,q⟩
theorem PSs.nox{st:List Stmt}{t:TS}(h:PSs X.nox st t):PSs X st t:=λpins s σ H D I a=>
 Hy (h pins s σ H D (I.wish _) a) (λ_ _ q=>q.unwish) λ_ _ z=>False.elim z
end
section
variable {X:Cx}{st:Stmt}{rest:List Stmt}{t u:TS}{e:Expr}{te:TE}{pos:Pos}
def tNext:TS:=λD σ H=>D.nx σ H
def GH(t u:TS):TS:=λD σ H=>t { D with nx:=u D } σ H
theorem tR:PSs X [] tNext:=λ_ _ σ H _ I h=>JC ⟨σ,H,I,h⟩
theorem Q8(h1:PS X st t)(h2:PSs X rest u):PSs X (st::rest) (GH t u):=by
 intro pins s σ H D I h;refine Lk (thn (h1 pins s σ H { D with nx:=u D } I h) λf s1 q=>?_);cases f with
 | next=>
  obtain⟨σ',H',I',q⟩:=q;exact h2 pins s1 σ' H' D I' q
 | ret v=>exact q
 | brk=>exact q
 | cont=>exact q
theorem dD(h1:PS X st t):PSs X [st] t:=by
 intro pins s σ H D I h;refine Lk (thn (h1 pins s σ H D I h) λf s1 q=>?_);cases f with
 | next=>exact JC q
 | ret v=>exact q
 | brk=>exact q
 | cont=>exact q
theorem Inv.quiet{σ:St}{H:Hp}{s:Shared}(I:Inv X pins σ H s):interactive X.env=false:=by simp[interactive,I.ok.kind]
def EQ(te:TE):TS:=λD σ H=>te σ H λ_ a=>D.nx σ a
theorem Z8(a:PE X e te)(hs:swapsWith e none pos.line X.env=pure false:=by rfl):PS X (.Expr e pos) (EQ te):=by
 intro pins s σ H D I h;exact wpAny_Expr_any (thn (a pins s σ H _ I h) λv f ⟨x,c,b,g,d⟩=>⟨σ,c,b,d⟩) I.quiet hs
def Fv(te:TE):TS:=λD σ H=>te σ H D.rt
theorem BV(a:PE X e te):PS X (.Return (some e) pos) (Fv te):=by
 intro pins s σ H D I h;exact wpAny_Return_some (thn (a pins s σ H _ I h) λv g ⟨x,c,b,f,d⟩=>⟨x,σ,c,b,f,d⟩)
def Ga(c:TT)(t u:TS):TS:=λD σ H=>c σ H λb a=>if b=true then t D σ a else u D σ a
theorem ps_if{j:TT}(m:PT X c j)(k:PSs X a t)(l:PSs X b u):PS X (.If c a b pos) (Ga j t u):=by
 intro pins s σ H D I h;refine wpAny_If (thn (m pins s σ H _ I h) λd g ⟨f,e,i⟩=>?_);cases d with
 | true=>exact k pins g σ f D e i
 | false=>exact l pins g σ f D e i
def tNever:TS:=λ_ _ _=>False
theorem bO:PS X st tNever:=λ_ _ _ _ _ _ h=>h.elim
end
abbrev TG:=V->St->Hp->(St->Hp->Prop)->Prop
abbrev TGs:=List V->St->Hp->(St->Hp->Prop)->Prop
def PG(X:Cx)(a:Expr)(t:TG):Prop:=
 ∀(pins:List (Addr×Obj)) (s:Shared) (σ:St) (H:Hp) (v:V) (u:Value) (Q:St->Hp->Prop),Inv X pins σ H s->RelV v u->t v σ H Q ->
  wpAny (model X.prog X.w) X.A (assign a X.env u) (λ_ s'=>∃b H',Inv X pins b H' s'/\Q b H') X.xe s
def PGs(X:Cx)(b:List Expr)(t:TGs):Prop:=
 ∀(pins:List (Addr×Obj)) (s:Shared) (σ:St) (H:Hp) (vs:List V) (us:List Value) (Q:St->Hp->Prop),Inv X pins σ H s->Vals vs us->t vs σ H Q ->
  wpAny (model X.prog X.w) X.A (assignInOrder ((assignEach b X.env).map (·.2)) us) (λ_ s'=>∃a H',Inv X pins a H' s'/\Q a H') X.xe s
abbrev yc:=V->V->V->Hp->(Hp->Prop)->Prop
def zM(X:Cx)(t:yc):Prop:=
 ∀(pins:List (Addr×Obj)) (s:Shared) (σ:St) (H:Hp) (o i v:V) (b a u:Value) (Q:Hp->Prop),Inv X pins σ H s->RelV o b->RelV i a->RelV v u->t o i v H Q ->
  wpAny (model X.prog X.w) X.A (setItem b a u) (λ_ s'=>∃H',Inv X pins σ H' s'/\Q H') X.xe s
abbrev TIp:=V->V->Hp->VK->Prop
def PIp(X:Cx)(op:Operator)(t:TIp):Prop:=
 ∀(pins:List (Addr×Obj)) (s:Shared) (σ:St) (H:Hp) (x y:V) (v u:Value) (Q:VK),Inv X pins σ H s->RelV x v->RelV y u->t x y H Q ->
  wpAny (model X.prog X.w) X.A (inplaceOp op v u) (EP X pins σ Q) X.xe s
section
variable {X:Cx}{pos:Pos}
def aK(i:Nat):TG:=λv σ H Q=>Q (σ.set i (some v)) H
theorem L9(e:X.N.Nodup)(c:X.N[i]?=some x)(a:Loc X.env.scope x)(b:X.fn x=true\/X.env.scope.names.lookup x=some .local:=by first | exact .inl rfl | exact .inr rfl | assumption):PG X (.Name x pos) (aK i):=by
 intro pins s σ H v u Q I r h;exact wpAny_assign_Name (G9 I e c a r (λs' d=>⟨_,H,d,h⟩) b)
def gNil:TGs:=λvs σ H Q=>vs=[]/\Q σ H
def nz(t:TG)(u:TGs):TGs:=λvs σ H Q=>∃v r,vs=v::r/\t v σ H λa H'=>u r a H' Q
theorem jt:PGs X [] gNil:=by
 intro pins s σ H vs us Q I r h;obtain⟨e,h⟩:=h;subst e;cases r;exact assignInOrder_nil ⟨σ,H,I,h⟩
theorem ab{t:TG}{u:TGs}(b:PG X e t)(g:PGs X es u)
  (hs:(assignEach (e::es) X.env).map (·.2)=assign e X.env::(assignEach es X.env).map (·.2):=by rfl):PGs X (e::es) (nz t u):=by
 intro pins s σ H vs us Q I r h;obtain⟨v,l,f,h⟩:=h;subst f;cases r with
 | cons r i=>
  rw[hs];refine assignInOrder_cons (thn (b pins s σ H _ _ _ I r h) λ_ j ⟨a,d,c,k⟩=>?_);exact g pins j a d _ _ Q c i k
def FK(K:PySem.W.Frag)(n:Nat)(t:TGs):TG:=λv σ H Q=>∃a xs,v=.ref a/\SqT K H a xs/\xs.length=n/\t xs σ H Q
theorem qV{k:Nat}{t:TGs}{n:Nat}(x:X.calm=true)(h:PGs X es t)
  (i:(assignEach es X.env).length=n:=by rfl) (d:(assignEach es X.env).findIdx? (·.1)=none:=by rfl):PG X (.Tuple es k pos) (FK X.K n t):=by
 intro pins s σ H v u Q I r c;obtain⟨a,xs,w,j,p,c⟩:=c;subst w;cases r;obtain⟨q,f,l,hz⟩:=I.tuple j;refine assign_Tuple_tuple (I.ok.hd x) l (by simp[i,<- p,f.length]) d λh' g=>?_;have m:=I.kept (t':=s.toks) λb o e=>g b o (Hq (Hk e)) e;exact h pins _ σ H xs _ Q m (by simpa using f) c
def Fe(c d:TE)(t:yc):TG:=λv σ H Q=>c σ H λo b=>d σ b λi e=>t o i v e λa=>Q σ a
theorem zE{c d:TE}{t:yc}(w:PE X o c)(A:PE X i d)(hs:zM X t)
  (q:∀v,assign (.Subscript o i pos) X.env v=(do
   let a <- holding [v] (eval o X.env)
   let b <- holding [v,a] (eval i X.env)
   standAt pos
   holding [v,a,b] (setItem a b v)
   release [v,a,b] []):=by intro _;rfl):PG X (.Subscript o i pos) (Fe c d t):=by
 intro pins s σ H v u Q I r h;rw[q];refine Gx (HX (thn (w pins s σ H _ I h) λa f ⟨x,l,g,p,n⟩=>?_));refine Gx (HX (thn (A pins f σ l _ g n) λb C ⟨y,D,z,k,e⟩=>?_));refine Gx (Iz (Gx (HX (thn (hs pins C σ D x y v a b u _ z p k r e) λ_ E ⟨B,j,m⟩=>?_))));exact wpAny_release ⟨σ,B,j,m⟩
def qJ(te:TE)(g:TG):TS:=λD σ H=>te σ H λx a=>g x σ a D.nx
theorem gq{tg e:Expr}{te:TE}{g:TG}(a:PE X e te)(f:PG X tg g)(hs:swapsWithSole [tg] e pos.line X.env=pure false:=by rfl)(l:swappedStores [tg] e X.env=pure none:=by rfl)
  (b:(assignEach [tg] X.env).map (·.2)=[assign tg X.env]:=by rfl):PS X (.Assign [tg] e pos) (qJ te g):=by
 intro pins s σ H D I h;refine wpAny_Assign_stores (thn (a pins s σ H _ I h) λv i ⟨x,d,c,k,j⟩=>?_) hs l;rw[b];exact thn (f pins i σ d x v _ c k j) λ_ m q=>q
theorem nL(k:X.N.Nodup)(f:X.N[i]?=some x)(a:Loc X.env.scope x)(d:PE X e te)(hs:swapsWith e (some (.Name x pos')) pos.line X.env=pure false:=by rfl)(b:X.fn x=true\/X.env.scope.names.lookup x=some .local:=by first | exact .inl rfl | exact .inr rfl | assumption) :
  PS X (.Assign [.Name x pos'] e pos) (qJ te (aK i)):=by
 intro pins s σ H D I h;refine wpAny_Assign_Name (thn (d pins s σ H _ I h) λv n ⟨y,j,g,m,l⟩=>?_) hs;exact G9 g k f a m (λo c=>⟨_,j,c,l⟩) b
def Fu(i:Nat)(te:TE)(b:TIp):TS:=λD σ H=>∃x,σ[i]?=some (some x)/\te σ H λy c=>b x y c λz a=>D.nx (σ.set i (some z)) a
theorem Be(R:X.N.Nodup)(o:X.N[i]?=some x)(g:Loc X.env.scope x)(C:PE X e te)(O:PIp X op ti)(B:X.fn x=true\/X.env.scope.names.lookup x=some .local:=by first | exact .inl rfl | exact .inr rfl | assumption) :
  PS X (.AugAssign (.Name x pos') op e pos) (Fu i te ti):=by
 intro pins s σ H D I h;obtain⟨v,Q,h⟩:=h;obtain⟨m,G,p⟩:=I.loc;have j:Vis X.env.scope x:=by rcases g with k | k;exact .inl k;exact .inr (.inl k)
 obtain⟨u,r,l⟩:=p i x v o Q j;refine wpAny_AugAssign_Name ?_;have n:wpAny (model X.prog X.w) X.A (eval e X.env) (λw f=>wpAny (model X.prog X.w) X.A (inplaceOp op u w) (λr d=>wpAny (model X.prog X.w) X.A (storeName X.env x r) (λ_=>SP X pins D .next) X.xe d) X.xe f) X.xe s:=by
  refine thn (C pins s σ H _ I h) λw t ⟨y,K,E,N,M⟩=>?_;refine thn (O pins t σ K v y u w _ E r N M) λz V ⟨T,S,P,J,q⟩=>?_;exact G9 P R o g J (λU F=>⟨_,S,F,q⟩) B
 rcases l with ⟨a,L⟩ | ⟨a,c,A,b⟩
 ·exact wpAny_loadName_local I.ok.kind a G L n
 ·rcases a with a | a
  ·exact wpAny_loadName_cell I.ok.kind a A b n
  ·rcases g with k | k
   ·have:X.env.scope.names.lookup x=some .free:=a;rw[k]at this;cases this
   ·have:X.env.scope.names.lookup x=some .free:=a;rw[k]at this;cases this
def ipI(f:Int->Int->Int):TIp:=λx y H Q=>∃i j,x=.int i/\y=.int j/\Q (.int (f i j)) H
theorem zf:PIp X .Add (ipI λi j=>i+j):=by
 intro pins s σ H x y v u Q I c a h;obtain⟨i,j,d,b,q⟩:=h;subst d;subst b;obtain⟨t,rfl⟩:=c;obtain⟨t',rfl⟩:=a;exact iadd_int ⟨.int _,H,I.tok _,⟨_,rfl⟩,q⟩
end
section
variable {X:Cx}{pos:Pos}
def yz(c:TT)(e:TS):TS:=λD σ H=>∃W:Nat->St->Hp->Prop,(∃m,W m σ H)/\∀m σ H,W m σ H ->
 c σ H λb d=>if b=true then ∃N:St->Hp->Prop,(∀a H',N a H'->∃m',m'<m/\W m' a H')/\e { D with nx:=N,ct:=N,bk:=D.nx } σ d else D.nx σ d
theorem mh{tc:TT}{tb:TS}(hp:PassesOwn (model X.prog X.w) X.A X.env X.xe)(hc:PT X c tc)(hb:PSs X body tb):PS X (.While c body [] pos) (yz tc tb):=by
 intro pins s σ H D I h;obtain⟨W,⟨m0,w0⟩,turn⟩:=h;refine wpAny_While (codeAny_whileLoop (λn s'=>∃σ' H',Inv X pins σ' H' s'/\W n σ' H') ?_ m0 ⟨σ,H,I,w0⟩);rintro n s1 ⟨σ1,H1,I1,w1⟩;refine Ji hp (thn (hc pins s1 σ1 H1 _ I1 (turn n σ1 H1 w1)) λb s2 ⟨H2,I2,q2⟩=>?_);cases b with
 | true=>
  obtain⟨N,hN,q2⟩:=q2;rw[if_pos rfl];refine Ji hp (thn (hb pins s2 σ1 H2 _ I2 q2) λf s3 q3=>?_);cases f with
  | next=>
   obtain⟨σ3,H3,I3,n3⟩:=q3;obtain⟨m',hm,w3⟩:=hN σ3 H3 n3;exact⟨m',hm,σ3,H3,I3,w3⟩
  | cont=>
   obtain⟨σ3,H3,I3,n3⟩:=q3;obtain⟨m',hm,w3⟩:=hN σ3 H3 n3;exact⟨m',hm,σ3,H3,I3,w3⟩
  | brk=>exact q3
  | ret v=>exact q3
 | false=>
  rw[if_neg He];exact JC ⟨σ1,H2,I2,q2⟩
end
structure It where
 go:Nat->Hp->Prop
 yld:Nat->Hp->V->Hp->Prop
 stop:Nat->Hp->Prop
def C6(X:Cx)(pins:List (Addr×Obj))(H:Hp)(b:Addr):Prop:=
 H b=none/\b≠X.env.locals/\b∉X.fs/\(b∈X.ex\/X.s₀.heap.objs.size<=b)/\(∀x c,X.env.cells.lookup x=some c->c≠b)/\∀p∈X.pn++pins,p.1≠b
theorem Inv.fpOk{σ:St}{H H':Hp}{s:Shared}{b:Addr}(I:Inv X pins σ H s)(a:s.heap.objs.size<=b)(f:H' b=none):C6 X pins H' b:=by
 refine⟨f,Lv (Hx I.lt a),I.nofs a,.inr (HJ I.sz a),λx c e z=>?_,λp d z=>?_⟩
 ·obtain⟨v,q⟩:=I.cell x c e;exact absurd (Hx q.lt (by rw[z];exact a)) (Jn _)
 ·exact absurd (Hx (Hk (I.pin p d).1) (by rw[z];exact a)) (Jn _)
structure Turn(P:Program)(w:World)(K:PySem.W.Frag)(tg:Expr)(J:It)(fp:List Addr)(it:Addr)(tn:Nat->Heap->Prop):Prop where
 mem:it∈fp
 obj:∀i h,tn i h->∀b∈fp,∃o,h.get? b=some o/\∀v,o.data≠.cell v
 keep:∀i h h',tn i h->(∀b∈fp,∀o,h.get? b=some o->h'.get? b=some o)->tn i h'
 item:∀(X:Cx),X.prog=P->X.w=w->X.K=K->X.calm=true->∀(i:Nat) (pins:List (Addr×Obj)) (s:Shared) (σ:St) (H:Hp) (E:Value->Shared->Prop),Inv X pins σ H s->(∀b∈fp,C6 X pins H b)->tn i s.heap->J.go i H ->
  wpAny (model P w) X.A (pyNext (.ref it)) (λr s1=>∃u,r=some u /\
   wpAny (model P w) X.A (letOwnedTupleGo tg (.ref it) u) (λ_ s2=>∃x H',Inv X pins σ H' s2/\RelV x u/\J.yld i H x H'/\tn (i+1) s2.heap/\∀b∈fp,H' b=none) E s1) E s
 done:∀(X:Cx),X.prog=P->X.w=w->X.K=K->X.calm=true->∀(i:Nat) (pins:List (Addr×Obj)) (s:Shared) (σ:St) (H:Hp) (E:Value->Shared->Prop),Inv X pins σ H s->(∀b∈fp,C6 X pins H b)->tn i s.heap->J.stop i H ->
  wpAny (model P w) X.A (pyNext (.ref it)) (λr s1=>r=none/\Inv X pins σ H s1) E s
 self:∀(A:Around)(i:Nat)(s:Shared)(Q:Value->Shared->Prop)(E:Value->Shared->Prop),tn i s.heap->Q (.ref it) s->wpAny (model P w) A (pyIter (.ref it)) Q E s
abbrev TI:=St->Hp->(It->Hp->Prop)->Prop
def PIE(X:Cx)(pins:List (Addr×Obj))(σ:St)(tg:Expr)(R:It->Hp->Prop)(a:Value)(d:Shared):Prop:=
 ∃(it:Addr) (c:List Addr) (tn:Nat->Heap->Prop) (J:It) (H':Hp),a=.ref it/\Inv X pins σ H' d/\Turn X.prog X.w X.K tg J c it tn/\tn 0 d.heap/\(∀b∈c,C6 X pins H' b)/\R J H'
def PI(X:Cx)(tg a:Expr)(b:TI):Prop:=
 ∀(pins:List (Addr×Obj)) (s:Shared) (σ:St) (H:Hp) (R:It->Hp->Prop),Inv X pins σ H s->b σ H R ->
  wpAny (model X.prog X.w) X.A (eval a X.env) (λv c=>wpAny (model X.prog X.w) X.A (pyIter v) (PIE X pins σ tg R) X.xe c) X.xe s
theorem kO{s:Shared}{tg:Expr}{it:Addr}{u:Value}{o:Obj}{n:String}{vs:Array Value}{Q:Unit->Shared->Prop}(c:s.heap.get? it=some o)(b:o.cls=.type n)(hd:o.data=.fields vs)
  (d:["enumerate","zip","dict_itemiterator","dict_reverseitemiterator","odict_iterator","itertools.zip_longest","itertools.pairwise"].contains n=false) (a:Q () s):wpAny M A (letOwnedTupleGo tg (.ref it) u) Q E s:=by
 cases tg <;> first
  | exact Gy a
  | (cases u <;> first
    | exact Gy a
    | (refine Gx (wpAny_load c ?_);rw[b,hd];show wpAny M A (if (["enumerate","zip","dict_itemiterator","dict_reverseitemiterator","odict_iterator","itertools.zip_longest","itertools.pairwise"].contains n&&vs[0]?==some (rawInt _))=true then _ else _) Q E s;rw[if_neg (by intro h;rw[d,LK]at h;cases h)];exact Gy a))
def Itl(K:PySem.W.Frag)(a:Addr):It:=
 ⟨λi H=>∃xs x,SqL K H a xs/\xs[i]?=some x,λi H x H'=>H'=H/\∀xs,SqL K H a xs->xs[i]?=some x,λi H=>∃xs,SqL K H a xs/\xs.length<=i⟩
def Itt(K:PySem.W.Frag)(a:Addr):It:=
 ⟨λi H=>∃xs x,SqT K H a xs/\xs[i]?=some x,λi H x H'=>H'=H/\∀xs,SqT K H a xs->xs[i]?=some x,λi H=>∃xs,SqT K H a xs/\xs.length<=i⟩
def Itr(lo:Int)(n:Nat):It:=⟨λi _=>i<n,λi H x H'=>H'=H/\x=.int (lo+i),λi _=>n<=i⟩
theorem lP{K:PySem.W.Frag}{tg:Expr}(a it:Addr):Turn P w K tg (Itl K a) [it] it (λi h=>h.IsListIter it a i) where
 mem:=by simp
 obj:=λi h st b f=>by
  have e:b=it:=by simpa using f
  subst e;obtain⟨o,e,c,d⟩:=st;exact⟨o,e,λv z=>by rw[d]at z;cases z⟩
 keep:=λi h h' st k=>st.at λo e=>k it (by simp) o e
 item:=by
  intro X G D A J i pins s σ H E I j st F;subst G D A;obtain⟨xs,x,l,B⟩:=F;obtain⟨n,C,p,hz⟩:=I.list l;obtain⟨u,S,N⟩:=C.get B;obtain⟨y,q,O,m,t,r⟩:=j it (by simp);refine wpAny_pyNext_list_item st p.isList (by simpa using S) λh' g R=>?_;have M:=I.turned (t':=s.toks) (λb o f e=>(R.2 b f).trans e) y q m t r;obtain⟨o,e,c,d⟩:=id g;exact⟨u,rfl,kO e c d (by decide) ⟨x,H,M,N,⟨rfl,λys Q=>by rw[I.list_inj Q l];exact B⟩,g,λb f=>(j b f).1⟩⟩
 done:=by
  intro X G D A J i pins s σ H E I j st F;subst G D A;obtain⟨xs,l,B⟩:=F;obtain⟨n,C,p,hz⟩:=I.list l;obtain⟨y,q,O,m,t,r⟩:=j it (by simp);have T:=C.length;exact wpAny_pyNext_list_end (I.ok.hd J) st p.isList (by simp;omega) λh' L=>⟨rfl,I.turned (λb o f e=>L b o f e) y q m t r⟩
 self:=λ_ _ _ _ _ st h=>wpAny_pyIter_listiter st h
theorem gf{K:PySem.W.Frag}{tg:Expr}(a it:Addr):Turn P w K tg (Itt K a) [it] it (λi h=>h.IsTupleIter it a i) where
 mem:=by simp
 obj:=λi h st b f=>by
  have e:b=it:=by simpa using f
  subst e;obtain⟨o,e,c,d⟩:=st;exact⟨o,e,λv z=>by rw[d]at z;cases z⟩
 keep:=λi h h' st k=>st.at λo e=>k it (by simp) o e
 item:=by
  intro X G D A J i pins s σ H E I j st F;subst G D A;obtain⟨xs,x,l,B⟩:=F;obtain⟨n,C,p,hz⟩:=I.tuple l;obtain⟨u,S,N⟩:=C.get B;obtain⟨y,q,O,m,t,r⟩:=j it (by simp);refine wpAny_pyNext_tuple_item st (p) (by simpa using S) λh' g R=>?_;have M:=I.turned (t':=s.toks) (λb o f e=>(R.2 b f).trans e) y q m t r;obtain⟨o,e,c,d⟩:=id g;exact⟨u,rfl,kO e c d (by decide) ⟨x,H,M,N,⟨rfl,λys Q=>by rw[I.tuple_inj Q l];exact B⟩,g,λb f=>(j b f).1⟩⟩
 done:=by
  intro X G D A J i pins s σ H E I j st F;subst G D A;obtain⟨xs,l,B⟩:=F;obtain⟨n,C,p,hz⟩:=I.tuple l;obtain⟨y,q,O,m,t,r⟩:=j it (by simp);have T:=C.length;exact wpAny_pyNext_tuple_end (I.ok.hd J) st (p) (by simp;omega) λh' L=>⟨rfl,I.turned (λb o f e=>L b o f e) y q m t r⟩
 self:=λ_ _ _ _ _ st h=>wpAny_pyIter_tupleiter st h
theorem gV{K:PySem.W.Frag}{tg:Expr}(it:Addr)(lo:Int)(n:Nat):Turn P w K tg (Itr lo n) [it] it (λi h=>IsRangeIter h it (lo+(i:Nat) * 1) ((n:Int)-(i:Nat)) 1) where
 mem:=by simp
 obj:=λi h st b a=>by
  have e:b=it:=by simpa using a
  subst e;exact⟨_,st,λv z=>by
   have D:=z;cases D⟩
 keep:=λi h h' st k=>k it (by simp) _ st
 item:=by
  intro X x r q g i pins s σ H E I d st u;subst x r q;obtain⟨p,j,C,f,m,l⟩:=d it (by simp);have W:=Walks.range (prog:=X.prog) (w:=X.w) (I.ok.hd g) it lo 1 n;refine W.item i s _ _ u st λv h' G A c F=>?_;obtain⟨t,rfl⟩:=A;have B:Inv X pins σ H { s with heap:=h',toks:=G }:=I.turned (λb o a e=>F b o (by simpa using a) e) p j f m l;refine⟨_,rfl,kO c rfl rfl (by decide) ⟨.int (lo+i),H,B,⟨t,?_⟩,⟨rfl,rfl⟩,c,λb a=>(d b a).1⟩⟩;rw[Int.mul_one]
 done:=by
  intro X x r q g i pins s σ H E I d st u;subst x r q;obtain⟨p,j,C,f,m,l⟩:=d it (by simp);exact wpAny_pyNext_range_end (I.ok.hd g) st (by have:n<=i:=u;omega) λh' y=>⟨rfl,I.turned (λb o a e=>y b o a e) p j f m l⟩
 self:=λ_ _ _ _ _ st h=>wpAny_pyIter_rangeiter st h
section
variable {X:Cx}{tg:Expr}
theorem md{σ:St}{H:Hp}{s:Shared}{R:It->Hp->Prop}{E:Value->Shared->Prop}{lo a:Int}{t u v:Tok}{d:Nat}(I:Inv X pins σ H s)(f:-(2 ^ 62)<=lo)(j:lo<2 ^ 62)(l:-(2 ^ 62)<=a)(h:a<2 ^ 62)
  (q:R (Itr lo (a-lo).toNat) H):wpAny (model X.prog X.w) X.A (pyIter (.ref s.heap.objs.size)) (PIE X pins σ tg R) E { s with heap:=s.heap.push { cls:=.type "range",data:=.fields #[.int lo t,.int a u,.int 1 v] },toks:=d }:=by
 refine wpAny_pyIter_range (IsRange.new ..) (small_one f j l h) ?_;have c:Inv X pins σ H { s with heap:=s.heap.push { cls:=.type "range",data:=.fields #[.int lo t,.int a u,.int 1 v] },toks:=d }:=I.kept λb o e=>Ha _ e;refine⟨(s.heap.push { cls:=.type "range",data:=.fields #[.int lo t,.int a u,.int 1 v] }).objs.size,[(s.heap.push { cls:=.type "range",data:=.fields #[.int lo t,.int a u,.int 1 v] }).objs.size],_,_,H,rfl,
  c.kept λb o e=>Ha _ e,gV _ lo (a-lo).toNat,?_,λb k=>?_,q⟩
 ·have i:lo+((0:Nat):Int) * 1=lo:=by simp
  have g:(((a-lo).toNat:Nat):Int)-((0:Nat):Int)=Builtin.Range.rangeSize lo a 1:=by rw[rangeSize_one];split <;> omega
  rw[i,g];exact Hr _ rfl
 ·have e:b=(s.heap.push { cls:=.type "range",data:=.fields #[.int lo t,.int a u,.int 1 v] }).objs.size:=by simpa using k
  subst e;exact c.fpOk (Hd _) (c.hok.fresh (Hd _))
def EZ(a:TA):TI:=λσ H R=>a σ H λvs b=>∃j:Int,vs=[.int j]/\-(2 ^ 62)<=j/\j<2 ^ 62/\R (Itr 0 j.toNat) b
theorem kg(f:Gl X "range") (k:X.mg "range" = none) (c:PA X [a] ta) (hs:starEach [a] X.env=[(false,eval a X.env)]:=by rfl):PI X tg (.Call (.Name "range" p) [a] [] pos) (EZ ta):=by
 intro pins s σ H R I h;refine Call_ (B7 I f k boot_range (Io (thn (c pos pins s σ H _ I h) λus m ⟨vs,n,d,l,b⟩=>?_) hs rfl));obtain⟨j,e,b,g,q⟩:=b;subst e;cases l with
 | cons r i=>
  cases i;obtain⟨t,rfl⟩:=r;exact call_range_1 (md d (by omega) (by omega) b g (by simpa using q))
def Fh(f:TI)(g:TG)(c:TS):TS:=λD σ H=>f σ H λJ d=>∃W:Nat->Nat->St->Hp->Prop,(∃m,W 0 m σ d)/\∀i m σ H,W i m σ H ->
 (J.stop i H/\D.nx σ H)\/(J.go i H/\∃N:St->Hp->Prop,(∀a H',N a H'->∃m',m'<m/\W (i+1) m' a H')/\∀x H',J.yld i H x H'->g x σ H' λb e=>c { D with nx:=N,ct:=N,bk:=D.nx } b e)
def J8(a:List Addr)(h:Heap):List (Addr×Obj):=a.filterMap λb=>(h.get? b).map λo=>(b,o)
theorem v1{b:Addr}{o:Obj}(a:b∈fp)(e:h.get? b=some o):(b,o)∈J8 fp h:=Jb.mpr ⟨b,a,by rw[e];rfl⟩
theorem lW(a:p∈J8 fp h):p.1∈fp/\h.get? p.1=some p.2:=by
 obtain⟨b,c,e⟩:=Jb.mp a;cases q:h.get? b with
 | none=>rw[q]at e;cases e
 | some o=>
  rw[q]at e;have d:=HH e;subst d;exact⟨c,q⟩
theorem Inv.pinned{σ:St}{H:Hp}{s:Shared}{a:List Addr}(I:Inv X pins σ H s)(i:∀b∈a,C6 X pins H b)(k:∀b∈a,∃o,s.heap.get? b=some o/\∀v,o.data≠.cell v):Inv X (pins++J8 a s.heap) σ H s:=
 I.pins_of λp j=>(Hz.mp j).elim (λz=>I.pin p (HI _ z)) λz=>by
  obtain⟨c,e⟩:=lW z;obtain⟨h,l,g,_⟩:=i p.1 c;obtain⟨o,f,d⟩:=k p.1 c;rw[e]at f;cases f;exact⟨e,h,l,g,d⟩
theorem Inv.unpinned{σ:St}{H:Hp}{s:Shared}(I:Inv X (pins++pl) σ H s):Inv X pins σ H s:=I.pins_of λp a=>I.pin p (HI _ (List.mem_append_left _ a))
theorem Az{wi:TI}{g:TG}{tb:TS}{pos:Pos}(hp:PassesOwn (model X.prog X.w) X.A X.env X.xe)(hc:X.calm=true)(hi:PI X tg iter wi)(hg:PG X tg g)(hb:PSs X body tb)
  (hs:∀x,foldedSetIterable iter X.env x=pure x:=by intro _;rfl):PS X (.For tg iter body [] pos) (Fh wi g tb):=by
 intro pins s σ H D I h;refine wpAny_For (thn (hi pins s σ H _ I h) λv s1 h1=>thn h1 λitv s2 h2=>?_) hs;obtain⟨it,fp,tn,J,H2,e,I2,T,st2,f2,W,⟨m0,w0⟩,turn⟩:=h2;subst e;have stat:∀{H':Hp},(∀b∈fp,H' b=none)->∀b∈fp,C6 X pins H' b:=λhn b hb=>⟨hn b hb,(f2 b hb).2⟩;refine codeAny_forLoop_any (λn s'=>∃i σ' H',Inv X pins σ' H' s'/\tn i s'.heap/\(∀b∈fp,H' b=none)/\W i n σ' H') ?_ m0 ⟨0,σ,H2,I2,st2,λb hb=>(f2 b hb).1,w0⟩;rintro n s3 ⟨i,σ3,H3,I3,st3,fr3,w3⟩;rcases turn i n σ3 H3 w3 with ⟨stop,qn⟩ | ⟨go,N,hN,step⟩
 ·refine Ji hp (thn (T.done X rfl rfl rfl hc i pins s3 σ3 H3 X.xe I3 (stat fr3) st3 stop) λr s4 ⟨hr,I4⟩=>?_);subst hr;exact JC ⟨σ3,H3,I4,qn⟩
 ·refine Ji hp (thn (T.item X rfl rfl rfl hc i pins s3 σ3 H3 X.xe I3 (stat fr3) st3 go) λr s4 ⟨u,hr,h4⟩=>?_);subst hr;refine Ji hp (thn h4 λ_ s5 ⟨x,H5,I5,r5,y5,st5,fr5⟩=>?_);have I5':=I5.pinned (stat fr5) (T.obj _ _ st5);refine Ji hp (thn (hg _ s5 σ3 H5 x u _ I5' r5 (step x H5 y5)) λ_ s6 ⟨σ6,H6,I6,q6⟩=>?_);refine Ji hp (thn (hb _ s6 σ6 H6 _ I6 q6) λf s7 q7=>?_);have again:∀{σ7:St}{H7:Hp},Inv X (pins++J8 fp s5.heap) σ7 H7 s7->N σ7 H7->∃m,m<n/\∃i σ' H',Inv X pins σ' H' s7/\tn i s7.heap/\(∀b∈fp,H' b=none)/\W i m σ' H':=λ{σ7 H7} I7 n7=>by
   obtain⟨m',hm,w7⟩:=hN σ7 H7 n7;refine⟨m',hm,i+1,σ7,H7,I7.unpinned,T.keep _ _ _ st5 λb hb o e=>(I7.pin (b,o) (HI _ (HI _ (v1 hb e)))).1,λb hb=>?_,w7⟩;obtain⟨o,e,d⟩:=T.obj _ _ st5 b hb;exact(I7.pin (b,o) (HI _ (HI _ (v1 hb e)))).2.1
  cases f with
  | next=>obtain⟨σ7,H7,I7,n7⟩:=q7;exact again I7 n7
  | cont=>obtain⟨σ7,H7,I7,n7⟩:=q7;exact again I7 n7
  | brk=>obtain⟨σ7,H7,I7,q7⟩:=q7;exact⟨σ7,H7,I7.unpinned,q7⟩
  | ret v=>obtain⟨x7,σ7,H7,I7,r7,q7⟩:=q7;exact⟨x7,σ7,H7,I7.unpinned,r7,q7⟩
end
abbrev R2:=V->V->Hp->VK->Prop
def OpR(X:Cx)(f:Value->Value->Sem Value)(r:R2):Prop:=
 ∀(pins:List (Addr×Obj)) (s:Shared) (σ:St) (H:Hp) (x y:V) (v u:Value) (Q:VK),Inv X pins σ H s->RelV x v->RelV y u->r x y H Q ->
  wpAny (model X.prog X.w) X.A (f v u) (EP X pins σ Q) X.xe s
def UnR(X:Cx)(f:Value->Sem Value)(r:V->Hp->VK->Prop):Prop:=
 ∀(pins:List (Addr×Obj)) (s:Shared) (σ:St) (H:Hp) (x:V) (v:Value) (Q:VK),Inv X pins σ H s->RelV x v->r x H Q ->
  wpAny (model X.prog X.w) X.A (f v) (EP X pins σ Q) X.xe s
def p0(X:Cx)(f:Value)(r:List V->Hp->VK->Prop):Prop:=
 ∀(pins:List (Addr×Obj)) (s:Shared) (σ:St) (H:Hp) (xs:List V) (us:List Value) (Q:VK),Inv X pins σ H s->Vals xs us->r xs H Q ->
  wpAny (model X.prog X.w) X.A (call f us) (EP X pins σ Q) X.xe s
def GI(X:Cx)(r:V->Hp->(Bool->Hp->Prop)->Prop):Prop:=
 ∀(pins:List (Addr×Obj)) (s:Shared) (σ:St) (H:Hp) (x:V) (v:Value) (Q:Bool->Hp->Prop),Inv X pins σ H s->RelV x v->r x H Q ->
  wpAny (model X.prog X.w) X.A (truthy v) (TP X pins σ Q) X.xe s
def tOp(r:R2)(a b:TE):TE:=λσ H Q=>a σ H λx d=>b σ d λy c=>r x y c Q
def tUn(r:V->Hp->VK->Prop)(a:TE):TE:=λσ H Q=>a σ H λx b=>r x b Q
def rI(C:Int->Int->Prop)(g:Int->Int->V):R2:=λx y H Q=>∃i j,x=.int i/\y=.int j/\C i j/\Q (g i j) H
def rI0(g:Int->Int->V):R2:=λx y H Q=>∃i j,x=.int i/\y=.int j/\Q (g i j) H
def rU(g:Int->V):V->Hp->VK->Prop:=λx H Q=>∃i,x=.int i/\Q (g i) H
section
variable {X:Cx}{a b c:Expr}{ta tb tc:TE}{pos:Pos}
theorem AD(ha:PE X a ta)(hb:PE X b tb){pins:List (Addr×Obj)}{s:Shared}{σ:St}{H:Hp}{R:V->V->Hp->Prop}(I:Inv X pins σ H s)
  (h:ta σ H λx H1=>tb σ H1 λy H2=>R x y H2) {Q:Value->Shared->Prop} {f:Value->Value->Sem Value}
  (hf:∀v u s2 x y H2,Inv X pins σ H2 s2->RelV x v->RelV y u->R x y H2->wpAny (model X.prog X.w) X.A (f v u) Q X.xe s2) :
  wpAny (model X.prog X.w) X.A (eval a X.env) (λv s₁=>wpAny (model X.prog X.w) X.A (eval b X.env) (λu s₂=>wpAny (model X.prog X.w) X.A (f v u) Q X.xe s₂) X.xe s₁) X.xe s:=by
 refine thn (ha pins s σ H _ I h) λv s1 ⟨x,H1,I1,r1,q1⟩=>?_;refine thn (hb pins s1 σ H1 _ I1 q1) λu s2 ⟨y,H2,I2,r2,q2⟩=>?_;exact hf v u s2 x y H2 I2 r1 r2 q2
theorem Bh(d:OpR X (binaryOp op) r)(c:PE X a ta)(g:PE X b tb):PE X (.BinOp a op b pos) (tOp r ta tb):=by
 intro pins s σ H Q I h;exact wpAny_BinOp (AD c g I h λv u j x y k e i f q=>d pins j σ k x y v u Q e i f q)
theorem DX(c:UnR X (unaryOp op) r)(b:PE X a ta):PE X (.UnaryOp op a pos) (tUn r ta):=by
 intro pins s σ H Q I h;exact UnaryOp_ (thn (b pins s σ H _ I h) λv f ⟨x,e,d,i,g⟩=>c pins f σ e x v Q d i g)
theorem opI{C:Int->Int->Prop}{g:Int->Int->Int}
  (a:∀(i j:Int)(t u:Tok)(s:Shared)(Q:Value->Shared->Prop)(E:Value->Shared->Prop),C i j->Q (.int (g i j) s.toks) { s with toks:=s.toks+1 }->wpAny (model X.prog X.w) X.A (f (.int i t) (.int j u)) Q E s) :
  OpR X f (rI C λi j=>.int (g i j)):=by
 intro pins s σ H x y v u Q I d c h;obtain⟨i,j,rfl,rfl,b,q⟩:=h;obtain⟨t,rfl⟩:=d;obtain⟨t',rfl⟩:=c;exact a i j t t' s _ _ b ⟨.int (g i j),H,I.tok _,⟨_,rfl⟩,q⟩
theorem Cs{g:Int->Int->Int}
  (a:∀(i j:Int)(t u:Tok)(s:Shared)(Q:Value->Shared->Prop)(E:Value->Shared->Prop),Q (.int (g i j) s.toks) { s with toks:=s.toks+1 }->wpAny (model X.prog X.w) X.A (f (.int i t) (.int j u)) Q E s) :
  OpR X f (rI0 λi j=>.int (g i j)):=by
 intro pins s σ H x y v u Q I c b h;obtain⟨i,j,rfl,rfl,q⟩:=h;obtain⟨t,rfl⟩:=c;obtain⟨t',rfl⟩:=b;exact a i j t t' s _ _ ⟨.int (g i j),H,I.tok _,⟨_,rfl⟩,q⟩
theorem vZ{g:Int->Int->Bool}
  (a:∀(i j:Int)(t u:Tok)(s:Shared)(Q:Value->Shared->Prop)(E:Value->Shared->Prop),Q (.bool (g i j)) s->wpAny (model X.prog X.w) X.A (f (.int i t) (.int j u)) Q E s) :
  OpR X f (rI0 λi j=>.bl (g i j)):=by
 intro pins s σ H x y v u Q I c b h;obtain⟨i,j,rfl,rfl,q⟩:=h;obtain⟨t,rfl⟩:=c;obtain⟨t',rfl⟩:=b;exact a i j t t' s _ _ ⟨.bl (g i j),H,I,rfl,q⟩
def pX(i j:Int):Prop:=0<j/\j<1073741824
def tZ(i j:Int):Prop:=0<=j/\j<=1000000/\i.natAbs<2 ^ 64
def CMul(i j:Int):Prop:=(-(2 ^ 64)<i/\i<2 ^ 64)\/(-(2 ^ 64)<j/\j<2 ^ 64)
theorem CMul.ok(h:CMul i j):IntMulOk i j:=by
 rcases h with ⟨b,a⟩ | ⟨b,a⟩
 ·exact .of_left (intBits_le_64 b a)
 ·exact .of_right (intBits_le_64 b a)
theorem yW:OpR X (binaryOp .Add) (rI0 λi j=>.int (i+j)):=Cs λ_ _ _ _ _ _ _ q=>add_int q
theorem yS:OpR X (binaryOp .Sub) (rI0 λi j=>.int (i-j)):=Cs λ_ _ _ _ _ _ _ q=>sub_int q
theorem Ay:OpR X (binaryOp .Mult) (rI CMul λi j=>.int (i * j)):=opI λ_ _ _ _ _ _ _ a q=>mul_int q a.ok
theorem tz:OpR X (binaryOp .FloorDiv) (rI pX λi j=>.int (i / j)):=opI λi j _ _ _ _ _ a q=>by
 have c:=a.1;have b:=a.2;exact floordiv_int (by omega) (by rw[Int.fdiv_eq_ediv_of_nonneg i (by omega)];exact q) (.inl (PyProof.noPylong_small (by omega)))
theorem Ae:OpR X (binaryOp .Mod) (rI (λ_ j=>0<j) λi j=>.int (i % j)):=opI λi j _ _ _ _ _ a q=>by
 have b:=a;exact mod_int' (by omega) (by rw[Int.fmod_eq_emod_of_nonneg i (by omega)];exact q)
theorem zL:OpR X (binaryOp .Pow) (rI tZ λi j=>.int (i ^ j.toNat)):=opI λ_ _ _ _ _ _ _ a q=>pow_int_small a.1 a.2.1 a.2.2 q
theorem unI{g:Int->Int}
  (a:∀(i:Int)(t:Tok)(s:Shared)(Q:Value->Shared->Prop)(E:Value->Shared->Prop),Q (.int (g i) s.toks) { s with toks:=s.toks+1 }->wpAny (model X.prog X.w) X.A (f (.int i t)) Q E s) :
  UnR X f (rU λi=>.int (g i)):=by
 intro pins s σ H x v Q I b h;obtain⟨i,rfl,q⟩:=h;obtain⟨t,rfl⟩:=b;exact a i t s _ _ ⟨.int (g i),H,I.tok _,⟨_,rfl⟩,q⟩
theorem zh:UnR X (unaryOp .USub) (rU λi=>.int (-i)):=unI λ_ _ _ _ _ q=>neg_int q
end
def Bm:V->V->Bool
 | .non,.non=>true | .non,.int _=>true | .int _,.non=>true | .non,.bl _=>true | .bl _,.non=>true | .non,.str _=>true | .str _,.non=>true
 | .int _,.int _=>true | .bl _,.bl _=>true | .str _,.str _=>true | .byt _,.byt _=>true
 | .int _,.str _=>true | .str _,.int _=>true | .bl _,.str _=>true | .str _,.bl _=>true
 | _,_=>false
def rEq:R2:=λx y H Q=>Bm x y=true/\Q (.bl (decide (x=y))) H
def rNe:R2:=λx y H Q=>Bm x y=true/\Q (.bl (!decide (x=y))) H
theorem jJ{i j:Int}:decide (V.int i=V.int j)=(i==j):=by
 rw[II];simp
theorem sA{i j:Bool}:decide (V.bl i=V.bl j)=(i==j):=by
 rw[II];simp
theorem jf{i j:Str}:decide (V.str i=V.str j)=(i==j):=by
 rw[II];simp
theorem jL:decide (V.byt i=V.byt j)=(i.toList==j.toList):=by
 rw[II];cases i;cases j;simp
section
variable {X:Cx}{a b c:Expr}{ta tb tc:TE}{pos:Pos}
theorem f7{σ:St}{H:Hp}{s:Shared}{Q:VK}{k a:Bool}(I:Inv X pins σ H s)(q:Q (.bl k) H)(e:k=a):EP X pins σ Q (.bool a) s:=by
 subst e;exact⟨.bl k,H,I,rfl,q⟩
theorem Dp:OpR X (compareOp .Eq) rEq:=by
 intro pins s σ H x y v u Q I rx ry h;obtain⟨hs,q⟩:=h;cases x with
 | non=>
  cases rx;cases y with
  | non=>cases ry;exact PySem.EqNone.eq_none_none (f7 I q (by simp))
  | bl j=>cases ry;exact PySem.EqNone.eq_none_bool (f7 I q (by simp))
  | int j=>obtain⟨t',rfl⟩:=ry;exact PySem.EqNone.eq_none_int (f7 I q (by simp))
  | str j=>obtain⟨t',rfl⟩:=ry;exact PySem.EqNone.eq_none_str (f7 I q (by simp))
  | _=>exact absurd (hs) He
 | bl i=>
  cases rx;cases y with
  | non=>cases ry;exact PySem.EqNone.eq_bool_none (f7 I q (by simp))
  | bl j=>cases ry;exact eq_bool (f7 I q sA)
  | str j=>obtain⟨t',rfl⟩:=ry;exact PySem.EqMixed.eq_bool_str (f7 I q (by simp))
  | _=>exact absurd (hs) He
 | int i=>
  obtain⟨t,rfl⟩:=rx;cases y with
  | non=>cases ry;exact PySem.EqNone.eq_int_none (f7 I q (by simp))
  | int j=>obtain⟨t',rfl⟩:=ry;exact eq_int (f7 I q jJ)
  | str j=>obtain⟨t',rfl⟩:=ry;exact PySem.EqMixed.eq_int_str (f7 I q (by simp))
  | _=>exact absurd (hs) He
 | str i=>
  obtain⟨t,rfl⟩:=rx;cases y with
  | non=>cases ry;exact PySem.EqNone.eq_str_none (f7 I q (by simp))
  | bl j=>cases ry;exact PySem.EqMixed.eq_str_bool (f7 I q (by simp))
  | int j=>obtain⟨t',rfl⟩:=ry;exact PySem.EqMixed.eq_str_int (f7 I q (by simp))
  | str j=>obtain⟨t',rfl⟩:=ry;exact eq_str (f7 I q jf)
  | _=>exact absurd (hs) He
 | byt i=>
  obtain⟨t,rfl⟩:=rx;cases y with
  | byt j=>obtain⟨t',rfl⟩:=ry;exact PySem.W.eq_bytes (f7 I q jL)
  | _=>exact absurd (hs) He
 | _=>cases y <;> exact absurd (hs) He
theorem EI:OpR X (compareOp .NotEq) rNe:=by
 intro pins s σ H x y v u Q I rx ry h;obtain⟨hs,q⟩:=h;cases x with
 | non=>
  cases rx;cases y with
  | non=>cases ry;exact PySem.EqNone.ne_none_none (f7 I q (by simp))
  | bl j=>cases ry;exact PySem.EqNone.ne_none_bool (f7 I q (by simp))
  | int j=>obtain⟨t',rfl⟩:=ry;exact PySem.EqNone.ne_none_int (f7 I q (by simp))
  | str j=>obtain⟨t',rfl⟩:=ry;exact PySem.EqNone.ne_none_str (f7 I q (by simp))
  | _=>exact absurd (hs) He
 | bl i=>
  cases rx;cases y with
  | non=>cases ry;exact PySem.EqNone.ne_bool_none (f7 I q (by simp))
  | bl j=>cases ry;exact ne_bool (f7 I q (congrArg not sA))
  | str j=>obtain⟨t',rfl⟩:=ry;exact PySem.EqMixed.ne_bool_str (f7 I q (by simp))
  | _=>exact absurd (hs) He
 | int i=>
  obtain⟨t,rfl⟩:=rx;cases y with
  | non=>cases ry;exact PySem.EqNone.ne_int_none (f7 I q (by simp))
  | int j=>obtain⟨t',rfl⟩:=ry;exact ne_int (f7 I q (congrArg not jJ))
  | str j=>obtain⟨t',rfl⟩:=ry;exact PySem.EqMixed.ne_int_str (f7 I q (by simp))
  | _=>exact absurd (hs) He
 | str i=>
  obtain⟨t,rfl⟩:=rx;cases y with
  | non=>cases ry;exact PySem.EqNone.ne_str_none (f7 I q (by simp))
  | bl j=>cases ry;exact PySem.EqMixed.ne_str_bool (f7 I q (by simp))
  | int j=>obtain⟨t',rfl⟩:=ry;exact PySem.EqMixed.ne_str_int (f7 I q (by simp))
  | str j=>obtain⟨t',rfl⟩:=ry;exact ne_str (f7 I q (congrArg not jf))
  | _=>exact absurd (hs) He
 | byt i=>
  obtain⟨t,rfl⟩:=rx;cases y with
  | byt j=>obtain⟨t',rfl⟩:=ry;exact PySem.W.ne_bytes (f7 I q (congrArg not jL))
  | _=>exact absurd (hs) He
 | _=>cases y <;> exact absurd (hs) He
theorem Ci:OpR X (compareOp .Lt) (rI0 λi j=>.bl (decide (i<j))):=vZ λ_ _ _ _ _ _ _ q=>lt_int q
theorem Eo:OpR X (compareOp .LtE) (rI0 λi j=>.bl (decide (i<=j))):=vZ λ_ _ _ _ _ _ _ q=>le_int q
theorem CM:OpR X (compareOp .Gt) (rI0 λi j=>.bl (decide (j<i))):=vZ λ_ _ _ _ _ _ _ q=>gt_int q
theorem Bw:OpR X (compareOp .GtE) (rI0 λi j=>.bl (decide (j<=i))):=vZ λ_ _ _ _ _ _ _ q=>ge_int q
theorem tw(d:OpR X (compareOp op) r)(c:PE X a ta)(g:PE X b tb)(k:behindInMarks op b=false):PE X (.Compare a [op] [b] pos) (tOp r ta tb):=by
 intro pins s σ H Q I h;exact wpAny_Compare1 (AD c g I h λv u j x y l e i f q=>d pins j σ l x y v u Q e i f q) k
def Bi(t:TE):TT:=λσ H Q=>t σ H λx H'=>∃k,x=.bl k/\Q k H'
theorem je(w:OpR X (compareOp op) r)(t:PE X a ta)(j:PE X b tb)(o:behindInMarks op b=false):PT X (.Compare a [op] [b] pos) (Bi (tOp r ta tb)):=by
 intro pins s σ H Q I h;refine wpAny_isTrue_Compare1 (thn (t pins s σ H _ I h) λv f ⟨x,m,g,q,p⟩=>thn (j pins f σ m _ g p) λu C ⟨y,D,A,l,d⟩=>
  thn (w pins C σ D x y v u _ A q l d) λc F ⟨z,B,i,E,k,e,n⟩=>?_) o
 subst e;cases E;exact KQ ⟨B,i,n⟩
def lj(K:PySem.W.Frag)(x:V)(H:Hp)(k:Bool):Prop:=
 match x with
 | .non=>k=false
 | .bl b=>k=b
 | .int i=>k=(i != 0)
 | .str y=>y.length<=sizeLine/\k=((y.length:Int) != 0)
 | .byt y=>y.size<=sizeLine/\k=((y.size:Int) != 0)
 | .ref p=>(∃xs,SqL K H p xs/\k=!xs.isEmpty)\/(∃xs,SqT K H p xs/\k=!xs.isEmpty)\/∃a,H p=some (.dK a)/\k=!a.isEmpty
 | _=>False
theorem gj(r:KV kvs vs):(!vs.isEmpty)=!kvs.isEmpty:=by
 cases r <;> rfl
theorem bC(r:Vals xs its):(!its.toArray.isEmpty)=!xs.isEmpty:=by
 cases r <;> simp
theorem U7:(sizeLine:Nat)<2 ^ 63:=by rw[HB];decide
theorem dX:GI X (λx H Q=>∃k,lj X.K x H k/\Q k H):=by
 intro pins s σ H x v Q I rx h;obtain⟨k,e,q⟩:=h;have hl:=U7;have hs:=HB;cases x with
 | non=>
  cases rx;have e':=e;subst e';exact truthy_none ⟨H,I,q⟩
 | bl b=>
  cases rx;have e':=e;subst e';exact KQ ⟨H,I,q⟩
 | int i=>
  obtain⟨t,rfl⟩:=rx;have e':=e;subst e';exact PySem.P.truthy_int ⟨H,I,q⟩
 | str y=>
  obtain⟨t,rfl⟩:=rx;obtain⟨hy,e'⟩:=e;subst e';exact PySem.P.truthy_str (by omega) ⟨H,I.tok _,q⟩
 | byt y=>
  obtain⟨t,rfl⟩:=rx;obtain⟨hy,e'⟩:=e;subst e';exact PySem.W.truthy_bytes (by omega) ⟨H,I.tok _,q⟩
 | ref p=>
  cases rx;have e':=e;rcases e' with ⟨xs,hx,e'⟩ | ⟨xs,hx,e'⟩ | ⟨kvs,hx,e'⟩
  ·subst e';obtain⟨its,r,pl,hz⟩:=I.list hx;have hlen:=r.length;exact wpAny_truthy_list pl.isList (by simp;omega) ⟨H,I.tok _,by rw[bC r];exact q⟩
  ·subst e';obtain⟨its,r,pl,hz⟩:=I.tuple hx;have hlen:=r.length;exact truthy_tuple pl (by simp;omega) ⟨H,I.tok _,by rw[bC r];exact q⟩
  ·subst e';obtain⟨hz,hS,vs,r,m⟩:=I.hok p _ hx;have hlen:=Paired.length r;exact wpAny_truthy_dict hS m (by omega) ⟨H,I.tok _,by rw[gj r];exact q⟩
 | _=>exact(e).elim
theorem nw(c:PE X a ta)(d:∀b,isTrue a X.env b=(do let v <- b;standAt a.pos;holding [v] (truthy v))) :
  PT X a (λσ H Q=>ta σ H λx H'=>∃k,lj X.K x H' k/\Q k H'):=by
 intro pins s σ H Q I h;exact isTrue_plain (thn (c pins s σ H _ I h) λv g ⟨x,f,e,j,i⟩=>dX pins g σ f x v Q e j i) (d _)
theorem hV:OpR X (binaryOp .Add) (λx y H Q=>∃i j,x=.str i/\y=.str j/\i.length+j.length<=sizeLine/\Q (.str (i++j)) H):=by
 intro pins s σ H x y v u Q I b a h;obtain⟨i,j,rfl,rfl,hz,q⟩:=h;obtain⟨t,rfl⟩:=b;obtain⟨t',rfl⟩:=a;exact add_str (λt' c=>⟨.str (i++j),H,I.tok _,⟨_,rfl⟩,q⟩) hz
theorem aM(r:Vals [x] us):∃u,us=[u]/\RelV x u:=by
 cases r with
 | cons b a=>cases a;exact⟨_,rfl,b⟩
theorem eT(r:Vals [x,y] us):∃u w',us=[u,w']/\RelV x u/\RelV y w':=by
 cases r with
 | cons b a=>
  cases a with
  | cons d c=>cases c;exact⟨_,_,rfl,b,d⟩
theorem lG(b:X.calm=true):p0 X (.builtin "min") (λxs H Q=>∃i j,xs=[.int i,.int j]/\Q (.int (if j<i then j else i)) H):=by
 intro pins s σ H xs us Q I r h;obtain⟨i,j,rfl,q⟩:=h;obtain⟨u,w',rfl,⟨t,rfl⟩,⟨t',rfl⟩⟩:=eT r;refine min_two_ints (I.ok.hd b) λh' c k=>⟨_,H,I.kept k,?_,q⟩;by_cases a:j<i
 ·rw[if_pos a,if_pos a];exact⟨_,rfl⟩
 ·rw[if_neg a,if_neg a];exact⟨_,rfl⟩
end
theorem cM{h:Heap}{dx:Addr}{mA:Str->Option Value}(n:h.Ns1 dx mA):∃od,h.get? dx=some od/\∀name,PySem.W.lookIn name od=some (mA name):=by
 obtain⟨o,es,ep,ho,hd,hk,_,hm⟩:=n;refine⟨o,ho,λname=>?_⟩;have e:=hm name;unfold nsFind findBy at e;rw[<- Array.find?_toList]at e;unfold PySem.W.lookIn;rw[hd];dsimp only;split
 ·rename_i y q;rw[q]at e;exact congrArg some e
 ·rename_i q;rw[q]at e;have a:es.toList.any (·.refKey)=false:=by
   rw[List.any_eq_false];intro y hy;obtain⟨z,t,hkey⟩:=hk y (Array.mem_toList_iff.mp hy);simp[DictEntry.refKey,hkey]
  have a':¬ es.toList.any (·.refKey)=true:=by rw[a];exact He
  rw[if_neg a'];exact congrArg some e
def K5(f:Str)(v:V):List (Str×V)->List (Str×V)
 | []=>[(f,v)]
 | (g,x)::r=>if g=f then (g,v)::r else (g,x)::K5 f v r
theorem X6(f g:Str)(v:V):∀fs:List (Str×V),(K5 f v fs).lookup g=if g=f then some v else fs.lookup g
 | []=>by
  show List.lookup g [(f,v)]=_;by_cases h:g=f
  ·have hb:(g==f)=true:=Jy.mpr h;simp only[List.lookup,hb,if_pos h]
  ·have hb:(g==f)=false:=Im.mpr h;simp only[List.lookup,hb,if_neg h]
 | (k,x)::r=>by
  have ih:=X6 f g v r;rw[show K5 f v ((k,x)::r)=(if k=f then (k,v)::r else (k,x)::K5 f v r) from rfl];by_cases hk:k=f
  ·rw[if_pos hk];by_cases h:g=k
   ·have hb:(g==k)=true:=Jy.mpr h;simp only[List.lookup,hb,if_pos (h.trans hk)]
   ·have hb:(g==k)=false:=Im.mpr h;simp only[List.lookup,hb,if_neg (λe:g=f=>h (e.trans hk.symm))]
  ·rw[if_neg hk];by_cases h:g=k
   ·have hb:(g==k)=true:=Jy.mpr h;simp only[List.lookup,hb,if_neg (λe:g=f=>hk (h.symm.trans e))]
   ·have hb:(g==k)=false:=Im.mpr h;simp only[List.lookup,hb];exact ih
theorem W1(f:Str)(v:V):∀fs:List (Str×V),f∈(K5 f v fs).map (·.1)/\∀g,g∈fs.map (·.1)->g∈(K5 f v fs).map (·.1)
 | []=>⟨by simp[K5],λg h=>by simp at h⟩
 | (k,x)::r=>by
  obtain⟨i1,i2⟩:=W1 f v r;rw[show K5 f v ((k,x)::r)=(if k=f then (k,v)::r else (k,x)::K5 f v r) from rfl];by_cases hk:k=f
  ·rw[if_pos hk];subst hk;exact⟨by simp,λg h=>by simpa using h⟩
  ·rw[if_neg hk];refine⟨?_,λg h=>?_⟩
   ·rw[Ht];exact Hh _ i1
   ·rw[Ht]at h ⊢;rcases Ho.mp h with e | e
    ·exact Ho.mpr (.inl e)
    ·exact Hh _ (i2 g e)
theorem W5(f:Str)(v:V):∀fs:List (Str×V),(K5 f v fs).length<=fs.length+1
 | []=>by simp[K5]
 | (k,x)::r=>by
  have ih:=W5 f v r;rw[show K5 f v ((k,x)::r)=(if k=f then (k,v)::r else (k,x)::K5 f v r) from rfl];by_cases hk:k=f
  ·rw[if_pos hk,Ic,Ic];omega
  ·rw[if_neg hk,Ic,Ic];omega
theorem RelO.some_of(r:RelO (some v) o):∃u,o=some u/\RelV v u:=by
 cases o with
 | none=>exact(r).elim
 | some u=>exact⟨u,rfl,r⟩
def z9(K:PySem.W.Frag)(C:Addr)(f:Str):Prop:=PySem.W.findIn K (.ref C) f=some none
structure Room(q:Bool)(k:Nat)(A:Around):Prop where
 hd:q=false->A.handled=none
 dp:A.depth+3 * k+5<recursionLimit
 un:A.units+16 * k+200<cLine
 gd:A.guards=some []
theorem Room.any{k:Nat}{A:Around}(r:Room false k A):Room q k A:=⟨λ_=>r.hd rfl,r.dp,r.un,r.gd⟩
theorem Room.mono{j k:Nat}{A:Around}(r:Room q k A)(h:j<=k):Room q j A:=⟨r.hd,by have:=r.dp;omega,by have:=r.un;omega,r.gd⟩
theorem Room.deeper(r:Room q (k+1) A)(a:Env):Room q k (A.deeper a):=
 ⟨r.hd,by have:=r.dp;show A.depth+1+3 * k+5<_;omega,by have:=r.un;show A.units+3+16 * k+200<_;omega,r.gd⟩
theorem hZ{A:Around}{C:Addr}{us:List Value}{a:List (Str×Value)}:(A.under (.builtin "type.__call__" ⟨.ref C::us,a⟩)).depth=A.depth+1:=by
 first | rfl | simp[Around.under,Code.weight,Code.isCreation,Code.isGuard,Code.isCaller,Code.frames,Code.isFrame,guardIds]
theorem gR{A:Around}{C:Addr}{us:List Value}{a:List (Str×Value)}:(A.under (.builtin "type.__call__" ⟨.ref C::us,a⟩)).units=A.units+1:=by
 first | rfl | simp[Around.under,Code.cUnits,Code.frames,Code.isFrame]
theorem Room.make(r:Room q (k+1) A)(C:Addr)(us:List Value)(a:List (Str×Value)):Room q k (A.under (.builtin "type.__call__" ⟨.ref C::us,a⟩)):=
 ⟨r.hd,by have:=r.dp;rw[hZ];omega,by have:=r.un;rw[gR];omega,by have:=r.gd;simp[Around.under,Code.guards,Code.isGuard,guardIds,pushGuards,this]⟩
theorem Room.depth(r:Room q k A):A.depth<recursionLimit:=by have:=r.dp;omega
theorem Room.units(r:Room q k A):A.units+64<cLine:=by have:=r.un;omega
def tNil:TA:=λ_ H Q=>Q [] H
def DF(d:TE)(a:TA):TA:=λσ H Q=>d σ H λx c=>a σ c λxs b=>Q (x::xs) b
section
variable {X:Cx}{e:Expr}{es:List Expr}{te:TE}{t:TA}{pos:Pos}
theorem ax:PA X [] tNil:=λ_ _ _ _ H Q I h=>Jk ⟨[],H,I,.nil,h⟩
theorem y0(a:PE X e te)(g:PA X es t)(hs:starEach (e::es) X.env=(false,eval e X.env)::starEach es X.env:=by rfl):PA X (e::es) (DF te t):=by
 intro pos pins s σ H Q I h;rw[hs];refine Jc (thn (a pins s σ H _ I h) λu j ⟨x,f,d,m,l⟩=>?_);exact thn (g pos pins j σ f _ d l) λus n ⟨xs,k,c,b,i⟩=>⟨x::xs,k,c,.cons m b,i⟩
def GU(t:TA):TE:=λσ H Q=>t σ H λxs a=>xs.length<=sizeLine/\∀p,a p=none->Q (.ref p) (upd a p (.tup xs))
def Fp(t:TA):TE:=λσ H Q=>t σ H λxs a=>xs.length<=sizeLine/\∀p,a p=none->Q (.ref p) (upd a p (.lst xs))
theorem Ac{x1}(h:PA X es t):PE X (.Tuple es x1 pos) (GU t):=by
 intro pins s σ H Q I f;refine wpAny_Tuple_spliced (thn (h pos pins s σ H _ I f) λus c ⟨xs,g,a,r,z,q⟩=>⟨by rw[<- r.length];exact z,?_⟩);have d:=a.hok.fresh (Hd _);refine⟨.ref c.heap.objs.size,upd g c.heap.objs.size (.tup xs),a.laid (λb u e=>Ha _ e) (Hd _) ?_,rfl,q _ d⟩;exact⟨z,us,r,⟨_,Hr _ rfl,rfl,_,rfl,rfl⟩⟩
theorem pU(h:PA X es t):PE X (.List es pos) (Fp t):=by
 intro pins s σ H Q I f;refine wpAny_List_spliced (thn (h pos pins s σ H _ I f) λus c ⟨xs,g,a,r,z,q⟩=>⟨by rw[<- r.length];exact z,?_⟩);have d:=a.hok.fresh (Hd _);refine⟨.ref c.heap.objs.size,upd g c.heap.objs.size (.lst xs),a.laid (λb u e=>Ha _ e) (Hd _) ?_,rfl,q _ d⟩;exact⟨z,us,0,r,Hr _ rfl⟩
end
abbrev Sp:=List V->Hp->VK->XK->Prop
structure CXT where
 cx:List Env->Hp->Shared->XK->Value->Shared->Prop
 q:Bool
instance:CoeFun CXT λ_=>List Env->Hp->Shared->XK->Value->Shared->Prop:=⟨CXT.cx⟩
structure Env0(P:Program)(w:World)(K:PySem.W.Frag)(mg:Str->Option Value)(base:Heap)(A:Around)(outer:List Env)(s:Shared)(H:Hp):Prop where
 frames:A.frames=some outer
 mod:Mod K mg base
 bs:∀b o,base.get? b=some o->s.heap.get? b=some o/\H b=none
 bsz:base.objs.size<=s.heap.objs.size
 funs:s.heap.FunFrames base outer
 frf:∀b∈frs outer,H b=none
 hok:HOk P w H s.heap
 bare:AllBare s.gens
def CE(a:List Env)(P:Program)(w:World)(H:Hp)(s:Shared)(Q:VK)(u:Value)(s':Shared):Prop:=
 ∃v H',s'.os=s.os/\AllBare s'.gens/\Un (frs a) [] H H' s.heap s'.heap/\HOk P w H' s'.heap/\RelV v u/\Q v H'
def CR(CX:CXT)(a:List Env)(P:Program)(w:World)(H:Hp)(s:Shared)(Q:VK)(E:XK)(r:Result)(s':Shared):Prop:=
 match r with
 | .ok (.ret u)=>CE a P w H s Q u s'
 | .ok _=>False
 | .error e=>CX a H s E e s'
structure FnOk(P:Program)(w:World)(K:PySem.W.Frag)(mg:Str->Option Value)(base:Heap)(CX:CXT)(k:Nat)(f:Addr)(fd:FuncData)(ps:List Str)(sp:Sp):Prop where
 len:∀vs H Q E,sp vs H Q E->vs.length=ps.length
 run:∀(A:Around)(outer:List Env)(s:Shared)(H:Hp)(args:Args)(us:List Value)(vs:List V)(Q:VK)(E:XK),Room CX.q k A->Env0 P w K mg base A outer s H->BindsTo s fd args (ps.zip us)->Vals vs us->sp vs H Q E ->
  codeAny (model P w) A (.call (.ref f) args) (CR CX outer P w H s Q E) s
theorem FnOk.mono{K:PySem.W.Frag}{d:Str->Option Value}{a:Heap}{CX:CXT}{j k:Nat}{f:Addr}{fd:FuncData}{ps:List Str}{sp:Sp}(F:FnOk P w K d a CX j f fd ps sp)(h:j<=k) :
  FnOk P w K d a CX k f fd ps sp:=⟨F.len,λA b s H c us vs Q E e=>F.run A b s H c us vs Q E (e.mono h)⟩
theorem FnOk.imp{K:PySem.W.Frag}{d:Str->Option Value}{a:Heap}{CX:CXT}{k:Nat}{f:Addr}{fd:FuncData}{ps:List Str}{sp sp':Sp}(F:FnOk P w K d a CX k f fd ps sp)
  (h:∀vs H Q E,sp' vs H Q E->sp vs H Q E):FnOk P w K d a CX k f fd ps sp':=
 ⟨λvs H Q E q=>F.len vs H Q E (h _ _ _ _ q),λA b s H c us vs Q E g e i j hs=>F.run A b s H c us vs Q E g e i j (h _ _ _ _ hs)⟩
theorem Env0.make{K:PySem.W.Frag}{c:Str->Option Value}{b:Heap}{A:Around}{a:List Env}{s:Shared}{H:Hp}(e:Env0 P w K c b A a s H)(C:Addr)(us:List Value)(d:List (Str×Value)) :
  Env0 P w K c b (A.under (.builtin "type.__call__" ⟨.ref C::us,d⟩)) a s H:=⟨by first | exact e.frames | (simpa [Around.under,Code.envs,Code.isFrame,pushEnvs] using e.frames),e.mod,e.bs,e.bsz,e.funs,e.frf,e.hok,e.bare⟩
section
variable {X:Cx}{pins:List (Addr×Obj)}{σ:St}{H:Hp}{s s':Shared}
theorem Inv.env0(I:Inv X pins σ H s):Env0 X.prog X.w X.K X.mg X.base X.A X.stack s H:=
 ⟨I.ok.frames,I.ok.mod,I.bs,HJ I.ok.bsz I.sz,I.stack,I.stkFree,I.hok,I.bare⟩
theorem Inv.after(I:Inv X pins σ H s)(h:CE X.stack X.prog X.w H s Q u s'):EP X pins σ Q u s':=by
 obtain⟨v,H',f,a,i,e,r,q⟩:=h;obtain⟨j,g,d,t,c⟩:=s';obtain rfl:c=s.os:=f;exact⟨v,H',I.call i e a (λb z=>absurd z (by simp)),r,q⟩
end
def sQ(sp:Sp)(a:List V)(E:XK)(t:TA):TE:=λσ H Q=>t σ H λvs b=>sp (vs++a) b Q E
def Binds(K:PySem.W.Frag)(fd:FuncData)(ps:List Str)(ds:List Value):Prop:=
 ∀(s:Shared)(us:List Value),K.In s.heap->(us++ds).length=ps.length->BindsTo s fd ⟨us,[]⟩ (ps.zip (us++ds))
theorem Binds.all{K:PySem.W.Frag}{fd:FuncData}{ps:List Str}(h:∀us:List Value,us.length=ps.length->bindArgs fd ⟨us,[]⟩=pure (ps.zip us)):Binds K fd ps []:=λs us _ a=>by
 rw[HU]at a ⊢;exact .of_eq (h us a)
def C3(CX:CXT)(X:Cx)(E:XK):Prop:=∀(pins:List (Addr×Obj)) (σ:St) (H:Hp) (s:Shared) (e:Value) (s':Shared),Inv X pins σ H s->CX X.stack H s E e s'->X.xe e s'
section
variable {X:Cx}{CX:CXT}{k:Nat}{f C:Addr}{fd:FuncData}{ps:List Str}{sp:Sp}{dvs:List V}{ds:List Value}{E:XK}{x m:Str}{p pos apos:Pos}{e o:Expr}{es:List Expr}{ta:TE}{t:TA}
theorem ia{σ:St}{H:Hp}{s:Shared}{Q:VK}{us:List Value}{vs:List V}(F:FnOk X.prog X.w X.K X.mg X.base CX k f fd ps sp)(hr:Room CX.q k X.A)(hb:Binds X.K fd ps ds)(hd:Vals dvs ds)(hx:C3 CX X E)
  (I:Inv X pins σ H s) (r:Vals vs us) (h:sp (vs++dvs) H Q E):wpAny (model X.prog X.w) X.A (call (.ref f) us) (EP X pins σ Q) X.xe s:=by
 have r2:=r.append hd;have hl:(us++ds).length=ps.length:=by rw[<- r2.length];exact F.len _ _ _ _ h
 refine JG (IT (F.run X.A X.stack s H ⟨us,[]⟩ (us++ds) (vs++dvs) Q E hr I.env0 (hb s us I.kIn hl) r2 h) λr s' hq=>?_);cases r with
 | error e=>exact hx pins σ H s e s' I hq
 | ok fl=>
  cases fl with
  | ret u=>exact I.after hq
  | next=>exact False.elim hq
  | brk=>exact False.elim hq
  | cont=>exact False.elim hq
theorem vD(F:FnOk X.prog X.w X.K X.mg X.base CX k f fd ps sp)(l:Room CX.q k X.A)(m:Gl X x)(o:X.mg x=some (.ref f))(d:PySem.W.keepIn X.K (.ref f)=true)(n:Binds X.K fd ps ds)(hd:Vals dvs ds)(g:C3 CX X E)
  (i:PA X (e::es) t) (a:(x==("__debug__" : Str))=false:=by decide) (j:starEach (e::es) X.env=(false,eval e X.env)::starEach es X.env:=by rfl) (b:(backTo pos (starEach es X.env)).any (·.1)=false:=by rfl) :
  PE X (.Call (.Name x p) (e::es) [] pos) (sQ sp dvs E t):=by
 intro pins s σ H Q I h;refine Ii (D9 I m o ?_ a);refine Ka I.ok.mod.kin d (thn (i pos pins s σ H _ I h) λus v ⟨vs,u,c,r,q⟩=>⟨c.kIn,?_⟩) j b;exact ia F l n hd g c r q
theorem ph(F:FnOk X.prog X.w X.K X.mg X.base CX k f fd ps sp)(d:Room CX.q k X.A)(e:Gl X x)(i:X.mg x=some (.ref f))(b:PySem.W.keepIn X.K (.ref f)=true)(g:Binds X.K fd ps ds)(hd:Vals dvs ds)(c:C3 CX X E)
  (a:(x==("__debug__" : Str))=false:=by decide):PE X (.Call (.Name x p) [] [] pos) (sQ sp dvs E tNil):=by
 intro pins s σ H Q I h;refine Ii (D9 I e i ?_ a);exact PySem.W.callWith_K0 I.kIn b (ia F d g hd c I .nil h)
end
structure FnScope(N P:List Str)(sc:Scope):Prop where
 kind:sc.kind=.function
 co:sc.isCoroutine=false
 gen:sc.isGenerator=false
 nd:N.Nodup
 pre:N.take P.length=P
 par:∀x∈P,sc.names.lookup x=some .local\/sc.names.lookup x=some .cell
 nofree:∀y∈sc.names,y.2≠.free
theorem cD{b:Str->Option NameKind}{x:Str}:∀{a:List (Str×Value)} {m:Str->Option Value},(∀v,(x,v)∉a)->bindL b a m x=m x
 | [],_,_=>rfl
 | (n,v)::r,m,h=>by
  unfold bindL;rw[cD λw c=>h w (Hh _ c)];split
  ·have:x≠n:=by rintro rfl;exact h v Hf
   simp[this]
  ·rfl
theorem cA{b:Str->Option NameKind}{x:Str}:∀{a:List (Str×Value)} {m:Str->Option Value},(∀v,(x,v)∉a)->bindC b a m x=m x
 | [],_,_=>rfl
 | (n,v)::r,m,h=>by
  unfold bindC;rw[cA λw c=>h w (Hh _ c)];split
  ·rfl
  ·have:x≠n:=by rintro rfl;exact h v Hf
   simp[this]
theorem cP{a:Str->Option NameKind}{x:Str}{v:Value}:∀{P:List Str}{vs:List Value}{i:Nat}{m:Str->Option Value},P.Nodup->P[i]?=some x->vs[i]?=some v->a x=some .local ->
  bindL a (P.zip vs) m x=some v
 | [],_,_,_,_,h,_,_=>by simp at h
 | _::_,[],_,_,_,_,h,_=>by simp at h
 | p::P,w::vs,0,m,d,b,c,e=>by
  simp at b c;subst b;subst c;show bindL a ((p,w)::P.zip vs) m p=_;unfold bindL;rw[cD λv f=>(Jj.mp d).1 (LA f).1,if_pos e];simp
 | p::P,w::vs,i+1,m,d,b,c,e=>by
  unfold bindL;exact cP (Jj.mp d).2 (by simpa using b) (by simpa using c) e
theorem bu{a:Str->Option NameKind}{x:Str}{v:Value}:∀{P:List Str}{vs:List Value}{i:Nat}{m:Str->Option Value},P.Nodup->P[i]?=some x->vs[i]?=some v->a x≠some .local ->
  bindC a (P.zip vs) m x=some v
 | [],_,_,_,_,h,_,_=>by simp at h
 | _::_,[],_,_,_,_,h,_=>by simp at h
 | p::P,w::vs,0,m,d,b,c,e=>by
  simp at b c;subst b;subst c;show bindC a ((p,w)::P.zip vs) m p=_;unfold bindC;rw[cA λv f=>(Jj.mp d).1 (LA f).1,if_neg e];simp
 | p::P,w::vs,i+1,m,d,b,c,e=>by
  unfold bindC;exact bu (Jj.mp d).2 (by simpa using b) (by simpa using c) e
def start(N:List Str)(vs:List V):St:=vs.map some++List.replicate (N.length-vs.length) none
def bR(CX:CXT)(P:Program)(w:World)(K:PySem.W.Frag)(mg:Str->Option Value)(base:Heap)(N:List Str)(qual:Str)(scope:Scope)(f:Addr)(cd:Value)(A:Around)(outer:List Env)(s:Shared)(H:Hp)(E:XK):Cx where
 prog:=P
 w:=w
 K:=K
 mg:=mg
 base:=base
 A:=A.deeper (envOfC qual scope s.heap.objs.size f cd)
 N:=N
 s₀:=s
 H₀:=H
 env:=envOfC qual scope s.heap.objs.size f cd
 outer:=outer
 stack:=envOfC qual scope s.heap.objs.size f cd::outer
 ex:=[]
 calm:=!CX.q
 fn:=λ_=>true
 pn:=[]
 xe:=λe s'=>wpAny (model P w) (A.deeper (envOfC qual scope s.heap.objs.size f cd)) (leaving (envOfC qual scope s.heap.objs.size f cd) e) (λ_ s''=>CX outer H s E e s'') (λe' s''=>CX outer H s E e' s'') s'
theorem fo{a:Scope}{n:Nat}{x:Str}(h:a.names.lookup x=some .cell):∃c,(cellsFrom n a.names []).lookup x=some c:=by
 have q:=PySem.W.cellsFrom_some a.names n [] (.inl h);exact HW.mp q
theorem ko{CX:CXT}{P:Program}{w:World}{K:PySem.W.Frag}{mg:Str->Option Value}{base:Heap}{N ps:List Str}{qual:Str}{scope:Scope}{f:Addr}{cd:Value}{A:Around}{outer:List Env}{s s1:Shared}{H:Hp}{E:XK}{us:List Value}{vs:List V}
  (S:FnScope N ps scope) (hd:CX.q=false->A.handled=none) (e0:Env0 P w K mg base A outer s H) (hl:vs.length=ps.length) (r:Vals vs us)
  (x:InCallC s s.heap.objs.size (bindL (envOfC qual scope s.heap.objs.size f cd).kindOf (ps.zip us) λ_=>none) (cellsFrom (s.heap.objs.size+1) scope.names []) (bindC (envOfC qual scope s.heap.objs.size f cd).kindOf (ps.zip us) λ_=>none) s1) :
  Inv (bR CX P w K mg base N qual scope f cd A outer s H E) [] (start N vs) H s1:=by
 have hpl:ps.length<=N.length:=by have:=congrArg List.length S.pre;rw[Jt]at this;omega
 obtain⟨h1,tk,rfl,hk⟩:=x.done;have noA:∀b:Addr,b∉(bR CX P w K mg base N qual scope f cd A outer s H E).ex:=λb z=>absurd (show b∈([]:List Addr) from z) (by simp);refine⟨⟨e0.mod,S.kind,rfl,rfl,Hd _,λy z c h1 h2=>?_,λy hy=>?_,λy c _ h=>?_,λz=>hd (by have z:(!CX.q)=true:=z;simpa using z),Around.frames_deeper e0.frames,.inr ⟨rfl,rfl⟩,λb z=>absurd z (noA b),e0.bs,e0.bsz,λb _ _=>noA b,λb z=>absurd z (noA b),e0.funs,e0.frf⟩,
  rfl,e0.bare,Un.kept hk,⟨_,x.toInCall.ns,λi y v h1 h2 h3=>?_⟩,λy c h=>⟨_,x.cell y c h⟩,e0.hok.fresh (Hd _),λy c h=>?_,λp hp=>absurd (show p∈([]:List (Addr×Obj)) from hp) (by simp),e0.hok.kept hk,?_⟩
 ·exact name_of_addr x.apart (Jr h1) (Jr h2)
 ·have hy:scope.names.lookup y=some .cell\/scope.names.lookup y=some .free:=hy;rcases hy with hy | hy
  ·exact fo hy
  ·exact absurd rfl (S.nofree _ (Jr hy))
 ·exact Lu (x.above y c (Jr h))
 ·have hi:i<vs.length:=by
   unfold start at h2;by_cases hi:i<vs.length
   ·exact hi
   ·rw[HC (by simpa using hi)]at h2;rw[Ip]at h2;split at h2 <;> cases h2
  have ha:vs[i]?=some v:=by
   unfold start at h2;rw[Hj (by simpa using hi),HK]at h2;cases e:vs[i]? with
   | none=>rw[e]at h2;cases h2
   | some a=>rw[e]at h2;cases h2;rfl
  obtain⟨u,hu,rv⟩:=r.get ha;have hp:ps[i]?=some y:=by
   rw[<- S.pre,List.getElem?_take_of_lt (by omega)];exact h1
  have ndP:ps.Nodup:=by rw[<- S.pre];exact S.nd.sublist (List.take_sublist _ _)
  refine⟨u,rv,?_⟩;rcases S.par y (HE hp)with k | k
  ·exact .inl ⟨k,cP ndP hp hu k⟩
  ·obtain⟨c,e⟩:=fo (n:=s.heap.objs.size+1) k;refine .inr ⟨.inl k,c,e,?_⟩;have q:=x.cell y c e;rw[bu ndP hp hu (by show scope.names.lookup y≠_;rw[k];decide)]at q;exact q
 ·exact e0.hok.fresh (Lu (x.above y c (Jr h)))
 ·unfold start;show _=N.length;rw[Hu,Hc,Jf];omega
theorem xj{K:PySem.W.Frag}{mg:Str->Option Value}{base:Heap}{k:Nat}{f:Addr}{name qual:Str}{params:Arguments}{body:List Stmt}{scope:Scope}{dV kV doc pm cdv ct oc:Value}{an od:Option Addr}
  {osl:Array (Option Value)} {N ps:List Str} {sp:Sp} (lk:K.lookup f=some ⟨oc,od,.func (PySem.W.fnOf name qual params body scope dV kV doc pm an cdv ct),osl⟩) (hcd:PySem.W.codeIn K cdv qual=true) (S:FnScope N ps scope)
  (len:∀vs H Q E,sp vs H Q E->vs.length=ps.length)
  (hbody:∀(A:Around)(outer:List Env)(s:Shared)(H:Hp)(vs:List V)(Q:VK)(E:XK),Room CX.q k (A.deeper (envOfC qual scope s.heap.objs.size f cdv))->sp vs H Q E ->
   ∃t,PSs (bR CX P w K mg base N qual scope f cdv A outer s H E) body t/\t { nx:=λ_ H'=>Q .non H',rt:=Q } (start N vs) H) :
  FnOk P w K mg base CX (k+1) f (PySem.W.fnOf name qual params body scope dV kV doc pm an cdv ct) ps sp:=by
 refine⟨len,λA outer s H args us vs Q E hr e0 hb r hsp=>?_⟩;have hl:=len _ _ _ _ hsp;have KX:=e0.mod.kin.keeps λb o e=>(e0.bs b o e).1;have lim:=e0.mod.nolimit.keeps λb o e=>(e0.bs b o e).1;have hkind:∀y∈ps.zip us,scope.names.lookup y.1=some .local\/(scope.names.lookup y.1=some .cell/\((cellsFrom (s.heap.objs.size+1) scope.names []).lookup y.1).isSome=true):=λ⟨n,v⟩ hy=>by
  rcases S.par n (LA hy).1 with q | q
  ·exact .inl q
  ·exact .inr ⟨q,PySem.W.cellsFrom_some _ _ _ (.inl q)⟩
 refine codeAny_call_function hr.depth (KX _ _ lk) rfl S.co S.gen rfl (PySem.W.codeRec_of KX hcd) (hb _ _ _ _ ?_);refine wpAny_newFunctionEnv_cells S.kind hkind λenv he s1 x=>?_;subst he;refine⟨lim.keeps x.toInCall.keep,codeAny_func ?_⟩;obtain⟨t,ht,hq⟩:=hbody A outer s H vs Q E (hr.deeper _) hsp;have I:Inv (bR CX P w K mg base N qual scope f cdv A outer s H E) [] (start N vs) H s1:=ko S hr.hd e0 hl r x;refine Hy (ht [] s1 (start N vs) H _ I hq) (λfl s' hs=>?_) λe s' hs=>hs;have fin:∀{σ':St}{H':Hp}{v:V}{u:Value},Inv (bR CX P w K mg base N qual scope f cdv A outer s H E) [] σ' H' s'->RelV v u->Q v H'->CE outer P w H s Q u s':=
  λ{σ' H' v u} J rv q=>⟨v,H',J.os,J.bare,J.base,J.hok,rv,q⟩
 cases fl with
 | ret u=>
  obtain⟨v,σ',H',J,rv,q⟩:=hs;exact fin J rv q
 | next=>
  obtain⟨σ',H',J,q⟩:=hs;exact fin (v:=V.non) J rfl q
 | brk=>
  obtain⟨_,_,_,q⟩:=hs;exact False.elim q
 | cont=>
  obtain⟨_,_,_,q⟩:=hs;exact False.elim q
section
variable {X:Cx}{x:Str}{p pos:Pos}{e:Expr}{es:List Expr}{t:TA}{id T:String}{r:List V->Hp->VK->Prop}
def tCB(r:List V->Hp->VK->Prop)(t:TA):TE:=λσ H Q=>t σ H λvs a=>r vs a Q
theorem dy(n:p0 X (.builtin id) r)(l:Gl X x)(m:X.mg x=none)(c:bootBuiltins x=some (.builtin id))(d:PA X (e::es) t)(f:x ≠ "__name__":=by decide) (a:(x==("__debug__" : Str))=false:=by decide)
  (g:starEach (e::es) X.env=(false,eval e X.env)::starEach es X.env:=by rfl) (b:(backTo pos (starEach es X.env)).any (·.1)=false:=by rfl):PE X (.Call (.Name x p) (e::es) [] pos) (tCB r t):=by
 intro pins s σ H Q I h;refine Ii (B7 I l m c ?_ f a);exact Ju (thn (d pos pins s σ H _ I h) λus i ⟨vs,k,j,q,o⟩=>n pins i σ k vs us Q j q o) g b
theorem lv(n:p0 X (.type T) r)(l:Gl X x)(m:X.mg x=none)(c:bootBuiltins x=some (.type T))(d:PA X (e::es) t)(f:x ≠ "__name__":=by decide) (a:(x==("__debug__" : Str))=false:=by decide)
  (g:starEach (e::es) X.env=(false,eval e X.env)::starEach es X.env:=by rfl) (b:(backTo pos (starEach es X.env)).any (·.1)=false:=by rfl):PE X (.Call (.Name x p) (e::es) [] pos) (tCB r t):=by
 intro pins s σ H Q I h;refine Ii (B7 I l m c ?_ f a);exact Io (thn (d pos pins s σ H _ I h) λus i ⟨vs,k,j,q,o⟩=>n pins i σ k vs us Q j q o) g b
end
end L2
namespace HT
open PySem PyProof.Rows
section
variable {prog:Program}{w:World}{A:Around}{E:Value->Shared->Prop}{s:Shared}
theorem cat_tup(q:IsTup s.heap t vs.toArray)(v:IsTup s.heap b ws.toArray)(p:vs≠[])
  (r:ws=[]->Q (.ref t) s) (u:ws≠[]->Q (.ref s.heap.objs.size) { s with heap:=s.heap.push { cls:=.type "tuple",data:=.seq (vs++ws).toArray } })
  (hsz:vs.length+ws.length<=sizeLine):wpAny (model prog w) A (binaryOp .Add (.ref t) (.ref b)) Q E s:=by
 obtain⟨⟨cls,k,data,o⟩,f,x,n,hd⟩:=id q;obtain⟨⟨m,d,i,c⟩,a,h,l,j⟩:=id v;subst x hd h j;have e:vs.toArray++ws.toArray=(vs++ws).toArray:=by simp
 by_cases g:ws=[]
 ·exact concat_meets ⟨_,f,rfl⟩ ⟨_,a,rfl⟩ Ll LN Kj Kf (JW _ _)
   (tuple_addW1 t b vs.toArray ws.toArray n l k d o c (by simpa using p) (by simp[g])) ⟨f,a,r g⟩
 ·refine concat_meets ⟨_,f,rfl⟩ ⟨_,a,rfl⟩ Ll LN Kj Kf (JW _ _)
   (tuple_addW2 t b vs.toArray ws.toArray n l k d o c (by simpa using p) (by simpa using g) (by rw[Hg,Hg];exact hsz)) ⟨f,a,?_⟩
  rw[e];exact u g
def sIx(n d:Nat):Option Int->Nat
 | none=>d
 | some v=>if v<0 then (v+(n:Int)).toNat else min v.toNat n
theorem sIx_none(n d:Nat):sIx n d none=d:=rfl
theorem Au(n d:Nat)(hd:d<=n)(o:Option Int):sIx n d o<=n:=by
 cases o with
 | none=>exact hd
 | some v=>
  show(if v<0 then (v+(n:Int)).toNat else min v.toNat n)<=n;by_cases hv:v<0
  ·rw[if_pos hv];omega
  ·rw[if_neg hv];exact Nat.min_le_right _ _
theorem jv(v:Int)(n d:Nat):(if v<0 then max (v+(n:Int)) 0 else min v (n:Int))=((sIx n d (some v):Nat):Int):=by
 show(if v<0 then max (v+(n:Int)) 0 else min v (n:Int))=(((if v<0 then (v+(n:Int)).toNat else min v.toNat n):Nat):Int);by_cases hv:v<0
 ·simp only[if_pos hv];omega
 ·simp only[if_neg hv];omega
theorem iT(lo hi:Option Int)(n:Nat):Builtin.Slice.sliceAdjust lo hi 1 (n:Int)=(((sIx n 0 lo:Nat):Int),((sIx n n hi:Nat):Int)):=by
 have h1:¬ ((1:Int)<0):=by omega
 refine Prod.ext ?_ ?_
 ·cases lo with
  | none=>rfl
  | some v=>exact jv v n 0
 ·cases hi with
  | none=>rfl
  | some v=>exact jv v n n
theorem gc(i j:Nat):Builtin.Slice.slicePlaces (i:Int) (j:Int) 1=j-i:=by
 unfold Builtin.Slice.slicePlaces;have h1:(1:Int) > 0:=by omega
 simp only[h1,LQ,Int.ediv_one];split <;> omega
theorem af(p:IsPart v o)(h:Q o s):wpAny (model prog w) A (Builtin.Slice.slicePartIndex v) Q E s:=by
 cases p with
 | none=>exact KJ h
 | int i t=>exact slicePart_int h
theorem sliceApplied_gen{lo hi:Option Int}{n:Nat}{Q:Int×Int×Nat->Shared->Prop}(hs:s.heap.IsSliceOf sl vl vu .none)(pl:IsPart vl lo)(pu:IsPart vu hi)
  (h:Q (((sIx n 0 lo:Nat):Int),1,sIx n n hi-sIx n 0 lo) s):wpAny (model prog w) A (Builtin.Slice.sliceApplied (.ref sl) (pure (n:Int))) Q E s:=by
 obtain⟨os,hos,hcs,hds⟩:=id hs;refine Gx (Gx (Iw hos hds rfl (Gx (Iw hos hds rfl (Gx (Iw hos hds rfl (Gy ?_)))))));refine Gx (KJ ?_);rw[if_neg (by decide)];refine Gx (af pl (Gx (af pu (Gx (Gy ?_)))));show wpAny _ _ (match Builtin.Slice.sliceAdjust lo hi 1 (n:Int)with | (lo,hi)=>pure (lo,(1:Int),Builtin.Slice.slicePlaces lo hi 1)) _ _ s;rw[iT lo hi n];show wpAny _ _ (pure (((sIx n 0 lo:Nat):Int),(1:Int),Builtin.Slice.slicePlaces ((sIx n 0 lo:Nat):Int) ((sIx n n hi:Nat):Int) 1)) _ _ s;rw[gc];exact Gy h
theorem rW(xs:Array Value)(i k:Nat):((List.range k).filterMap λ(m:Nat)=>xs[((i:Int)+(m:Int) * 1).toNat]?).toArray=((xs.toList.drop i).take k).toArray:=by
 have e:(λ(m:Nat)=>xs[((i:Int)+(m:Int) * 1).toNat]?)=λm=>xs[i+m]?:=by
  funext m;have:((i:Int)+(m:Int) * 1).toNat=i+m:=by omega
  rw[this]
 rw[e];have:=pick_run xs i k;rw[Kb]at this;have e2:((λx=>xs[x]?) ∘ λx=>i+x)=λm=>xs[i+m]?:=rfl;rw[e2]at this;rw[this]
theorem getItem_tuple_cut{items:Array Value}{i j:Value}{lo b:Option Int}{Q:Value->Shared->Prop}(c:IsTup s.heap t items)(hs:s.heap.IsSliceOf sl i j .none)(pl:IsPart i lo)(k:IsPart j b)
  (m:¬ (sIx items.size 0 lo=0/\sIx items.size items.size b=items.size))
  (h:Q (.ref s.heap.objs.size) { s with heap:=s.heap.push { cls:=.type "tuple",data:=.seq ((items.toList.drop (sIx items.size 0 lo)).take (sIx items.size items.size b-sIx items.size 0 lo)).toArray } })
  (hsz:items.size<=sizeLine):wpAny (model prog w) A (getItem (.ref t) (.ref sl)) Q E s:=by
 have a:sizeOk (.seq ((items.toList.drop (sIx items.size 0 lo)).take (sIx items.size items.size b-sIx items.size 0 lo)).toArray):=by
  show((items.toList.drop (sIx items.size 0 lo)).take (sIx items.size items.size b-sIx items.size 0 lo)).toArray.size<=sizeLine;rw[Hg,Jt,List.length_drop,JP];omega
 have n:sIx items.size items.size b<=items.size:=Au _ _ (Hd _) b;obtain⟨l,d,e,hds⟩:=id hs;have g:s.TypeIs (.ref sl) "slice":=⟨l,d,e⟩;unfold getItem;try with_reducible refine HX ?_
 first | refine Gx (Gy ?_) | skip
 refine Gx (KR c.typeIs (by decide) ?_);refine Gx (Iq c.typeIs Ie
  (ID Ie c.typeIs KE ?_ (KL _ _)))
 show wpAny _ _ (Builtin.Tuple.tupleItemsOf (.ref t) >>= _) _ _ s;refine Gx (KZ c ?_);refine Gx (KF g ?_);rw[if_pos (by decide)];refine Gx (sliceApplied_gen hs pl k ?_);have f:¬ ((((sIx items.size 0 lo:Nat):Int)==0&&(1:Int)==1&&(sIx items.size items.size b-sIx items.size 0 lo)==items.size)=true):=by
  intro q;rw[Gz,Gz]at q;have p:=Lm q.1.1;have o:=Lm q.2;exact m ⟨by omega,by omega⟩
 show wpAny _ _ (if (((sIx items.size 0 lo:Nat):Int)==0&&(1:Int)==1&&(sIx items.size items.size b-sIx items.size 0 lo)==items.size)=true then _ else _) _ _ s;rw[if_neg f,rW];first
  | exact Gx (HF (Gy ⟨_,rfl,Gy h⟩) a)
  | exact Gx (HF (Gx (Gy (Gy ⟨_,rfl,Gy h⟩))) a)
  | exact Gx (Gx (HF (Gy (Gy ⟨_,rfl,Gy h⟩)) a))
  | exact Gx (Gx (HF (Gy ⟨_,rfl,Gy h⟩) a))
end
end HT
namespace L2
open PySem PySem.Spec PyProof.Rows
abbrev TO:=St->Hp->(Option Int->Hp->Prop)->Prop
def PO(X:Cx)(e:Option Expr)(t:TO):Prop:=
 ∀(pins:List (Addr×Obj)) (s:Shared) (σ:St) (H:Hp) (Q:Option Int->Hp->Prop),Inv X pins σ H s->t σ H Q ->
  wpAny (model X.prog X.w) X.A (evalPart e X.env) (λu s'=>∃o H',Inv X pins σ H' s'/\IsPart u o/\Q o H') X.xe s
def tNoPart:TO:=λ_ H Q=>Q none H
def Bn(t:TE):TO:=λσ H Q=>t σ H λx a=>∃i,x=.int i/\Q (some i) a
section
variable {X:Cx}{e:Expr}{te:TE}{lo hi:Option Expr}{tl th:TO}{pos p2:Pos}
theorem tJ:PO X none tNoPart:=by
 intro pins s σ H Q I h;rw[LO];exact Gy ⟨none,H,I,.none,h⟩
theorem uG(h:PE X e te):PO X (some e) (Bn te):=by
 intro pins s σ H Q I f;rw[evalPart_some];refine thn (h pins s σ H _ I f) λu g ⟨x,b,a,d,c⟩=>?_;obtain⟨i,rfl,q⟩:=c;obtain⟨t,rfl⟩:=d;exact⟨some i,b,a,.int i t,q⟩
def SlR(X:Cx)(r:V->Option Int->Option Int->Hp->VK->Prop):Prop:=
 ∀(pins:List (Addr×Obj)) (s:Shared) (σ:St) (H:Hp) (x:V) (v c b:Value) (lo a:Option Int) (d:Addr) (Q:VK),Inv X pins σ H s->RelV x v->s.heap.IsSliceOf d c b .none->IsPart c lo->IsPart b a->r x lo a H Q ->
  ∃T id,typeLookup (.type T) "__getitem__" = pure (some (.builtin id))/\s.TypeIs v T/\wpAny (model X.prog X.w) X.A (getItem v (.ref d)) (EP X pins σ Q) X.xe s
def tSl(r:V->Option Int->Option Int->Hp->VK->Prop)(te:TE)(a d:TO):TE:=λσ H Q=>te σ H λx c=>a σ c λl e=>d σ e λu b=>r x l u b Q
theorem oA(j:SlR X r)(o:PE X e te)(g:PO X lo tl)(J:PO X hi th):PE X (.Subscript e (.Slice lo hi none p2) pos) (tSl r te tl th):=by
 intro pins s σ H Q I h;refine Subscript_ (thn (o pins s σ H _ I h) λv m ⟨x,y,t,C,B⟩=>?_);refine wpAny_Slice (thn (g pins m σ y _ t B) λc F ⟨l,G,D,pl,i⟩=>thn (J pins F σ G _ D i) λd a ⟨u,f,w,n,z⟩=>?_);rw[LO];refine Gy ?_;have k:Inv X pins σ f { a with heap:=a.heap.push { cls:=.type "slice",data:=.fields #[c,d,.none] } }:=w.kept λb ob q=>Ha _ q;obtain⟨T,id,A,p,E⟩:=j pins { a with heap:=a.heap.push { cls:=.type "slice",data:=.fields #[c,d,.none] } } σ f x v c d l u a.heap.objs.size Q k C (KM ..) pl n z;exact tail_any p A E (by with_unfolding_all rfl)
def mQ(xs:List V)(lo a:Option Int):List V:=(xs.drop (HT.sIx xs.length 0 lo)).take (HT.sIx xs.length xs.length a-HT.sIx xs.length 0 lo)
theorem W2(xs:List V)(lo hi:Option Int):(mQ xs lo hi).length<=xs.length:=by
 unfold mQ;rw[Jt,List.length_drop];omega
def Fy(K:PySem.W.Frag):V->Option Int->Option Int->Hp->VK->Prop:=λx lo b H Q=>∃a xs,x=.ref a/\SqT K H a xs /\
 ¬ (HT.sIx xs.length 0 lo=0/\HT.sIx xs.length xs.length b=xs.length)/\∀p,H p=none->Q (.ref p) (upd H p (.tup (mQ xs lo b)))
theorem Ak:SlR X (Fy X.K):=by
 intro pins s σ H x v l m lo e n Q I j hs pl i h;obtain⟨a,xs,rfl,g,k,q⟩:=h;cases j;obtain⟨d,r,f,hz⟩:=I.tuple g;have c:d.toArray.size=xs.length:=by rw[Hg];exact r.length.symm
 refine⟨"tuple",_,PyProof.Rows.slot_tuple_getitem.lookup,f.typeIs,?_⟩;refine HT.getItem_tuple_cut f hs pl i (by rw[c];exact k) ?_ (by rw[c];exact hz);rw[c];refine⟨.ref s.heap.objs.size,_,I.laid (λb ob q=>Ha _ q) (Hd _) ?_,rfl,q _ (I.hok.fresh (Hd _))⟩;exact⟨HJ (W2 xs lo e) hz,_,(r.drop (HT.sIx xs.length 0 lo)).take (HT.sIx xs.length xs.length e-HT.sIx xs.length 0 lo),TupN.new _ _⟩
def Eh(K:PySem.W.Frag):R2:=λx y H Q=>∃a b xs ys,x=.ref a/\y=.ref b/\SqT K H a xs/\SqT K H b ys/\xs≠[]/\xs.length+ys.length<=sizeLine /\
 (ys=[]->Q (.ref a) H)/\(ys≠[]->∀p,H p=none->Q (.ref p) (upd H p (.tup (xs++ys))))
theorem Vals.nil_iff(r:Vals xs us):us=[]↔xs=[]:=by
 cases r with
 | nil=>simp
 | cons _ _=>simp
theorem wR:OpR X (binaryOp .Add) (Eh X.K):=by
 intro pins s σ H x y v u Q I n k h;obtain⟨a,b,xs,ys,rfl,rfl,g,m,f,hz,p,l⟩:=h;cases n;cases k;obtain⟨j,d,o,_⟩:=I.tuple g;obtain⟨e,c,i,_⟩:=I.tuple m;refine HT.cat_tup o i (λz=>f (d.nil_iff.mp z)) (λz=>⟨.ref a,H,I,rfl,p (c.nil_iff.mp z)⟩) (λz=>?_) (by rw[<- d.length,<- c.length];exact hz);refine⟨.ref s.heap.objs.size,_,I.laid (λb ob q=>Ha _ q) (Hd _) ?_,rfl,l (λw=>z (c.nil_iff.mpr w)) _ (I.hok.fresh (Hd _))⟩;exact⟨by rw[Hu];exact hz,_,d.append c,TupN.new _ _⟩
end
def ixN(n:Nat)(i:Int):Option Nat:=if 0<=i then (if i<n then some i.toNat else none)else if -(n:Int)<=i then some (i+n).toNat else none
def atI{a:Type}(xs:List a)(i:Int):Option a:=(ixN xs.length i).bind λj=>xs[j]?
theorem jT(h:ixN n i=some j):seqIndex? i n=some j/\j<n/\-(n:Int)<=i/\i<n:=by
 unfold ixN at h;by_cases h0:0<=i
 ·rw[if_pos h0]at h;by_cases h1:i<n
  ·rw[if_pos h1]at h;have e:=HH h;exact⟨by rw[seqIndex_of h0 h1,e],by omega,by omega,h1⟩
  ·rw[if_neg h1]at h;cases h
 ·rw[if_neg h0]at h;by_cases h1:-(n:Int)<=i
  ·rw[if_pos h1]at h;have e:=HH h;exact⟨by rw[seqIndex_neg (by omega) h1,e],by omega,h1,by omega⟩
  ·rw[if_neg h1]at h;cases h
theorem jo(h:atI xs i=some v):∃j,seqIndex? i xs.length=some j/\xs[j]?=some v/\j<xs.length/\-(xs.length:Int)<=i/\i<xs.length:=by
 unfold atI at h;cases e:ixN xs.length i with
 | none=>rw[e]at h;cases h
 | some j=>
  rw[e]at h;obtain⟨c,b,a,d⟩:=jT e;exact⟨j,c,h,b,a,d⟩
theorem Y6{j:Nat}{v:α}(h:xs[j]?=some v):atI xs (j:Int)=some v:=by
 have hj:=(Hb.mp h).1;have e:ixN xs.length (j:Int)=some j:=by
  unfold ixN;rw[if_pos (by omega),if_pos (by omega)];simp
 unfold atI;rw[e];exact h
def dP(b:Expr):Prop:=∀o i,subscripted b false o i=operate [o,i] (getItem o i)
def IxR(X:Cx)(r:R2):Prop:=
 ∀(b a:Expr) (pins:List (Addr×Obj)) (s:Shared) (σ:St) (H:Hp) (x y:V) (v u:Value) (Q:VK),Inv X pins σ H s->RelV x v->RelV y u->r x y H Q ->
  subscripted a false v u=operate [v,u] (getItem v u)->wpAny (model X.prog X.w) X.A (subscriptTail b a v u) (EP X pins σ Q) X.xe s
def MtR(X:Cx)(id:String)(r:V->List V->Hp->VK->Prop):Prop:=
 ∀(pins:List (Addr×Obj)) (s:Shared) (σ:St) (H:Hp) (x:V) (xs:List V) (v:Value) (us:List Value) (Q:VK),Inv X pins σ H s->RelV x v->Vals xs us->r x xs H Q ->
  wpAny (model X.prog X.w) X.A (call (.builtin id) (v::us)) (EP X pins σ Q) X.xe s
section
variable {X:Cx}{a b:Expr}{ta tb:TE}{pos:Pos}
theorem yB(f:IxR X r)(c:PE X a ta)(g:PE X b tb)(hs:dP b):PE X (.Subscript a b pos) (tOp r ta tb):=by
 intro pins s σ H Q I h;exact Subscript_ (AD c g I h λv u j x y k d i e q=>f a b pins j σ k x y v u Q d i e q (hs _ _))
def Gc(K:PySem.W.Frag):R2:=λx y H Q=>∃p xs i v,x=.ref p/\y=.int i/\SqL K H p xs/\atI xs i=some v/\Q v H
def zI(K:PySem.W.Frag):R2:=λx y H Q=>∃p xs i v,x=.ref p/\y=.int i/\SqT K H p xs/\atI xs i=some v/\Q v H
theorem tu:IxR X (Gc X.K):=by
 intro f e pins s σ H x y v u Q I D n h hs;obtain⟨p,xs,i,z,rfl,rfl,E,A,q⟩:=h;cases D;obtain⟨t,rfl⟩:=n;obtain⟨d,r,pl,hz⟩:=I.list E;obtain⟨j,b,C,G,m,B⟩:=jo A;obtain⟨w,k,c⟩:=r.get C;have o:=r.length;have F:=U7;have a:EP X pins σ Q w s:=⟨z,H,I,c,q⟩;by_cases l:0<=i
 ·have g:i.toNat=j:=by
   rw[seqIndex_of l B]at b;exact HH b
  exact item_listR pl.isList l (by omega) (by rw[g];simpa using k) a hs
 ·have g:(i+(d.toArray.size:Int)).toNat=j:=by
   rw[seqIndex_neg (by omega) m]at b;rw[Hg,<- o];exact HH b
  exact subscriptTail_builtinR pl.isList.typeIs slot_list_getitem.lookup
   (wpAny_getItem_list_neg pl.isList (by omega) (by rw[Hg] <;> omega) (by omega) (by rw[g];simpa using k) ⟨rfl,a⟩) hs
theorem AZ:IxR X (zI X.K):=by
 intro b d pins s σ H x y v u Q I A l h hs;obtain⟨p,xs,i,z,rfl,rfl,g,e,q⟩:=h;cases A;obtain⟨t,rfl⟩:=l;obtain⟨k,r,pl,hz⟩:=I.tuple g;obtain⟨j,f,o,D,C,E⟩:=jo e;obtain⟨w,n,c⟩:=r.get o;have m:=r.length;have B:=U7;have a:EP X pins σ Q w s:=⟨z,H,I,c,q⟩;exact subscriptTail_builtinR pl.typeIs slot_tuple_getitem.lookup
  (getItem_tuple pl (by omega) (by omega) (by rw[Hg,<- m];exact f) (by simpa using n) ⟨rfl,a⟩) hs
theorem gm(a:List Value)(n j:Nat)(u:Value):Obj.mapSeq (·.setIfInBounds j u) { cls:=.type "list",data:=.seq a.toArray n }={ cls:=.type "list",data:=.seq (a.set j u).toArray n }:=by
 simp[Obj.mapSeq]
theorem Inv.lst{σ:St}{H:Hp}{s:Shared}{p:Addr}{xs:List V}(I:Inv X pins σ H s)(h:H p=some (.lst xs)) :
  ∃(its:List Value) (n:Nat),Vals xs its/\s.heap.get? p=some { cls:=.type "list",data:=.seq its.toArray n }/\xs.length<=sizeLine:=by
 obtain⟨z,its,n,r,e⟩:=I.hok p _ h;exact⟨its,n,r,e,z⟩
theorem Inv.lstUpd{σ:St}{H:Hp}{s:Shared}{p:Addr}{xs ys:List V}{a its':List Value}{n c:Nat}{f:Obj->Obj}(I:Inv X pins σ H s)(h:H p=some (.lst xs))
  (g:s.heap.get? p=some { cls:=.type "list",data:=.seq a.toArray n }) (d:f { cls:=.type "list",data:=.seq a.toArray n }={ cls:=.type "list",data:=.seq its'.toArray c }) (r:Vals ys its') (hz:ys.length<=sizeLine) (t:Nat) :
  Inv X pins σ (upd H p (.lst ys)) { s with heap:=s.heap.update p f,toks:=t }:=by
 have e:(s.heap.update p f).get? p=some { cls:=.type "list",data:=.seq its'.toArray c }:=by
  rw[HZ f g (by rw[d] <;> rfl),d]
 refine I.write (by rw[h];trivial) (.inl rfl) (λb u i q=>(Jz _ _ (Ne.symm i)).trans q) ⟨_,e⟩ ?_;exact⟨hz,its',c,r,e⟩
def rSetL:V->V->V->Hp->(Hp->Prop)->Prop:=λo i v H Q=>∃p xs k j,o=.ref p/\i=.int k/\H p=some (.lst xs)/\ixN xs.length k=some j/\Q (upd H p (.lst (xs.set j v)))
theorem rh:zM X rSetL:=by
 intro pins s σ H o i v D B u Q I z x A h;obtain⟨p,xs,k,j,rfl,rfl,f,y,q⟩:=h;cases z;obtain⟨t,rfl⟩:=x;obtain⟨a,n,r,d,hz⟩:=I.lst f;obtain⟨b,E,w,l⟩:=jT y;have e:=r.length;have C:=U7;have g:Inv X pins σ (upd H p (.lst (xs.set j v))) { s with heap:=s.heap.update p (Obj.mapSeq (·.setIfInBounds j u)) }:=
  I.lstUpd f d (gm a n j u) (r.set A j) (by rw[List.length_set];exact hz) s.toks
 by_cases m:0<=k
 ·have c:k.toNat=j:=by
   rw[seqIndex_of m l]at b;exact HH b
  exact PySem.W.ki_setAt d m (by omega) (by rw[Hg,<- e];exact l) (by rw[c];exact⟨_,g,q⟩)
 ·have c:(k+(a.toArray.size:Int)).toNat=j:=by
   rw[seqIndex_neg (by omega) w]at b;rw[Hg,<- e];exact HH b
  exact PySem.W.ki_setBack d (by omega) (by rw[Hg,<- e];exact w) (by omega) (by rw[c];exact⟨_,g,q⟩)
theorem dh(lo hi:Option Int)(n:Nat):(sliceBounds lo hi none n).1=((HT.sIx n 0 lo:Nat):Int)/\(sliceBounds lo hi none n).2.1=((HT.sIx n n hi:Nat):Int)/\(sliceBounds lo hi none n).2.2=1:=by
 refine⟨?_,?_,rfl⟩
 ·cases lo with
  | none=>simp[sliceBounds,HT.sIx]
  | some i=>
   simp only[sliceBounds,HT.sIx,Option.getD_none,show(1:Int) > 0 by decide,LQ];by_cases h:i<0
   ·simp only[h,LQ] <;> omega
   ·simp only[h,Kk] <;> omega
 ·cases hi with
  | none=>simp[sliceBounds,HT.sIx]
  | some i=>
   simp only[sliceBounds,HT.sIx,Option.getD_none,show(1:Int) > 0 by decide,LQ];by_cases h:i<0
   ·simp only[h,LQ] <;> omega
   ·simp only[h,Kk] <;> omega
theorem bV(a:List Value)(lo b:Option Int):slicePick a.toArray lo b none=((a.drop (HT.sIx a.length 0 lo)).take (HT.sIx a.length a.length b-HT.sIx a.length 0 lo)).toArray:=by
 obtain⟨c,d,e⟩:=dh lo b a.toArray.size;unfold slicePick;rw[c,d,e];simp only[sliceRange_one,pick_run,Hg] <;> rfl
def GS(K:PySem.W.Frag):V->Option Int->Option Int->Hp->VK->Prop:=λx lo b H Q=>∃a xs,x=.ref a/\SqL K H a xs/\∀p,H p=none->Q (.ref p) (upd H p (.lst (mQ xs lo b)))
theorem vk:SlR X (GS X.K):=by
 intro pins s σ H x v k l lo d m Q I j hs pl g h;obtain⟨a,xs,rfl,f,q⟩:=h;cases j;obtain⟨i,r,e,hz⟩:=I.list f;have c:=r.length;refine⟨"list",_,slot_list_getitem.lookup,e.isList.typeIs,?_⟩;refine La e.isList hs pl g .none (by simp) ?_ (by rw[Hg] <;> omega);rw[bV,<- c];refine⟨.ref s.heap.objs.size,_,I.laid (λb ob q=>Ha _ q) (Hd _) ?_,rfl,q _ (I.hok.fresh (Hd _))⟩;exact⟨HJ (W2 xs lo d) hz,_,0,(r.drop (HT.sIx xs.length 0 lo)).take (HT.sIx xs.length xs.length d-HT.sIx xs.length 0 lo),Hr _ rfl⟩
theorem df:p0 X (.builtin "len") (λxs H Q=>∃p ys,xs=[.ref p]/\(SqL X.K H p ys\/SqT X.K H p ys)/\Q (.int ys.length) H):=by
 intro pins s σ H xs us Q I r h;obtain⟨p,ys,rfl,b,q⟩:=h;obtain⟨u,rfl,e⟩:=aM r;cases e;have f:=U7;rcases b with b | b
 ·obtain⟨d,c,pl,hz⟩:=I.list b;have a:=c.length;exact Calls.call_len_list pl.isList (by simp <;> omega) ⟨.int ys.length,H,I.tok _,⟨s.toks+1,by rw[Hg,a]⟩,q⟩
 ·obtain⟨d,c,pl,hz⟩:=I.tuple b;have a:=c.length;exact len_tuple pl (by simp <;> omega) ⟨.int ys.length,H,I.tok _,⟨s.toks+1,by rw[Hg,a]⟩,q⟩
theorem dA:p0 X (.builtin "len") (λxs H Q=>∃z,xs=[.str z]/\z.length<=sizeLine/\Q (.int z.length) H):=by
 intro pins s σ H xs us Q I r h;obtain⟨z,rfl,hz,q⟩:=h;obtain⟨u,rfl,t,rfl⟩:=aM r;have hn:=U7;exact len_str (by omega) ⟨.int z.length,H,I.tok _,⟨_,rfl⟩,q⟩
theorem N1:p0 X (.type "tuple") (λxs H Q=>∃p ys,xs=[.ref p]/\((SqL X.K H p ys/\∀l,H l=none->Q (.ref l) (upd H l (.tup ys)))\/(SqT X.K H p ys/\Q (.ref p) H))):=by
 intro pins s σ H xs us Q I r h;obtain⟨p,ys,rfl,h⟩:=h;obtain⟨u,rfl,k⟩:=aM r;cases k;rcases h with ⟨c,q⟩ | ⟨c,q⟩
 ·obtain⟨a,d,pl,hz⟩:=I.list c;have f:=d.length;refine call_tuple_list pl.isList (λh' i=>?_) (by simp <;> omega);have g:=I.kept (t':=s.toks) i;have j:Inv X pins σ (upd H h'.objs.size (.tup ys)) { s with heap:=h'.push { cls:=.type "tuple",data:=.seq a.toArray } }:=
   g.laid (λb o e=>Ha _ e) (Hd _) (⟨hz,a,d,TupN.new _ _⟩)
  exact⟨.ref h'.objs.size,_,j,rfl,q _ (g.hok.fresh (Hd _))⟩
 ·obtain⟨a,d,pl,hz⟩:=I.tuple c;exact call_tuple_same pl ⟨.ref p,H,I,rfl,q⟩
def tyV(K:PySem.W.Frag)(T:String)(x:V)(H:Hp):Prop:=match x with
 | .str _=>T = "str"
 | .int _=>T = "int"
 | .ref p=>(T = "list"/\∃xs,SqL K H p xs)\/(T = "tuple"/\∃o,K.lookup p=some o/\o.cls=.type "tuple"/\o.dict=none) \/
   (T = "dict"/\((∃a,H p=some (.dK a))\/∃a,H p=some (.dT a)))\/(T = "set"/\∃S n,H p=some (.set S n))\/(T = "tuple"/\∃xs,Rd H p (.tup xs))
 | _=>False
theorem rV{σ:St}{H:Hp}{s:Shared}{T:String}{x:V}{v:Value}(I:Inv X pins σ H s)(r:RelV x v)(ty:tyV X.K T x H) :
  s.TypeIs v T/\∀a,v=.ref a->∃ob,s.heap.get? a=some ob/\ob.dict=none:=by
 cases x with
 | str z=>
  obtain⟨t,rfl⟩:=r;cases (ty);exact⟨typeIs_str s z t,λ_ e=>nomatch e⟩
 | int i=>
  obtain⟨t,rfl⟩:=r;cases (ty);exact⟨Kv s i t,λ_ e=>nomatch e⟩
 | ref p=>
  cases r;rcases ty with ⟨rfl,xs,hq⟩ | ⟨rfl,o,hk,hc,hd⟩ | ⟨rfl,hk⟩ | ⟨rfl,S,n,hk⟩ | ⟨rfl,xs,hk⟩
  ·obtain⟨its,_,pl,_⟩:=I.list hq;refine⟨pl.isList.typeIs,λa e=>?_⟩;cases e;obtain⟨o,n,e,c,hd,_⟩:=pl;exact⟨o,e,hd⟩
  ·refine⟨⟨o,I.kIn p o hk,hc⟩,λa e=>?_⟩;cases e;exact⟨o,I.kIn _ o hk,hd⟩
  ·have z:∃o,s.heap.get? p=some o/\o.ExactDict:=by
    rcases hk with ⟨kvs,hk⟩ | ⟨kvs,hk⟩
    ·obtain⟨_,_,_,_,o,_,_,e,ex,_⟩:=I.hok p _ hk;exact⟨o,e,ex⟩
    ·obtain⟨_,_,_,_,o,_,_,e,ex,_⟩:=I.hok p _ hk;exact⟨o,e,ex⟩
   obtain⟨o,e,ex⟩:=z;refine⟨⟨o,e,ex.1⟩,λa e2=>?_⟩;cases e2;exact⟨o,e,ex.2.1⟩
  ·obtain⟨o,_,_,_,e,ex,_⟩:=I.hok p _ hk;refine⟨⟨o,e,ex.1⟩,λa e2=>?_⟩;cases e2;exact⟨o,e,ex.2.1⟩
  ·obtain⟨_,its,_,o,e,c,n,_,hd⟩:=(hk.ok I.hok);exact⟨⟨o,e,c⟩,λa e2=>by cases e2;exact⟨o,e,hd⟩⟩
 | _=>exact False.elim ty
def FS(K:PySem.W.Frag)(T:String)(r:V->List V->Hp->VK->Prop)(b:TE):TE:=λσ H Q=>b σ H λx a=>tyV K T x a/\r x [] a Q
def tBM(K:PySem.W.Frag)(T:String)(r:V->List V->Hp->VK->Prop)(c:TE)(t:TA):TE:=λσ H Q=>c σ H λx a=>tyV K T x a/\t σ a λxs b=>r x xs b Q
variable {o e:Expr}{es:List Expr}{to:TE}{t:TA}{name:Str}{apos cpos:Pos}{T id:String}{r:V->List V->Hp->VK->Prop}
theorem zU(j:PlainAttrs T)(c:Slot T name id)(d:typeOf (.builtin id)=pure (.type "method_descriptor")) (n:MtR X id r) (i:PE X o to)
  (b:attributeBase o name X.env (eval o X.env)=eval o X.env:=by rfl) (a:(apos.endLine==cpos.line)=true:=by rfl):PE X (.Call (.Attribute o name apos) [] [] cpos) (FS X.K T r to):=by
 intro pins s σ H Q I h;refine wpAny_Call_method0_late b a (thn (i pins s σ H _ I h) λv p ⟨x,l,e,f,g,q⟩=>?_);obtain⟨k,m⟩:=rV e f g;exact⟨T,id,j,c,d,k,m,Kl rfl (PySem.evalArgs_none (n pins p σ l x [] v [] Q e f .nil q))⟩
theorem yE(l:PlainAttrs T)(d:Slot T name id)(g:typeOf (.builtin id)=pure (.type "method_descriptor")) (z:MtR X id r) (C:PE X o to) (B:PA X (e::es) t)
  (c:attributeBase o name X.env (eval o X.env)=eval o X.env:=by rfl)
  (f:((backTo cpos (starEach (e::es) X.env)).all (λx=>!x.1)&&(backToKw cpos (keywordEach [] X.env)).all (λx=>x.1.isSome)
   && decide ((e::es).length+([]:List Keyword).length+(if ([]:List Keyword).isEmpty then 0 else 1)<30))=true:=by rfl)
  (b:(apos.endLine==cpos.line)=true:=by rfl) (hs:starEach (e::es) X.env=(false,eval e X.env)::starEach es X.env:=by rfl) (a:(backTo cpos (starEach es X.env)).any (·.1)=false:=by rfl) :
  PE X (.Call (.Attribute o name apos) (e::es) [] cpos) (tBM X.K T r to t):=by
 intro pins s σ H Q I h;refine wpAny_Call_method_late c f b rfl (thn (C pins s σ H _ I h) λv p ⟨x,w,j,k,q,A⟩=>?_);obtain⟨m,y⟩:=rV j k q;refine⟨T,id,l,d,g,m,y,?_⟩;have i:=B cpos pins p σ w _ j A;rw[hs]at i ⊢;refine Kl (by show(false||(backTo cpos (starEach es X.env)).any (·.1))=false;rw[a] <;> rfl) (Calls.evalArgs_plain ?_);exact thn i λus E ⟨vs,F,D,u,n⟩=>z pins E σ F x vs v us Q D k u n
end
def MtM(X:Cx)(id:String)(r:V->List V->Hp->VK->Prop):Prop:=
 ∀(pins:List (Addr×Obj)) (s:Shared) (σ:St) (H:Hp) (x:V) (xs:List V) (v:Value) (us:List Value) (Q:VK),Inv X pins σ H s->RelV x v->Vals xs us->r x xs H Q ->
  wpAny (model X.prog X.w) X.A (call (.builtin id) (v::us)) (EP X pins σ Q) X.xe s
theorem Vals.one:∀{x:V}{us:List Value},Vals [x] us->∃u,us=[u]/\RelV x u
 | _,_,.cons r .nil=>⟨_,rfl,r⟩
theorem Vals.zero:∀{us:List Value},Vals [] us->us=[]
 | _,.nil=>rfl
theorem Vals.dropLast(h:Vals xs us):Vals xs.dropLast us.dropLast:=by
 induction h with
 | nil=>exact .nil
 | cons r t a=>
  cases t with
  | nil=>exact .nil
  | cons q t'=>exact .cons r a
theorem Vals.rep(h:Vals xs us):∀k:Nat,Vals (List.replicate k xs).flatten (List.replicate k us).flatten
 | 0=>.nil
 | k+1=>by
  rw[IH,IH,Jl,Jl];exact Vals.append h (Vals.rep h k)
theorem hQ{α:Type}(l:List α):l.eraseIdx (l.length-1)=l.dropLast:=by
 induction l with
 | nil=>rfl
 | cons a r ih=>
  cases r with
  | nil=>rfl
  | cons b r=>
   have e:(a::b::r).length-1=((b::r).length-1)+1:=by
    have h1:(a::b::r).length=r.length+2:=rfl;have h2:(b::r).length=r.length+1:=rfl;omega
   rw[e,List.eraseIdx_cons_succ,ih]
   all_goals rfl
theorem V6(b:List Value):∀(k:Nat)(a:List Value),
  List.foldl (λf c=>f++c) a.toArray (List.replicate k b.toArray)=(a++(List.replicate k b).flatten).toArray
 | 0,a=>by simp
 | k+1,a=>by
  have e:a.toArray++b.toArray=(a++b).toArray:=by simp
  have d:(a++b)++(List.replicate k b).flatten=a++(List.replicate (k+1) b).flatten:=by
   rw[IH,Jl,JD]
  rw[<- d,<- V6 b k (a++b),<- e,IH,List.foldl_cons]
section
variable {X:Cx}{pins:List (Addr×Obj)}{σ:St}{H:Hp}{s:Shared}{l b:Addr}{xs ys zs:List V}
theorem Inv.lset{a its':List Value}{n:Nat}{f:Array Value->Array Value}{t':Nat}(I:Inv X pins σ H s)(c:H l=some (.lst xs))
  (e:s.heap.get? l=some { cls:=.type "list",data:=.seq a.toArray n }) (b:f a.toArray=its'.toArray) (g:Vals ys its') (hz:ys.length<=sizeLine) :
  Inv X pins σ (upd H l (.lst ys)) { s with heap:=s.heap.update l (Obj.mapSeq f),toks:=t' }:=by
 have q:=PySem.IsL.update e f;rw[b]at q;refine I.write (by rw[c];exact trivial) (.inl rfl) (λi u d h=>(Jz s.heap (Obj.mapSeq f) (Ne.symm d)).trans h) ⟨_,q⟩ ?_;exact⟨hz,its',_,g,q⟩
theorem Inv.lnew(I:Inv X pins σ H s)(a:Vals ys its)(hz:ys.length<=sizeLine) :
  Inv X pins σ (upd H s.heap.objs.size (.lst ys)) { s with heap:=s.heap.push { cls:=.type "list",data:=.seq its.toArray },toks:=t' }:=
 I.laid (λ_ _ q=>Ha _ q) (Hd _) ⟨hz,its,0,a,Hr _ rfl⟩
theorem Inv.fresh(I:Inv X pins σ H s):H s.heap.objs.size=none:=I.hok.fresh (Hd _)
theorem Inv.lstM(I:Inv X pins σ H s)(b:H l=some (.lst xs)):xs.length<=sizeLine/\∃(a:List Value) (n:Nat),Vals xs a/\xs.length=a.length/\s.heap.get? l=some { cls:=.type "list",data:=.seq a.toArray n }:=by
 obtain⟨z,a,n,r,e⟩:=I.hok l _ b;exact⟨z,a,n,r,r.length,e⟩
theorem eD(h:n<=sizeLine):Builtin.List.listTooLong n=false:=by
 unfold Builtin.List.listTooLong;exact Hs (by omega)
end
section
variable {X:Cx}
def rAppend:V->List V->Hp->VK->Prop:=λx vs H Q=>∃l xs y,x=.ref l/\vs=[y]/\H l=some (.lst xs)/\xs.length<sizeLine/\Q .non (upd H l (.lst (xs++[y])))
theorem V3:MtM X "list.append" rAppend:=by
 intro pins s σ H x vs v us Q I rx rv h;obtain⟨l,xs,y,rfl,rfl,hH,hz,q⟩:=h;cases rx;obtain⟨u,rfl,ru⟩:=rv.one;obtain⟨z,its,n,r,hl,e⟩:=I.lstM hH;refine Kc F.slot_list_append ⟨_,e,rfl⟩ F.entry_list_append (F.args_list_append_2 _ _) (PySem.list_append l its.toArray n u (by rw[Hg];omega)) ⟨e,?_⟩;refine⟨.non,_,I.lset hH e (by simp) (r.append (.cons ru .nil)) ?_,rfl,q⟩;rw[Hu,Ia];omega
def rPop:V->List V->Hp->VK->Prop:=λx vs H Q=>∃l xs y,x=.ref l/\vs=[]/\H l=some (.lst xs)/\xs[xs.length-1]?=some y/\Q y (upd H l (.lst xs.dropLast))
theorem AC:MtM X "list.pop" rPop:=by
 intro pins s σ H x vs v us Q I rx rv h;obtain⟨l,xs,y,rfl,rfl,hH,hy,q⟩:=h;cases rx;have hus:=rv.zero;subst hus;obtain⟨z,its,n,r,hl,e⟩:=I.lstM hH;obtain⟨u,hu,ru⟩:=r.get hy;have hy':its.toArray[its.toArray.size-1]?=some u:=by
  show its.toArray[its.length-1]?=some u;rw[<- Kt,<- hl];exact hu
 refine Kc F.slot_list_pop ⟨_,e,rfl⟩ F.entry_list_pop (F.args_list_pop_1 _) (MeetsSeq.list_pop_last l its.toArray n u hy' (by rw[Hg];omega)) ⟨e,?_⟩;refine⟨y,_,I.lset (its':=its.dropLast) hH e ?_ r.dropLast ?_,ru,q⟩
 ·show its.toArray.eraseIdxIfInBounds (its.toArray.size-1)=its.dropLast.toArray;rw[Hg,List.eraseIdxIfInBounds_toArray,hQ]
 ·rw[List.length_dropLast];omega
def rCat:R2:=λx y H Q=>∃l b xs a,x=.ref l/\y=.ref b/\H l=some (.lst xs)/\H b=some (.lst a)/\xs.length+a.length<=sizeLine/\∀p,H p=none->Q (.ref p) (upd H p (.lst (xs++a)))
theorem zR:OpR X (binaryOp .Add) rCat:=by
 intro pins s σ H x y v u Q I m k h;obtain⟨l,b,xs,A,rfl,rfl,o,g,hz,q⟩:=h;cases m;cases k;obtain⟨z,c,n,r,t,e⟩:=I.lstM o;obtain⟨p,a,w,f,j,i⟩:=I.lstM g;refine PySem.P.add_list e i ?_ (by rw[Hg,Hg];omega);have d:c.toArray++a.toArray=(c++a).toArray:=by simp
 rw[d];exact⟨.ref _,_,I.lnew (r.append f) (by rw[Hu];omega),rfl,q _ I.fresh⟩
def rRep:R2:=λx y H Q=>∃l k xs,x=.ref l/\y=.int k/\H l=some (.lst xs)/\-(2 ^ 63)<=k/\k<2 ^ 63/\xs.length * k.toNat<=sizeLine /\
 ∀p,H p=none->Q (.ref p) (upd H p (.lst (List.replicate k.toNat xs).flatten))
theorem jR{α:Type}(xs:List α)(k:Nat):(List.replicate k xs).flatten.length=k * xs.length:=by
 induction k with
 | zero=>simp
 | succ k ih=>rw[IH,Jl,Hu,ih,Nat.succ_mul,Nat.add_comm]
theorem yN:OpR X (binaryOp .Mult) rRep:=by
 intro pins s σ H x y v u Q I rx ry h;obtain⟨l,k,xs,rfl,rfl,hH,h1,h2,hz,q⟩:=h;cases rx;obtain⟨t,rfl⟩:=ry;obtain⟨z,its,n,r,hl,e⟩:=I.lstM hH;have hlen:its.toArray.size * k.toNat<=sizeLine:=by rw[Hg,<- hl];exact hz
 have hcap:¬ its.toArray.size * k.toNat > (2 ^ 63-1) / 8:=by
  have:(sizeLine:Nat)<=(2 ^ 63-1) / 8:=by decide
  omega
 have hfit:¬ (!Builtin.List.listFitsIndex k)=true:=by
  rw[fitsIndex_both h1 h2];exact He
 have hlong:¬ Builtin.List.listTooLong (its.toArray.size * k.toNat)=true:=by
  rw[eD hlen];exact He
 have hnew:List.foldl (λx1 x2=>x1++x2) #[] (List.replicate (if its.toArray.isEmpty=true then 0 else k.toNat) its.toArray)=(List.replicate k.toNat its).flatten.toArray:=by
  have f0:=λm=>by
   have:=V6 its m [];rw[JY]at this;exact this
  rw[f0];cases its with
  | nil=>simp
  | cons a r'=>rw[if_neg (by simp)]
 refine JL (by decide) ⟨_,e,rfl⟩ (λs'=>Kv s' k t) noFill_list_mul F.fills_int_mul F.slot_int_rmul repeat_list F.slot_int_index.lookup
  (Kc F.slot_int_rmul (Kv s k t) F.entry_int_rmul (F.args_int_rmul_2 _ _) (int___rmul___int_list k t l its.toArray n)
   ⟨e,rfl,⟨_,e,rfl⟩,Kc F.slot_list_mul ⟨_,e,rfl⟩ F.entry_list_mul (F.args_list_mul_2 _ _) (AutoListH.list___mul___list_int_3 l its.toArray n k t hfit hcap hlong) ⟨e,?_⟩⟩)
 rw[hnew];exact⟨.ref _,_,I.lnew (r.rep k.toNat) (by rw[jR,Nat.mul_comm];exact hz),rfl,q _ I.fresh⟩
end
section
variable {κ:Type}[DecidableEq κ]
def M2(a:List (κ×V))(k:κ):Option V:=(a.find? λb=>decide (b.1=k)).map (·.2)
def w5(a:List (κ×V))(k:κ)(v:V):List (κ×V):=
 if (a.any λb=>decide (b.1=k))=true then a.map (λb=>if b.1=k then (b.1,v)else b)else a++[(k,v)]
theorem P9{k:κ}(e:p.1=k):M2 (p::r) k=some p.2:=by simp[M2,Ik,e]
theorem P2{k:κ}(e:¬ p.1=k):M2 (p::r) k=M2 r k:=by simp[M2,Ik,e]
theorem eG(k:κ):∀a:List (κ×V),(a.any λb=>decide (b.1=k))=(M2 a k).isSome
 | []=>rfl
 | p::r=>by
  rw[IW];by_cases e:p.1=k
  ·simp only[P9 e,Hv e,Bool.true_or,Option.isSome_some]
  ·rw[P2 e,Hs e,Bool.false_or];exact eG k r
theorem L1(kvs:List (κ×V))(k:κ)(v:V):(w5 kvs k v).length<=kvs.length+1:=by
 unfold w5;split
 ·rw[Hc];omega
 ·rw[Hu,Ic,LB];omega
theorem RelO.isSome_eq(r:RelO o u):o.isSome=u.isSome:=by
 cases o with
 | none=>cases u with
  | none=>rfl
  | some _=>exact(r).elim
 | some _=>cases u with
  | none=>exact(r).elim
  | some _=>rfl
theorem RelO.getD(r:RelO o u)(a:RelV d d'):RelV (o.getD d) (u.getD d'):=by
 cases o with
 | none=>cases u with
  | none=>exact a
  | some _=>exact(r).elim
 | some _=>cases u with
  | none=>exact(r).elim
  | some _=>exact r
theorem KV.val(r:KV kvs vs)(k:κ):RelO (M2 kvs k) (valueAt vs k):=by
 induction r with
 | nil=>exact True.intro
 | @cons p q ps a h t g=>
  obtain⟨d,f⟩:=h;by_cases e:p.1=k
  ·have c:=d.symm.trans e;have b:valueAt (q::a) k=some q.2:=by simp[valueAt,Ik,c]
   rw[P9 e,b];exact f
  ·have c:¬ q.1=k:=λz=>e (d.trans z);have b:valueAt (q::a) k=valueAt a k:=by simp[valueAt,Ik,c]
   rw[P2 e,b];exact g
theorem KV.any{kvs:List (κ×V)}{vs:List (κ×Value)}(r:KV kvs vs)(k:κ):(kvs.any λkv=>decide (kv.1=k))=vs.any λkv=>decide (kv.1=k):=by
 unfold KV at r;induction r with
 | nil=>rfl
 | cons h t ih=>rw[IW,IW,ih,h.1]
theorem KV.repl(r:KV kvs vs)(k:κ){y:V}{u:Value}(ry:RelV y u) :
  KV (kvs.map λkv=>if kv.1=k then (kv.1,y)else kv) (vs.map λkv=>if kv.1=k then (kv.1,u)else kv):=by
 induction r with
 | nil=>exact .nil
 | @cons p q ps qs h t ih=>
  rw[Ht,Ht];refine .cons ?_ ih;obtain⟨h1,h2⟩:=h;by_cases e:p.1=k
  ·rw[if_pos e,if_pos (h1.symm.trans e)];exact⟨h1,ry⟩
  ·rw[if_neg e,if_neg (λz=>e (h1.trans z))];exact⟨h1,h2⟩
theorem KV.put(r:KV kvs vs)(k:κ){y:V}{u:Value}(a:RelV y u):KV (w5 kvs k y) (stored vs k u):=by
 unfold w5 stored;rw[r.any k];by_cases e:(vs.any λb=>decide (b.1=k))=true
 ·rw[if_pos e,if_pos e];exact r.repl k a
 ·rw[if_neg e,if_neg e];exact Paired.snoc r ⟨rfl,a⟩
theorem KV.length{vs:List (κ×Value)}(r:KV kvs vs):kvs.length=vs.length:=Paired.length r
end
theorem cT{k:Key}{u:Value}(r:RelV (kV k) u):(i9 P w).is k u=true:=by
 cases k with
 | inl i=>obtain⟨t,e⟩:=(r);subst e;exact gH P w i t
 | inr x=>obtain⟨t,e⟩:=(r);subst e;exact eU P w x t
theorem cR:∀{a:List Key}{us:List Value},Vals (a.map kV) us->ItemsAre (i9 P w) a us
 | [],_,r=>by rw[List.map_nil]at r;cases r;exact .nil
 | k::a,_,r=>by
  rw[Ht]at r;cases r with
  | cons h t=>exact .cons (cT h) (cR t)
abbrev KT(H:Hp):List (List Key×V)->List (List Key×Addr×Value)->Prop:=Paired λp q=>p.1=q.1/\H q.2.1=some (.tup (p.1.map kV))/\RelV p.2 q.2.2
theorem KT.val(r:KT H kvs xs)(k:List Key):RelO (M2 kvs k) ((atKey xs k).map (·.2)):=by
 induction r with
 | nil=>exact True.intro
 | @cons p q ps a h t g=>
  obtain⟨d,_,f⟩:=h;by_cases e:p.1=k
  ·have c:=d.symm.trans e;have b:atKey (q::a) k=some q.2:=by simp[atKey,Ik,c]
   rw[P9 e,b];exact f
  ·have c:¬ q.1=k:=λz=>e (d.trans z);have b:atKey (q::a) k=atKey a k:=by simp[atKey,Ik,c]
   rw[P2 e,b];exact g
theorem KT.repl{H:Hp}{kvs:List (List Key×V)}{xs:List (List Key×Addr×Value)}(r:KT H kvs xs)(k:List Key){y:V}{u:Value}(ry:RelV y u) :
  KT H (kvs.map λkv=>if kv.1=k then (kv.1,y)else kv) (xs.map (putAt k u)):=by
 induction r with
 | nil=>exact .nil
 | @cons p q ps qs h t ih=>
  rw[Ht,Ht];refine .cons ?_ ih;obtain⟨h1,h2,h3⟩:=h;unfold putAt;by_cases e:p.1=k
  ·rw[if_pos e,if_pos (h1.symm.trans e)];exact⟨h1,h2,ry⟩
  ·rw[if_neg e,if_neg (λz=>e (h1.trans z))];exact⟨h1,h2,h3⟩
theorem KT.put(r:KT H kvs xs)(k:List Key){b:Addr}{y:V}{u:Value}(c:H b=some (.tup (k.map kV)))(a:RelV y u) :
  KT H (w5 kvs k y) (storedH xs k b u):=by
 have e:(kvs.any λd=>decide (d.1=k))=(atKey xs k).isSome:=by
  rw[eG,(r.val k).isSome_eq,Option.isSome_map]
 unfold w5 storedH;rw[e];by_cases q:(atKey xs k).isSome=true
 ·rw[if_pos q,if_pos q];exact r.repl k a
 ·rw[if_neg q,if_neg q];exact Paired.snoc r ⟨rfl,c,a⟩
theorem KT.keeps{a:List (List Key×V)}{xs:List (List Key×Addr×Value)}(r:KT H a xs)(c:∀b ys,H b=some (.tup ys)->H' b=some (.tup ys)):KT H' a xs:=
 Paired.mapP r λ_ _ z=>⟨z.1,c _ _ z.2.1,z.2.2⟩
section
variable {P:Program}{w:World}{H:Hp}{h:Heap}{a:Addr}
theorem yG(b:HOk P w H h)(e:Rd H a u):ObjOk P w H h a u:=e.ok b
theorem bm(b:HOk P w H h)(e:Rd H a (.dK kvs)):kvs.length<=sizeLine/\(a==sysModules)=false/\∃vs,KV kvs vs/\h.DictOf (i9 P w) a vs:=
 yG b e
theorem xl(b:HOk P w H h)(e:H a=some (.dK kvs)):kvs.length<=sizeLine/\(a==sysModules)=false/\∃vs,KV kvs vs/\h.DictOf (i9 P w) a vs:=bm b (.inl e)
theorem bN(g:HOk P w H h)(e:H a=some (.tup (ks.map kV))):(tupleKind (i9 P w)).is h ks a:=by
 obtain⟨_,b,r,o,c,d,n,f⟩:=(g a _ e);exact⟨o,b.toArray,n,c,d,f.1,by simpa using cR r⟩
theorem gC(ok:HOk P w H h)(e:Rd H a (.dT kvs)):kvs.length<=sizeLine/\(a==sysModules)=false /\
  ∃xs,KT H kvs xs/\h.DictOfH (tupleKind (i9 P w)) a xs:=by
 obtain⟨z,y,xs,r,o,es,ep,h1,h2,h3,h4,h5⟩:=(yG ok e);refine⟨z,y,xs,r,o,es,ep,h1,h2,h3,h4,λx hx=>?_,h5⟩;have all:∀{l:List (List Key×V)} {m:List (List Key×Addr×Value)},KT H l m->∀x∈m,(tupleKind (i9 P w)).is h x.1 x.2.1:=by
  intro l m q;induction q with
  | nil=>intro x hx;exact nomatch hx
  | @cons p q ps qs hq t ih=>
   intro x hx;rcases Ho.mp hx with e | hx
   ·subst e;exact bN ok (by rw[<- hq.1];exact hq.2.1)
   ·exact ih x hx
 exact all r x hx
theorem EW(b:HOk P w H h)(e:H a=some (.dT kvs)):kvs.length<=sizeLine/\(a==sysModules)=false /\
  ∃xs,KT H kvs xs/\h.DictOfH (tupleKind (i9 P w)) a xs:=gC b (.inl e)
end
def DGet(H:Hp)(a:Addr)(y:V)(r:Option V):Prop:=
 (∃c k,Rd H a (.dK c)/\y=kV k/\r=M2 c k)\/∃c k b,Rd H a (.dT c)/\y=.ref b/\H b=some (.tup (k.map kV))/\r=M2 c k
def DPut(H:Hp)(a:Addr)(y v:V)(H':Hp):Prop:=
 (∃c k,H a=some (.dK c)/\y=kV k/\c.length<sizeLine/\H'=upd H a (.dK (w5 c k v))) \/
 ∃c k b,H a=some (.dT c)/\y=.ref b/\H b=some (.tup (k.map kV))/\c.length<sizeLine/\H'=upd H a (.dT (w5 c k v))
theorem DGet.k{k:Key}(e:H a=some (.dK kvs)):DGet H a (kV k) (M2 kvs k):=.inl ⟨kvs,k,.inl e,rfl,rfl⟩
theorem DPut.k{k:Key}{v:V}(e:H a=some (.dK kvs))(b:kvs.length<sizeLine):DPut H a (kV k) v (upd H a (.dK (w5 kvs k v))):=.inl ⟨kvs,k,e,rfl,b,rfl⟩
section
variable {X:Cx}{pins:List (Addr×Obj)}{σ:St}{H:Hp}{s:Shared}{a:Addr}{y v:V}{u r:Value}{o:Option V}{A:Around}{E:Value->Shared->Prop}
theorem Inv.big(I:Inv X pins σ H s):sysModules<s.heap.objs.size:=by
 have h:=(I.mod.glob.keeps I.bk).lt;exact Nat.lt_trans (by decide) h
theorem mP(t:A.units+1<cLine)(I:Inv X pins σ H s)(g:DGet H a y (some v))(o:RelV y u)(h:∀w' s',Inv X pins σ H s'->RelV v w'->Q w' s') :
  wpAny (model X.prog X.w) A (getItem (.ref a) u) Q E s:=by
 rcases g with ⟨n,k,e,i,l⟩ | ⟨n,k,b,e,i,q,l⟩
 ·subst i;obtain⟨z,hd,vs,d,f⟩:=bm I.hok e;obtain⟨w',m,c⟩:=RelO.some_of (by rw[l];exact d.val k);exact wpAny_getItem_of (cT o) f.mapOf m (h w' _ (I.tok _) c)
 ·subst i;cases (o);obtain⟨z,hd,xs,d,f⟩:=gC I.hok e;obtain⟨w',m,c⟩:=RelO.some_of (by rw[l];exact d.val k);obtain⟨p,r,j⟩:=Iv.mp m;refine wpAny_getItem_heap (Kd t) (bN I.hok q) f r ?_;rw[j];exact h w' _ (I.tok _) c
theorem Z3{ob:HO}(I:Inv X pins σ H s)(e:Mut (H a))(hs:Heap.SameBut a s.heap h')(d:∃q,h'.get? a=some q)(c:ObjOk X.prog X.w (upd H a ob) h' a ob) :
  Inv X pins σ (upd H a ob) { s with heap:=h',toks:=t' }:=
 I.write e (.inl rfl) (λb q f z=>(hs.2 b f).trans z) d c
theorem pF{b:List (Key×V)}{vs:List (Key×Value)}(z:b.length<=sizeLine)(hd:(a==sysModules)=false)(c:KV b vs)(d:h'.DictOf (i9 P w) a vs) :
  ObjOk P w H' h' a (.dK b):=⟨z,hd,vs,c,d⟩
theorem mT(L:A.units+1<cLine)(I:Inv X pins σ H s)(g:DPut H a y v H')(w:RelV y u)(B:RelV v r)(h:∀s',Inv X pins σ H' s'->Q () s') :
  wpAny (model X.prog X.w) A (setItem (.ref a) u r) Q E s:=by
 rcases g with ⟨d,k,e,p,l,n⟩ | ⟨d,k,b,e,p,t,l,n⟩
 ·subst p n;obtain⟨z,hd,vs,f,o⟩:=xl I.hok e;have hz:vs.length<=sizeLine:=by rw[<- f.length];exact z
  have m:(w5 d k v).length<=sizeLine:=by have:=L1 d k v;omega
  refine wpAny_setItem_pairs (cT w) o λh' i hs=>h _ ?_;have D:∃q,h'.get? a=some q:=let ⟨q,_,_,j,_⟩:=i;⟨q,j⟩
  exact Z3 I (by rw[e];exact True.intro) hs D (pF m hd (f.put k B) i)
 ·subst p n;cases (w);obtain⟨z,hd,xs,f,o⟩:=EW I.hok e;have hz:xs.length<=sizeLine:=by rw[<- Paired.length f];exact z
  have m:(w5 d k v).length<=sizeLine:=by have:=L1 d k v;omega
  refine wpAny_setItem_heap (Kd L) (bN I.hok t) o λh' i hs=>h _ ?_;obtain⟨q,es,F,j,J,K,C,_,G⟩:=i;refine Z3 I (by rw[e];exact True.intro) hs ⟨q,j⟩ ⟨m,hd,_,(f.put k t B).keeps λc ys x=>?_,q,es,F,j,J,K,C,G⟩;rw[a9 (kY x e (λz=>nomatch z))];exact x
end
section
variable {X:Cx}{pins:List (Addr×Obj)}{σ:St}{H:Hp}{s:Shared}{a:Addr}{kvs:List (Key×V)}{k:Key}{u:Value}{A:Around}{E:Value->Shared->Prop}
theorem FM(I:Inv X pins σ H s)(e:Rd H a (.dK kvs))(h:∀t s',Inv X pins σ H s'->Q (.int kvs.length t) s'):wpAny (model X.prog X.w) A (call (.builtin "len") [.ref a]) Q E s:=by
 obtain⟨z,hd,vs,b,c⟩:=bm I.hok e;refine call_len_dict hd c (by rw[<- b.length];rw[HB]at z;omega) ?_;rw[<- b.length];exact h _ _ (I.tok _)
end
theorem ek{σ:St}{H:Hp}{s:Shared}{a:Addr}{y:V}{o:Option V}(I:Inv X pins σ H s)(g:DGet H a y o):s.TypeIs (.ref a) "dict":=by
 rcases g with ⟨d,k,e,_,_⟩ | ⟨d,k,b,e,_,_,_⟩
 ·obtain⟨_,_,vs,_,c⟩:=bm I.hok e;exact c.typeIs
 ·obtain⟨_,_,xs,_,c⟩:=gC I.hok e;exact c.typeIs
theorem rl(h:Heap)(a:sysModules<h.objs.size):ObjOk P w H (h.push { cls:=.type "dict",data:=.dict #[] }) h.objs.size (.dK []):=
 ⟨HY _,Im.mpr (Ne.symm (Hq a)),[],.nil,Heap.DictOf.new h⟩
def dI:List (TE×TE)->St->Hp->(List (V×V)->Hp->Prop)->Prop
 | [],_,H,Q=>Q [] H
 | (d,a)::r,σ,H,Q=>d σ H λx c=>a σ c λy e=>dI r σ e λps b=>Q ((x,y)::ps) b
abbrev VV:List (V×V)->List (Value×Value)->Prop:=Paired λp q=>RelV p.1 q.1/\RelV p.2 q.2
def PPs(X:Cx)(pos:Pos)(b:List (Option Expr))(a:List Expr)(c:List (TE×TE)):Prop:=
 ∀(pins:List (Addr×Obj)) (s:Shared) (σ:St) (H:Hp) (Q:List (V×V)->Hp->Prop),Inv X pins σ H s->dI c σ H Q ->
  wpAny (model X.prog X.w) X.A (evalPairs (pairTrees b a X.env pos)) (λvs s'=>∃ps H',Inv X pins σ H' s'/\VV ps vs/\Q ps H') X.xe s
theorem sd:PPs X pos [] [] []:=λpins s σ H Q I h=>pairTrees_nil_walk ⟨[],H,I,.nil,h⟩
theorem nR{k v:Expr}{d:List (Option Expr)}{vs:List Expr}{e c:TE}{a:List (TE×TE)}(f:PE X k e)(m:PE X v c)(j:PPs X pos d vs a) :
  PPs X pos (some k::d) (v::vs) ((e,c)::a):=λpins s σ H Q I h=>
 pairTrees_cons_walk (thn (f pins s σ H _ I h) λu l ⟨x,p,n,r,t⟩=>thn (m pins l σ p _ n t) λC A ⟨y,B,w,g,i⟩=>
  thn (j pins A σ B _ w i) λws D ⟨ps,z,o,b,q⟩=>⟨(x,y)::ps,z,o,.cons ⟨r,g⟩ b,q⟩)
def N6(c a:List (Key×V)):List (Key×V):=a.foldl (λb d=>w5 b d.1 d.2) c
theorem KV.merge:∀{a:List (Key×V)} {rs:List (Key×Value)} {b:List (Key×V)} {vs:List (Key×Value)},KV a rs->KV b vs->KV (N6 b a) (merged vs rs):=by
 intro a rs b vs r;induction r generalizing b vs with
 | nil=>intro q;exact q
 | @cons p q ps f h t c=>
  intro d;have e:KV (w5 b p.1 p.2) (stored vs q.1 q.2):=by
   have:=d.put p.1 h.2;rw[<- h.1];exact this
  exact c e
theorem M7:∀(b a:List (Key×V)),(N6 a b).length<=a.length+b.length
 | [],a=>by show a.length<=a.length+0;omega
 | p::r,a=>by
  have d:=M7 r (w5 a p.1 p.2);have c:=L1 a p.1 p.2;show(N6 (w5 a p.1 p.2) r).length<=_;rw[Ic];omega
theorem au:∀{d:List (Key×V)} {ws:List (Value×Value)},VV (d.map λe=>(kV e.1,e.2)) ws->∃rs,Carries (i9 P w) ws rs/\KV d rs
 | [],_,r=>by rw[List.map_nil]at r;cases r;exact⟨[],True.intro,.nil⟩
 | p::d,_,r=>by
  rw[Ht]at r;cases r with
  | @cons a b j i h t=>
   obtain⟨rs,c,q⟩:=au t;obtain⟨g,f⟩:=b;exact⟨(p.1,f)::rs,⟨cT h.1,rfl,c⟩,.cons ⟨rfl,h.2⟩ q⟩
def Cj(b:List (TE×TE)):TE:=λσ H Q=>∀p,H p=none->dI b σ (upd H p (.dK [])) λps c=>c p=some (.dK [])/\∃a:List (Key×V),ps=a.map (λd=>(kV d.1,d.2))/\a.length<=15/\Q (.ref p) (upd c p (.dK (N6 [] a)))
theorem tt(h:PPs X pos keys values trs)(d:keys.all (·.isSome)=true)(k:keys.length=values.length)(u:keys≠[])
  (f:keys.length<=15):PE X (.Dict keys values pos) (Cj trs):=by
 intro pins s σ H Q I q;have t:=I.hok.fresh (Hd s.heap.objs.size);have p:=I.laid (t':=s.toks) (λ_ _ q=>Ha _ q) (Hd _) (rl s.heap I.big);refine wpAny_Dict_walk (knd:=i9 X.prog X.w) d k u f (thn (h pins _ σ _ _ p (q _ t)) λws A ⟨ps,B,i,g,e,a,r,y,l⟩=>?_);subst r;obtain⟨rs,c,n⟩:=au g;obtain⟨z,hd,x,m,v⟩:=xl i.hok e;cases m;refine⟨rs,c,v,λh' b hs=>⟨.ref s.heap.objs.size,_,?_,rfl,l⟩⟩;have hz:(N6 [] a).length<=sizeLine:=by
  have j:=M7 a [];rw[LB]at j;rw[HB];omega
 have o:∃q,h'.get? s.heap.objs.size=some q:=let ⟨q,_,_,w,_⟩:=b;⟨q,w⟩
 exact Z3 i (by rw[e];exact True.intro) hs o (pF hz hd (n.merge .nil) b)
section
variable {X:Cx}{pins:List (Addr×Obj)}{σ:St}{H:Hp}{s:Shared}{a:Addr}{y d:V}{u r:Value}{o:Option V}{A:Around}{E:Value->Shared->Prop}
theorem BW(n:A.units+1<cLine)(I:Inv X pins σ H s)(g:DGet H a y o)(j:RelV y u)(h:∀w' s',Inv X pins σ H s'->RelV (o.getD .non) w'->Q w' s') :
  wpAny (model X.prog X.w) A (call (.builtin "dict.get") [.ref a,u]) Q E s:=by
 rcases g with ⟨i,k,e,f,l⟩ | ⟨i,k,b,e,f,m,l⟩
 ·subst f;obtain⟨z,hd,vs,c,d⟩:=bm I.hok e;refine KG Iy d.typeIs IU (Kg _ _) (meets_dict_get (i9 X.prog X.w) a (cT j) hd) ⟨_,d.mapOf,h _ _ (I.tok _) ?_⟩;rw[l];exact(c.val k).getD rfl
 ·subst f;cases (j);obtain⟨z,hd,xs,c,d⟩:=gC I.hok e;refine KG Iy d.typeIs IU (Kg _ _) (meetsH_dict_get (tupleKind (i9 X.prog X.w)) a b hd) ⟨Kd n,k,xs,bN I.hok m,d,h _ _ (I.tok _) ?_⟩;rw[l];exact(c.val k).getD rfl
theorem yQ(q:A.units+1<cLine)(I:Inv X pins σ H s)(g:DGet H a y o)(m:RelV y u)(n:RelV d r)(h:∀w' s',Inv X pins σ H s'->RelV (o.getD d) w'->Q w' s') :
  wpAny (model X.prog X.w) A (call (.builtin "dict.get") [.ref a,u,r]) Q E s:=by
 rcases g with ⟨j,k,e,i,l⟩ | ⟨j,k,b,e,i,p,l⟩
 ·subst i;obtain⟨z,hd,vs,c,f⟩:=bm I.hok e;refine KG Iy f.typeIs IU (Ln _ _ _) (meets_dict_get_default (i9 X.prog X.w) a (cT m) hd r) ⟨_,f.mapOf,h _ _ (I.tok _) ?_⟩;rw[l];exact(c.val k).getD n
 ·subst i;cases (m);obtain⟨z,hd,xs,c,f⟩:=gC I.hok e;refine KG Iy f.typeIs IU (Ln _ _ _) (meetsH_dict_get_default (tupleKind (i9 X.prog X.w)) a b hd r) ⟨Kd q,k,xs,bN I.hok p,f,h _ _ (I.tok _) ?_⟩;rw[l];exact(c.val k).getD n
end
end L2
namespace Att
open PySem PySem.W PySem.Calls PyProof.Rows
theorem Y2:∀(ns:List Int)(vs:List Value),WellAll P h vs (ns.map WData.int)->IntsAre vs ns:=by
 intro ns;induction ns with
 | nil=>
  intro vs w;rw[List.map_nil]at w;cases w;exact .nil
 | cons n ns c=>
  intro vs w;rw[Ht]at w;cases w with
  | cons a b=>
   cases a;exact .cons _ _ (c _ b)
theorem lL{l:OpenLaw}{n:Nat}(hn:l.most=some n){P:Params}{h:Heap}{args:List WData}{vals:List Value}
  (hpre:l.row.toRowW.claim.pre args=true) (hwl:WellAll P h vals args) :
  ∃a vs ns,vals=[Value.ref a]/\args=[WData.list (ns.map WData.int)]/\h.get? a=some { cls:=.type "list",data:=.seq vs.toArray }/\IntsAre vs ns/\ns.length<=n:=by
 have hsh:=(pre_splitW hpre).1;have hc:=(pre_splitW hpre).2;obtain⟨d,r,rfl,h1,h2⟩:=hasAllW_cons hsh;obtain rfl:=hasAllW_nil h2;obtain⟨xs,rfl,h3⟩:=hasW_list h1;obtain⟨ns,rfl⟩:=items_int h3;have hlen:ns.length<=n:=by
  have h4:(WTm.not (.lt (.lit (.int (n:Int))) (.len (.arg 0)))).holds [] { args:=[.list (ns.map .int)] }=true:=by
   have h4:=(holds_andW hc).1;rw[hn]at h4;exact h4
  have h5:=condW_of h4 (w_not (w_lt w_lit (w_len_list (w_arg rfl))));rw[Hc]at h5;refine Jv λq=>?_;have q':(n:Int)<((ns.length:Nat):Int):=by omega
  first
   | (rw[Hv q']at h5;exact absurd h5 (by decide))
   | (simp at h5;omega)
 cases hwl with
 | cons w1 w2=>
  cases w2;cases w1 with
  | list ho hall=>exact⟨_,_,ns,rfl,rfl,ho,Y2 ns _ hall,hlen⟩
theorem km(l:OpenLaw)(a:List WData):l.row.toRowW.claim.post a (.bool true) a=true:=
 postW_of
  (show WShape.has [] (.bool true) .bool=true by first | rfl | decide | simp[WShape.has,WShape.arms,WShape.armsAll])
  (w_eq_bool (w_res rfl) w_lit) rfl
theorem attach_call{l:OpenLaw}{n:Nat}{q:Program}{e:List Str}{H:(Str->Option Value)->Heap->Prop}{D:World->Heap->Prop}{d:DefRec}
  (M:l.most=some n) (z:d.params.defaults=[])
  (k:∀(w:World)(c b:Shared)(s A:Str->Option Value)(m:Addr)(o:Obj)(x t g:Value)(a:Addr)(vs:List Value)(ns:List Int),
   Ground q e [] H w c s A b.heap->D w b.heap ->
   b.heap.get? m=some o->o.data=.func (docDef d.name d.params d.body d.scope x t g)->b.heap.CodeRec t d.name->s d.name=some (.ref m) ->
   b.heap.get? a=some { cls:=.type "list",data:=.seq vs.toArray }->IntsAre vs ns->ns.length<=n->b.gens=#[] ->
   codeAny (model l.prog w) callerA (.call (.ref m) ⟨[.ref a],[]⟩) (λr s'=>r=.ok (.ret (.bool true))/\OldK b.heap s'.heap/\s'.os=b.os/\AllBare s'.gens) b) :
  WalkO q e H D l.row.toRowW d [] (λf vs=>PySem.call f vs):=by
 intro w c b s A G Y m o x t g L I Q hd y B v S E C U j F P u K;obtain rfl:L=.none:=Dflts.none B z;obtain rfl:I=.none:=Dflts.noKw B;obtain⟨a,vs,ns,rfl,rfl,i,h,p⟩:=lL M j u;refine enter_call (IT (k w c b s A m o x t g a vs ns G Y Q (fd_plain hd) y v i h p S) λr s' R=>?_);obtain⟨rfl,N,T,J⟩:=R;exact⟨.inl ⟨.bool true,.bool true,[],rfl,λ_=>rfl,.bool true,km l _,λ_=>⟨List.Pairwise.nil,λ_ O=>(nomatch O)⟩⟩,N,T,J⟩
end Att
namespace L2
open PySem PySem.Spec PyProof.Rows
theorem D1:∀{vs:List Value}{ns:List Int},IntsAre vs ns->Vals (ns.map V.int) vs
 | _,_,.nil=>.nil
 | _,_,.cons n t h=>.cons ⟨t,rfl⟩ (D1 h)
def zJ(H:Hp):Prop:=∀b,H b=none\/∃o xs,H b=some (.frz o (.lst xs))
theorem rJ{K:PySem.W.Frag}{mg mb:Str->Option Value}{CX:CXT}{k:Nat}{fa a:Addr}{fd:FuncData}{x:Str}{sp:Sp}{s₁:Shared}{vs:List Value}{ns:List Int}
  (KX:K.In s₁.heap) (hns:s₁.heap.Ns mainGlobals mg) (hb:s₁.heap.Ns builtinsNs mb) (hbb:∀x:Str,x ≠ "__name__"->mb x=bootBuiltins x) (hlim:s₁.heap.NoLimit) (hg:s₁.gens=#[])
  (ha:s₁.heap.get? a=some { cls:=.type "list",data:=.seq vs.toArray }) (hi:IntsAre vs ns) (hl:ns.length<=sizeLine) (hr:Room false k callerA)
  (F:∀base:Heap,K.In base->base.Ns mainGlobals mg->FnOk P w K mg base CX k fa fd [x] sp) (hbind:∀(s:Shared)(u:Value),BindsTo s fd ⟨[u],[]⟩ [(x,u)])
  (hsp:∀H:Hp,zJ H->SqL K H a (ns.map V.int)->sp [.ref a] H (λv _=>v=.bl true) λ_ _ _=>False)
  (hCX:∀H e s',CX [] H s₁ (λ_ _ _=>False) e s'->False) :
  codeAny (model P w) callerA (.call (.ref fa) ⟨[.ref a],[]⟩) (λr s'=>r=.ok (.ret (.bool true))/\OldK s₁.heap s'.heap/\s'.os=s₁.os/\AllBare s'.gens) s₁:=by
 have rv:=D1 hi;have lenV:=hi.length;have core:∀H:Hp,zJ H->SqL K H a (ns.map V.int)->HOk P w H s₁.heap->(∀b,H b≠none->b=a)->(H a≠none->K.lookup a=none) ->
   codeAny (model P w) callerA (.call (.ref fa) ⟨[.ref a],[]⟩) (λr s'=>r=.ok (.ret (.bool true))/\OldK s₁.heap s'.heap/\s'.os=s₁.os/\AllBare s'.gens) s₁:=by
  intro H hO hS hok hA hK;have D8:∀{b:Addr}{o:Obj},s₁.heap.get? b=some o->H b=none->(eE s₁.heap H).get? b=some o:=λe n=>nY e n;have noA:∀{b:Addr}{o:Obj}{es:Array DictEntry}{ep:Nat},s₁.heap.get? b=some o->o.data=.dict es ep->H b=none:=λ{b o es ep} e d=>by
   cases q:H b with
   | none=>rfl
   | some u=>
    have e':=hA b (by rw[q];simp);subst e';rw[ha]at e;cases e;have d':=d;cases d'
  have nsK:∀{b:Addr}{m:Str->Option Value},s₁.heap.Ns b m->(eE s₁.heap H).Ns b m:=λ{b m} ⟨o,es,ep,e,d,r⟩=>⟨o,es,ep,D8 e (noA e d),d,r⟩;have hKb:=λb o e=>D8 (KX b o e) (by
   cases q:H b with
   | none=>rfl
   | some u=>
    have e':=hA b (by rw[q];simp);subst e';rw[hK (by rw[q];simp)]at e;cases e)
  have hM:Mod K mg (eE s₁.heap H):=⟨hKb,nsK hns,⟨mb,nsK hb,hbb⟩,let ⟨mc,h1,h2⟩:=hlim;⟨mc,nsK h1,h2⟩⟩;have e0:Env0 P w K mg (eE s₁.heap H) callerA [] s₁ H:=⟨rfl,hM,λb o e=>tq e,Nat.le_of_eq (lf _ _),trivial,λb hb=>absurd (show b∈([]:List Addr) from hb) (by simp),hok,.of_eq hg⟩;refine IT ((F _ hKb (nsK hns)).run callerA [] s₁ H ⟨[.ref a],[]⟩ [.ref a] [.ref a] _ _ hr.any e0 (hbind s₁ (.ref a)) (.cons rfl .nil) (hsp H hO hS)) λr s' h=>?_;cases r with
  | error e=>exact(hCX H e s' h).elim
  | ok fl=>
   cases fl with
   | next=>exact False.elim h
   | brk=>exact False.elim h
   | cont=>exact False.elim h
   | ret u=>
    obtain⟨v,H',os,bare,un,hok',r',q⟩:=h;have q':=q;subst q';obtain rfl:u=Value.bool true:=r';refine⟨rfl,OldK.of_keep λb o e=>?_,os,bare⟩;cases q:H b with
    | none=>exact un.keep b o e q (by intro z;exact absurd (show b∈([]:List Addr) from z) (by simp)) (by simp)
    | some u=>
     rcases hO b with z | ⟨ob,xs,z⟩
     ·rw[q]at z;cases z
     ·have z2:=un.frzs b ob _ z;obtain⟨e1,_⟩:=hok b _ z;obtain⟨e2,_⟩:=hok' b _ z2;rw[e]at e1;cases e1;exact e2
 cases hk:K.lookup a with
 | some o=>
  have e:=KX a o hk;rw[ha]at e;cases e;refine core (λ_=>none) (λ_=>.inl rfl) (.inr ⟨_,vs.toArray,_,hk,rfl,rfl,rfl,by rw[Hg,lenV];exact hl,by simpa using rv⟩) (λb u z=>by have z':=z;cases z') (λb z=>absurd rfl z) λz=>absurd rfl z
 | none=>
  refine core (λb=>if b=a then some (.frz { cls:=.type "list",data:=.seq vs.toArray } (.lst (ns.map V.int)))else none) (λb=>?_) (.inl (.inr ⟨{ cls:=.type "list",data:=.seq vs.toArray },if_pos rfl⟩)) (λb u z=>?_) (λb z=>?_) λ_=>hk
  ·by_cases hb:b=a
   ·exact .inr ⟨_,_,if_pos hb⟩
   ·exact .inl (if_neg hb)
  ·by_cases hb:b=a
   ·have z':=(if_pos hb).symm.trans z;cases z';subst hb;exact⟨ha,by rw[Hc];exact hl,vs,_,rv,ha⟩
   ·have z':=(if_neg hb).symm.trans z;cases z'
  ·by_cases hb:b=a
   ·exact hb
   ·exact absurd (if_neg hb) z
theorem walk_of{l:PySem.W.OpenLaw}{n k:Nat}{q:Program}{g:List Str}{Q:(Str->Option Value)->Heap->Prop}{D:World->Heap->Prop}{d:DefRec}{K:Params->PySem.W.Frag}{CX:World->CXT}{sp:World->Sp}{x:Str}
  (O:l.most=some n) (A:n<=sizeLine) (B:d.params.defaults=[]) (M:Room false k callerA)
  (S:∀(w:World)(h:Heap),D w h->(K w.params).In h)
  (F:∀(w:World)(j:Str->Option Value)(r:Addr)(h:Heap),(K w.params).In h->h.Ns mainGlobals j->j d.name=some (.ref r) ->
   ∃fd:FuncData,(∀(s:Shared)(u:Value),BindsTo s fd ⟨[u],[]⟩ [(x,u)]) /\
    ∀b:Heap,(K w.params).In b->b.Ns mainGlobals j->FnOk l.prog w (K w.params) j b (CX w) k r fd [x] (sp w))
  (t:∀(w:World)(H:Hp)(a:Addr)(ns:List Int),ns.length<=n->zJ H->SqL (K w.params) H a (ns.map V.int)->sp w [.ref a] H (λv _=>v=.bl true) λ_ _ _=>False)
  (z:∀(w:World)(H:Hp)(s:Shared)(e:Value)(s':Shared),CX w [] H s (λ_ _ _=>False) e s'->False) :
  PySem.W.WalkO q g Q D l.row.toRowW d [] (λf vs=>PySem.call f vs):=by
 refine Att.attach_call O B λw C m j Z r o U W J a vs ns G Y X hd P y p i c R=>?_;have E:=S w _ Y;obtain⟨fd,N,I⟩:=F w j r _ E G.T.g y;exact rJ E G.T.g G.T.b G.T.builtins G.T.nolimit R p i (HJ c A) M I N (λH T L=>t w H a ns c T L) λH e s'=>z w H m e s'
def dE(s:Stmt)(j:Nat):Stmt:=match s with
 | .ClassDef _ _ _ body _ _ _ _ _ _ _=>body.getD j (.Pass ⟨0,0,0,0⟩)
 | _=>.Pass ⟨0,0,0,0⟩
def t6(s:Stmt):Arguments:=match s with
 | .FunctionDef _ a _ _ _ _ _ _ _ _=>a
 | _=>{ posonlyargs:=[],args:=[],vararg:=none,kwonlyargs:=[],kw_defaults:=[],kwarg:=none,defaults:=[] }
def j6(s:Stmt):List Stmt:=match s with
 | .FunctionDef _ _ b _ _ _ _ _ _ _=>b
 | _=>[]
def c9(s:Stmt):Scope:=match s with
 | .FunctionDef _ _ _ _ _ _ a _ _ _=>a
 | _=>{ kind:=.function,names:=[],isGenerator:=false,isCoroutine:=false }
abbrev CX0:CXT:=⟨λ_ _ _ _ _ _=>False,false⟩
abbrev E0:XK:=λ_ _ _=>False
theorem eP:C3 CX0 X E0:=λ_ _ _ _ _ _ _ h=>False.elim h
structure Fun(K:PySem.W.Frag)(x qual:Str)(st:Stmt)(f:Addr)(fd:FuncData):Prop where
 ex:∃(oc:Value) (od:Option Addr) (kV doc pm:Value) (an:Option Addr) (cdv ct:Value) (osl:Array (Option Value)),
  fd=PySem.W.fnOf x qual (t6 st) (j6 st) (c9 st) .none kV doc pm an cdv ct/\K.lookup f=some ⟨oc,od,.func fd,osl⟩/\PySem.W.codeIn K cdv qual=true
 kp:PySem.W.keepIn K (.ref f)=true
section
variable {P:Program}{w:World}{K:PySem.W.Frag}{mg:Str->Option Value}{base:Heap}
theorem Fun.ok{st:Stmt}{f:Addr}{fd:FuncData}{N ps:List Str}{k:Nat}{sp:Sp}(F:Fun K x qual st f fd)(S:FnScope N ps (c9 st))(e:∀vs H Q E,sp vs H Q E->vs.length=ps.length)
  (c:∀(b:Value)(A:Around)(a:List Env)(s:Shared)(H:Hp)(vs:List V)(Q:VK)(E:XK),Room false k (A.deeper (envOfC qual (c9 st) s.heap.objs.size f b))->sp vs H Q E ->
   ∃t,PSs (bR CX0 P w K mg base N qual (c9 st) f b A a s H E).nox (j6 st) t/\t { nx:=λ_ H'=>Q .non H',rt:=Q } (start N vs) H):FnOk P w K mg base CX0 (k+1) f fd ps sp:=by
 obtain⟨n,od,r,i,p,u,b,o,m,rfl,j,g⟩:=F.ex;refine xj j g S e λA a s H vs Q E l d=>?_;obtain⟨t,h,q⟩:=c b A a s H vs Q E l d;exact⟨t,h.nox,q⟩
theorem Fun.binds{st:Stmt}{f:Addr}{fd:FuncData}{ps:List Str}(F:Fun K x qual st f fd)
  (h:∀(e b c:Value)(g:Option Addr)(a d:Value)(us:List Value),us.length=ps.length->bindArgs (PySem.W.fnOf x qual (t6 st) (j6 st) (c9 st) .none e b c g a d) ⟨us,[]⟩=pure (ps.zip us)):Binds K fd ps []:=by
 obtain⟨k,od,e,b,c,g,a,d,j,rfl,l,i⟩:=F.ex;exact .all (h e b c g a d)
theorem az{st:Stmt}{f:Addr}{j:Value}{od h:Option Addr}{d:Array (Option Value)}{i b e a g:Value}(l:K.lookup f=some ⟨j,od,.func (PySem.W.fnOf x qual (t6 st) (j6 st) (c9 st) .none i b e h a g),d⟩)
  (c:PySem.W.codeIn K a qual=true) (k:PySem.W.keepIn K (.ref f)=true):Fun K x qual st f (PySem.W.fnOf x qual (t6 st) (j6 st) (c9 st) .none i b e h a g):=⟨⟨j,od,i,b,e,h,a,g,d,rfl,l,c⟩,k⟩
end
theorem Ew{k:Nat}(a:Room q k A):A.units+1<cLine:=Nat.lt_of_le_of_lt (Nat.add_le_add_left (by decide:1<=64) _) a.units
section
variable {X:Cx}
theorem pv(i:Nat){x:Str}{pos:Pos}(c:X.N[i]?=some x:=by rfl)(b:Vis X.env.scope x:=by first | exact Or.inl rfl | exact Or.inr (Or.inl rfl) | exact Or.inr (Or.inr rfl))(hd:(x==("__debug__" : Str))=false:=by decide)
  (a:(x==("__classdict__" : Str))=false:=by decide):PE X (.Name x pos) (zK i):=oS c b hd a
theorem mF:p0 X (.builtin "len") (λxs H Q=>∃a b,xs=[V.ref a]/\H a=some (.dK b)/\Q (.int b.length) H):=by
 intro pins s σ H xs us Q I r h;obtain⟨a,b,rfl,d,q⟩:=h;obtain⟨u,rfl,e⟩:=aM r;cases e;exact FM I (.inl d) λt s' c=>⟨.int b.length,H,c,⟨t,rfl⟩,q⟩
end
theorem uR{A B:Prop}(h:A):if true=true then A else B:=by
 rw[if_pos rfl];exact h
def Same(H H':Hp):Prop:=∀b o,H b=some o->H' b=some o
theorem Same.seq{K:PySem.W.Frag}{H H':Hp}{a:Addr}{xs:List V}(e:Same H H')(h:SqL K H a xs):SqL K H' a xs:=by
 rcases h with (h | ⟨o,h⟩) | h
 ·exact .inl (.inl (e _ _ h))
 ·exact .inl (.inr ⟨o,e _ _ h⟩)
 ·exact .inr h
theorem aW{b a:Type}(g:a->b->a){f:b->a->Sem (ForInStep a)}:∀(l:List b)(c:a),(∀x∈l,∀c,f x c=pure (.yield (g c x)))->forIn l c f=pure (l.foldl g c)
 | [],_,_=>rfl
 | x::l,c,h=>by
  rw[IP,h x Hf,pure_bind];exact aW g l (g c x) λy d=>h y (Hh _ d)
def k8(cells:List (Str×Addr))(a:List (Str×Addr))(x:Str×NameKind):List (Str×Addr):=if x.2=NameKind.free then (x.1,(cells.lookup x.1).getD 0)::a else a
def O9(cells:List (Str×Addr))(a:List (Str×NameKind)):List (Str×Addr):=a.foldl (k8 cells) []
theorem v6(h:∀x∈scope.names,x.2=NameKind.free->∃c,env.cells.lookup x.1=some c):closureFor scope env=pure (O9 env.cells scope.names):=by
 simp only[closureFor];rw[aW (k8 env.cells) scope.names [] (λx e c=>by
  obtain⟨n,k⟩:=x;by_cases b:k=NameKind.free
  ·subst b;obtain⟨a,d⟩:=h _ e rfl;simp[cellOf,k8,d]
  ·have:(k==NameKind.free)=false:=by simpa using b
   simp[k8,b,this])]
 rfl
theorem D6:∀(names:List (Str×NameKind)) (acc:List (Str×Addr)),(∀x∈names,x.2=NameKind.free->∃c,cells.lookup x.1=some c)->(∀x c,acc.lookup x=some c->cells.lookup x=some c) ->
  ∀x c,(names.foldl (k8 cells) acc).lookup x=some c->cells.lookup x=some c
 | [],_,_,ha,x,c,e=>ha x c e
 | y::r,acc,hn,ha,x,c,e=>by
  refine D6 r (k8 cells acc y) (λz hz=>hn z (Hh _ hz)) (λz d q=>?_) x c e;unfold k8 at q;split at q
  ·rename_i hk;obtain⟨a,hy⟩:=hn y Hf hk;rw[Jw]at q;split at q
   ·rename_i hz;have hz':z=y.1:=by simpa using hz
    rw[hy]at q;rw[hz',hy];exact q
   ·exact ha z d q
  ·exact ha z d q
theorem aG:∀(names:List (Str×NameKind)) (acc:List (Str×Addr)) (x:Str),(acc.lookup x).isSome=true->((names.foldl (k8 cells) acc).lookup x).isSome=true
 | [],_,_,h=>h
 | y::r,acc,x,h=>by
  refine aG r (k8 cells acc y) x ?_;unfold k8;split
  ·rw[Jw];split
   ·rfl
   ·exact h
  ·exact h
theorem R3:∀(a:List (Str×NameKind)) (b:List (Str×Addr)) (x:Str),(x,NameKind.free)∈a->((a.foldl (k8 cells) b).lookup x).isSome=true
 | [],_,_,h=>nomatch h
 | y::r,b,x,h=>by
  rcases Ho.mp h with h | h
  ·subst h;refine aG r _ x ?_;simp[k8]
  ·exact R3 r _ x h
theorem mem_of_lookup{c d:Type}[BEq c][LawfulBEq c]:∀{l:List (c×d)} {x:c} {y:d},l.lookup x=some y->(x,y)∈l
 | [],_,_,h=>by simp at h
 | (a,b)::r,x,y,h=>by
  rw[Jw]at h;split at h
  ·rename_i e;have:x=a:=by simpa using e
   cases h;subst this;exact Hf
  ·exact Hh _ (mem_of_lookup h)
theorem W8{f:Str×NameKind->Str×NameKind}(a:∀y,(f y).1=y.1):∀(l:List (Str×NameKind)) (x:Str),(l.map f).lookup x=(l.lookup x).map λk=>(f (x,k)).2
 | [],_=>rfl
 | (n,k)::r,x=>by
  rw[Ht,show f (n,k)::r.map f=((f (n,k)).1,(f (n,k)).2)::r.map f from rfl,Jw,Jw,a];cases b:x==n with
  | true=>
   have e:x=n:=by simpa using b
   subst e;rfl
  | false=>exact W8 a r x
def rlF(a:Env)(y:Str×NameKind):Str×NameKind:=if (y.2==.free&&a.scope.kind==.function&&a.kindOf y.1==some .cell)then (y.1,.cell)else (y.1,y.2)
theorem tY(a:Env)(y:Str×NameKind):(rlF a y).1=y.1:=by unfold rlF;split <;> rfl
theorem J9(a:Scope)(b:Env)(x:Str):(relabel a b).names.lookup x=(a.names.lookup x).map λk=>(rlF b (x,k)).2:=W8 (tY b) a.names x
theorem N3{scope:Scope}{env:Env}{x:Str}(h:scope.names.lookup x=some .free):(relabel scope env).names.lookup x=some .cell\/(relabel scope env).names.lookup x=some .free:=by
 rw[J9,h];show some (rlF env (x,.free)).2=_\/some (rlF env (x,.free)).2=_;unfold rlF;split
 ·exact .inl rfl
 ·exact .inr rfl
theorem Q1(h:(relabel scope env).names.lookup x=some k)(hk:k=.cell\/k=.free)(hc:∀y∈scope.names,y.2≠NameKind.cell):scope.names.lookup x=some .free:=by
 rw[J9]at h;cases e:scope.names.lookup x with
 | none=>rw[e]at h;cases h
 | some k'=>
  rw[e]at h;have h':(rlF env (x,k')).2=k:=HH h;have hn:=hc (x,k') (mem_of_lookup e);unfold rlF at h';split at h'
  ·rename_i hb;simp only[Gz,Jy]at hb;exact congrArg some hb.1.1
  ·have h'':k'=k:=h';subst h'';rcases hk with rfl | rfl
   ·exact absurd rfl hn
   ·rfl
theorem HOk.sameBut{a:Addr}(g:HOk P w H h)(f:H a=none)(hs:Heap.SameBut a h h'):HOk P w H h':=λb ob e=>by
 refine(g b ob e).stay (λc w' d q=>(hs.2 c ?_).trans q) (λ_ q=>q) λ_ _ q=>q;rintro rfl;rcases d with rfl | d
 ·rw[f]at e;cases e
 ·rw[f]at d;cases d
theorem Un.sameBut{C:Addr}(u:Un fs ex H H' h h1)(hs:Heap.SameBut C h1 h')(g:h.objs.size<=C):Un fs ex H H' h h':=by
 have d:∀b o,h.get? b=some o->b≠C:=λb o e=>Hq (Hx (Hk e) g);exact⟨λb o e n c a=>(hs.2 b (d b o e)).trans (u.keep b o e n c a),λb o e n c a=>let ⟨f,q⟩:=u.slot b o e n c a;⟨f,(hs.2 b (d b o e)).trans q⟩,u.free,
  λb o e a=>let ⟨o',q⟩:=u.there b o e a;⟨o',(hs.2 b (d b o e)).trans q⟩,u.tups,u.frzs,u.tbls⟩
def b6(X:Cx)(pins:List (Addr×Obj))(N':List Str)(a:Scope)(C:Addr)(b:List Addr)(s:Shared)(H:Hp):Cx where
 prog:=X.prog
 w:=X.w
 K:=X.K
 mg:=X.mg
 base:=X.base
 A:=X.A
 N:=N'
 s₀:=s
 H₀:=H
 env:=compEnvC a (O9 X.env.cells a.names) C X.env
 outer:=X.stack
 stack:=X.stack
 ex:=b
 fn:=λ_=>false
 calm:=X.calm
 pn:=X.pn++pins
 xe:=λ_ _=>False
structure CompText(N:List Str)(env:Env)(N':List Str)(k:Nat)(caps:List Nat)(scope:Scope):Prop where
 kind:scope.kind=.function
 cell:∀y∈scope.names,y.2≠NameKind.cell
 loc:∀y∈scope.names,y.2=NameKind.local->scope.names.lookup y.1=some .local
 free:∀y∈scope.names,y.2=NameKind.free->scope.names.lookup y.1=some .free/\(env.scope.names.lookup y.1=some .cell\/env.scope.names.lookup y.1=some .free)
 cps:∀(j i:Nat),caps[j]?=some i->∃x,N[i]?=some x/\N'[k+j]?=some x/\scope.names.lookup x=some .free
 len:N'.length=k+caps.length
def A3(caps:List Nat)(σ:St):St:=caps.map λi=>(σ[i]?).join
theorem el{caps:List Nat}{σ:St}{j:Nat}{v:V}(h:(A3 caps σ)[j]?=some (some v)):∃i,caps[j]?=some i/\σ[i]?=some (some v):=by
 unfold A3 at h;rw[HK]at h;cases e:caps[j]? with
 | none=>rw[e]at h;cases h
 | some i=>
  rw[e]at h;refine⟨i,rfl,?_⟩;have h':(σ[i]?).join=some v:=HH h;cases q:σ[i]? with
  | none=>rw[q]at h';cases h'
  | some o=>rw[q]at h';exact congrArg some h'
section
variable {X:Cx}{pins:List (Addr×Obj)}{σ:St}{H:Hp}{s:Shared}{N':List Str}{k:Nat}{caps:List Nat}{scope:Scope}{fp:List Addr}
theorem jc(T:CompText X.N X.env N' k caps scope)(I:Inv X pins σ H s)(i:∀b∈fp,C6 X pins H b){C:Addr}(n:s.heap.objs.size<=C)(j:∀b∈fp,b<s.heap.objs.size):(b6 X pins N' scope C fp s H).Ok:=by
 have p:∀x∈scope.names,x.2=NameKind.free->∃c,X.env.cells.lookup x.1=some c:=λx g q=>I.ok.has x.1 (T.free x g q).2;have f:=D6 scope.names [] p λx c e=>by simp at e
 refine⟨I.mod,?_,I.ok.glob,I.ok.blt,n,λx y c a b=>I.ok.inj x y c (f x c a) (f y c b),λx g=>?_,λx c m=>(by cases m),I.ok.hd,I.ok.frames,.inl rfl,λb d=>⟨?_,λx c e=>(i b d).2.2.2.2.1 x c (f x c e)⟩,I.bs,?_,λb o e d=>?_,λb d l=>?_,I.stack,I.stkFree⟩
 ·exact T.kind
 ·have h:scope.names.lookup x=some .free:=by
   rcases g with g | g
   ·exact Q1 g (.inl rfl) T.cell
   ·exact Q1 g (.inr rfl) T.cell
  exact HW.mp (R3 scope.names [] x (mem_of_lookup h))
 ·exact Hq (Hx (j b d) n)
 ·exact HJ I.ok.bsz I.sz
 ·rcases(i b d).2.2.2.1 with z | z
  ·exact I.ok.noex b o e z
  ·exact absurd (Hx (Hk (I.ok.bs b o e).1) z) (Jn _)
 ·rcases Ho.mp (I.stkSub b l)with z | z
  ·exact(i b d).2.1 z
  ·exact(i b d).2.2.1 z
theorem P0(T:CompText X.N X.env N' k caps scope)(I:Inv X pins σ H s)(hf:∀b∈fp,C6 X pins H b)(hlt:∀b∈fp,b<s.heap.objs.size){h':Heap}{m:Str->Option Value}{t:Nat}
  (hn:h'.Ns (s.heap.objs.size+1) m) (hk:∀b o,s.heap.get? b=some o->h'.get? b=some o) (ha:h'.get? s.heap.objs.size=some { cls:=.type "list",data:=.seq #[] }) :
  Inv (b6 X pins N' scope (s.heap.objs.size+1) fp s H) [] (List.replicate k none++A3 caps σ) (upd H s.heap.objs.size (.lst [])) { s with heap:=h',toks:=t }:=by
 have ok:=jc T I hf (C:=s.heap.objs.size+1) (Ir _) hlt;have fr:∀x∈scope.names,x.2=NameKind.free->∃c,X.env.cells.lookup x.1=some c:=λx hx hk=>I.ok.has x.1 (T.free x hx hk).2;have snd:∀x c,(O9 X.env.cells scope.names).lookup x=some c->X.env.cells.lookup x=some c:=D6 scope.names [] fr λx c e=>by simp at e
 have nacc:H s.heap.objs.size=none:=I.hok.fresh (Hd _);have lt:∀b u,H b=some u->b<s.heap.objs.size:=λb u e=>I.hok.lt e;refine⟨ok,rfl,I.bare,Un.laid hk (Hd _) nacc,⟨m,hn,λi x v e1 e2 e3=>?_⟩,λx c e=>?_,?_,λx c e=>?_,λp hp=>?_,I.hok.laid hk (Hd _) ⟨HY _,[],_,.nil,ha⟩,?_⟩
 ·by_cases hi:i<k
  ·rw[Hj (by simpa using hi)]at e2;simp[hi]at e2
  ·rw[HC (by simpa using Jv hi)]at e2;rw[Jf]at e2;obtain⟨j,hj,hv⟩:=el e2;obtain⟨y,h1,h2,h3⟩:=T.cps _ _ hj;have hik:k+(i-k)=i:=by omega
   rw[hik]at h2;have hxy:y=x:=HH (h2.symm.trans e1);subst hxy;have hvis:=(T.free (y,.free) (mem_of_lookup h3) rfl).2;obtain⟨mX,hnX,hlX⟩:=I.loc;obtain⟨u,r,l⟩:=hlX j y v h1 hv (by rcases hvis with z | z;exact .inr (.inl z);exact .inr (.inr z));refine⟨u,r,?_⟩;rcases l with ⟨hk',_⟩ | ⟨_,c,hc,hcell⟩
   ·have hk'':X.env.scope.names.lookup y=some .local:=hk';rcases hvis with z | z
    ·rw[hk'']at z;cases z
    ·rw[hk'']at z;cases z
   ·obtain⟨c',hc'⟩:=HW.mp (R3 (cells:=X.env.cells) scope.names [] y (mem_of_lookup h3));have:c'=c:=HH ((snd y c' hc').symm.trans hc);subst this;obtain⟨oc,ho,hd⟩:=hcell;exact .inr ⟨N3 h3,c',hc',oc,hk _ _ ho,hd⟩
 ·obtain⟨v,oc,ho,hd⟩:=I.cell x c (snd x c e);exact⟨v,oc,hk _ _ ho,hd⟩
 ·show upd H s.heap.objs.size (.lst []) (s.heap.objs.size+1)=none;rw[a9 (Kw _)];exact I.hok.fresh (Ir _)
 ·obtain⟨v,oc,ho,hd⟩:=I.cell x c (snd x c e);rw[a9 (Hq (Hk ho))];exact I.freeC x c (snd x c e)
 ·have hp':p∈X.pn++pins:=by
   have:p∈(X.pn++pins)++[]:=hp;rwa [HU]at this
  obtain⟨e,n,ne,nf,d⟩:=I.pin p hp';refine⟨hk _ _ e,?_,Hq (Ig (Hk e)),λhb=>?_,d⟩
  ·rw[a9 (Hq (Hk e))];exact n
  ·rcases Ho.mp (I.stkSub p.1 hb)with z | z
   ·exact ne z
   ·exact nf z
 ·show _=N'.length;rw[T.len,Hu,Jf];unfold A3;rw[Hc]
end
def PTL(X:Cx)(ifs:List Expr)(t:TT):Prop:=
 ∀(pins:List (Addr×Obj)) (s:Shared) (σ:St) (H:Hp) (Q:Bool->Hp->Prop),Inv X pins σ H s->t σ H Q ->
  wpAny (model X.prog X.w) X.A (forIn ifs true λc r=>if r=true then do let a <- isTrue c X.env (eval c X.env);pure (ForInStep.yield a)else pure (ForInStep.yield r)) (TP X pins σ Q) X.xe s
def tTrue:TT:=λ_ H Q=>Q true H
theorem vn:PTL X [] tTrue:=λ_ _ _ H _ I h=>by
 rw[JH];exact Gy ⟨H,I,h⟩
theorem uY(h:PT X c t):PTL X [c] t:=λpins s σ H Q I q=>by
 rw[IP];refine Gx ?_;rw[if_pos rfl];refine Gx (thn (h pins s σ H Q I q) λb s' ⟨H',d,a⟩=>Gy ?_);dsimp only;rw[JH];exact Gy ⟨H',d,a⟩
theorem dm{α:Type}{t:Sem α}{Q:α->Shared->Prop}{u:Sem Unit}(hu:u=pure ())(h:wpAny M A u (λ_ s1=>wpAny M A t Q E s1) E s):wpAny M A t Q E s:=by
 have h1:=Gx h;rw[hu,pure_bind]at h1;exact h1
theorem i6{s:Shared}{a:Type}{t:Sem a}{Q:a->Shared->Prop}(h:wpAny M A t Q (λ_ _=>False) s):wpAny M A t Q E s:=Hy h (λ_ _ q=>q) λ_ _ q=>q.elim
mutual
inductive DAt(K:PySem.W.Frag)(H:Hp):V->PyData->Prop where
 | non:DAt K H .non .none
 | bl (b:Bool):DAt K H (.bl b) (.bool b)
 | int (i:Int):DAt K H (.int i) (.int i)
 | str (x:Str):DAt K H (.str x) (.str x)
 | lst {a:Addr} {xs:List V} {ds:List PyData}:SqL K H a xs->DAll K H xs ds->DAt K H (.ref a) (.list ds)
 | tup {a:Addr} {xs:List V} {ds:List PyData}:SqT K H a xs->DAll K H xs ds->DAt K H (.ref a) (.tuple ds)
inductive DAll(K:PySem.W.Frag)(H:Hp):List V->List PyData->Prop where
 | nil:DAll K H [] []
 | cons {x:V} {d:PyData} {xs:List V} {ds:List PyData}:DAt K H x d->DAll K H xs ds->DAll K H (x::xs) (d::ds)
end
def Keeps(K:PySem.W.Frag)(H H':Hp):Prop:=(∀a xs,SqL K H a xs->SqL K H' a xs)/\∀a xs,SqT K H a xs->SqT K H' a xs
mutual
theorem DAt.keeps{K:PySem.W.Frag}{H H':Hp}(k:Keeps K H H'):∀{v:V}{d:PyData},DAt K H v d->DAt K H' v d
 | _,_,.non=>.non
 | _,_,.bl b=>.bl b
 | _,_,.int i=>.int i
 | _,_,.str x=>.str x
 | _,_,.lst h r=>.lst (k.1 _ _ h) (DAll.keeps k r)
 | _,_,.tup h r=>.tup (k.2 _ _ h) (DAll.keeps k r)
theorem DAll.keeps{K:PySem.W.Frag}{H H':Hp}(k:Keeps K H H'):∀{xs:List V}{ds:List PyData},DAll K H xs ds->DAll K H' xs ds
 | _,_,.nil=>.nil
 | _,_,.cons h r=>.cons (DAt.keeps k h) (DAll.keeps k r)
end
theorem Keeps.of_same{K:PySem.W.Frag}{H H':Hp}(e:Same H H'):Keeps K H H':=
 ⟨λa xs h=>e.seq h,λa xs h=>by
  rcases h with (h | ⟨o,h⟩) | h
  ·exact .inl (.inl (e _ _ h))
  ·exact .inl (.inr ⟨o,e _ _ h⟩)
  ·exact .inr h⟩
theorem Same.laid(h:H p=none):Same H (upd H p o):=λb u e=>by rw[a9 (c6 e h)];exact e
theorem Keeps.laid{K:PySem.W.Frag}{H:Hp}{p:Addr}{o:HO}(h:H p=none):Keeps K H (upd H p o):=Keeps.of_same (Same.laid h)
section
variable {X:Cx}{pins:List (Addr×Obj)}{σ:St}{H:Hp}{s:Shared}
mutual
theorem DAt.reads(I:Inv X pins σ H s):∀{v:V}{d:PyData},DAt X.K H v d->∀{u:Value},RelV v u->∃a,Reads s.heap u d a
 | _,_,.non,u,r=>by cases (show u=Value.none from r);exact⟨_,.none⟩
 | _,_,.bl b,u,r=>by cases (show u=Value.bool b from r);exact⟨_,.bool b⟩
 | _,_,.int i,u,r=>by obtain⟨t,e⟩:=(r);subst e;exact⟨_,.int i t⟩
 | _,_,.str x,u,r=>by obtain⟨t,e⟩:=(r);subst e;exact⟨_,.str x t⟩
 | _,_,.lst h q,u,r=>by
  cases (r);obtain⟨f,c,⟨o,n,g,j,m,l⟩,_⟩:=I.list h;obtain⟨a,k⟩:=DAll.reads I q c;exact⟨_,.list g j l k⟩
 | _,_,.tup h q,u,r=>by
  cases (r);obtain⟨f,c,⟨o,g,j,n,l⟩,_⟩:=I.tuple h;obtain⟨a,k⟩:=DAll.reads I q c;exact⟨_,.tuple g j l k⟩
theorem DAll.reads(I:Inv X pins σ H s):∀{vs:List V}{ds:List PyData},DAll X.K H vs ds->∀{us:List Value},Vals vs us->∃as,ReadsAll s.heap us ds as
 | _,_,.nil,us,r=>by cases r;exact⟨_,.nil⟩
 | _,_,.cons h q,us,r=>by
  cases r with
  | cons r1 r2=>
   obtain⟨as,h1⟩:=DAt.reads I h r1;obtain⟨bs,h2⟩:=DAll.reads I q r2;exact⟨_,.cons h1 h2⟩
end
structure Shows(d:PyData):Prop where
 sh:d.showable=true
 nd:d.hasDict=false
 dp:d.depth<=60
 sz:d.shown.length<=sizeLine
end
def Bp(K:PySem.W.Frag)(a:Bool):R2:=λx y H Q=>∃d e,DAt K H x d/\DAt K H y e/\d.canLay0=true/\e.canLay0=true/\min d.depth e.depth<=60/\Q (.bl (if a then !PyData.eqv d e else PyData.eqv d e)) H
section
variable {X:Cx}
theorem zP(k:X.A.units+64<cLine):OpR X (compareOp .Eq) (Bp X.K false):=by
 intro pins s σ H x y v u Q I i c h;obtain⟨d,e,hd,a,b,f,m,q⟩:=h;obtain⟨l,g⟩:=hd.reads I i;obtain⟨n,j⟩:=a.reads I c;exact SeqAt.compareEq_reads g j b f (by omega) ⟨.bl (PyData.eqv d e),H,I,rfl,q⟩
theorem Af(k:X.A.units+64<cLine):OpR X (compareOp .NotEq) (Bp X.K true):=by
 intro pins s σ H x y v u Q I i c h;obtain⟨d,e,hd,a,b,f,m,q⟩:=h;obtain⟨l,g⟩:=hd.reads I i;obtain⟨n,j⟩:=a.reads I c;exact SeqAt.compareNe_reads g j b f (by omega) ⟨.bl (!PyData.eqv d e),H,I,rfl,q⟩
end
end L2
namespace L2
open PySem PySem.W PySem.Calls PyProof.Rows
def W7(K:Frag)(C:Addr):Bool:=match K.lookup C with
 | some ⟨c,_,.cls a,b⟩=>c==.type "type" && !a.hasDel&&a.hasDict&&(b.toList[4]?).join==some (.builtin "ValueError.__new__")&&!a.mro.isEmpty&&a.mro.contains (.ref C)&&a.mro.contains (.type "ValueError")&&a.mro.contains (.type "BaseException") &&
   !a.mro.contains (.type "AttributeError")&&!a.mro.contains (.type "NameError")&&specialIn K (.ref C) "__call__" == some (some (.builtin "type.__call__"))&&instIn K (.ref C) (.type "type")==some true
 | _=>false
structure MakesX(M:Model)(h:Heap)(C:Addr):Prop where
 obj:∃oc od cd sl,h.get? C=some ⟨oc,od,.cls cd,sl⟩/\cd.hasDel=false/\cd.mro.isEmpty=false
 made:Looks M h (Bind.madeBy (.ref C)) (some "ValueError.__new__")
 base:Looks M h (Bind.staticBase (.ref C)) (.ref C)
 self:Looks M h (isSubtype (.ref C) (.ref C)) true
 isV:Looks M h (isSubtype (.ref C) (.type "ValueError")) true
 isB:Looks M h (isSubtype (.ref C) (.type "BaseException")) true
 noA:Looks M h (isSubtype (.ref C) (.type "AttributeError")) false
 noN:Looks M h (isSubtype (.ref C) (.type "NameError")) false
 call:Looks M h (specialOf (.ref C) "__call__") (some (.builtin "type.__call__"))
 typ:Looks M h (isInstance (.ref C) (.type "type")) true
 ty:Looks M h (typeOf (.ref C)) (.type "type")
 isT:Looks M h (isType (.ref C)) true
theorem D3{K:Frag}{M:Model}{h:Heap}(X:K.In h){C:Addr}(e:W7 K C=true):MakesX M h C:=by
 unfold W7 at e;split at e
 case h_2=>cases e
 rename_i v od f D g;simp only[Gz,Ix,Jy]at e;obtain⟨⟨⟨⟨⟨⟨⟨⟨⟨⟨⟨F,x⟩,_⟩,t⟩,i⟩,u⟩,B⟩,y⟩,w⟩,z⟩,m⟩,j⟩:=e;have p:clsIn K C=some f:=by unfold clsIn;rw[g]
 have a:∀{b:Value}{r:Bool},f.mro.contains b=r->Looks M h (isSubtype (.ref C) b) r:=λ{b r} q=>looks_mroIn X (by unfold mroIn;rw[p,IY,if_neg (by rw[i];decide),q]);have n:Looks M h (mroOf (.ref C)) f.mro:=(looks_clsIn X p).andThen .now;obtain⟨c,l,o⟩:∃c l,f.mro=c::l:=by
  cases q:f.mro with
  | nil=>rw[q]at i;cases i
  | cons c l=>exact⟨c,l,rfl⟩
 have d:Looks M h (Bind.madeBy (.ref C)) (some "ValueError.__new__"):=λA Q E s k q=>by
  refine Gx (n A _ E s k ?_);rw[o,IP];refine Gx (Gx (Gx (Gx (KN (k _ _ (X _ _ g)) (Gy ?_)))));rw[<- Kt,t];exact Gy (Gy (Gy q))
 refine⟨⟨v,od,f,D,X _ _ g,x,i⟩,d,λA Q E s k q=>?_,a u,a B,a y,a w,a z,looks_specialIn X m,looks_instIn X j,?_,(Looks.ld (X _ _ g)).andThen .now⟩
 ·unfold Bind.staticBase;refine Gx (n A _ E s k ?_);rw[o,IP];exact Gx (Gx (Gx (d A _ E s k (Gy (Gy (Gy q))))))
 ·subst F;exact(Looks.ld (X _ _ g)).andThen .now
abbrev y9(C t:Addr):Obj:={ cls:=.ref C,data:=.fields #[.ref t,.none,.none,.none,.bool false,.none] }
abbrev C4(vs:List Value):Obj:={ cls:=.type "tuple",data:=.seq vs.toArray }
section
variable {prog:Program}{w:World}{A:Around}{K:Frag}{C:Addr}{R:Result->Shared->Prop}{h:Heap}{g:Array GenState}{d:Drawn}{t:Nat}{os:OsState}
theorem FO{rest:List Value}(Y:MakesX (model prog w) h C)(hrest:rest.length<=sizeLine)
  (hq:R (.ok (.ret (.ref (h.objs.size+1)))) ⟨(h.push (C4 rest)).push (y9 C h.objs.size),g,d,t,os⟩) :
  codeAny (model prog w) A (.call (.builtin "ValueError.__new__") ⟨.ref C::rest,[]⟩) R ⟨h,g,d,t,os⟩:=by
 obtain⟨⟨oc,od,cd,sl,hC,e1,e4⟩,made,base,self,isV,isB,noA,noN,call,typ,_,_⟩:=Y;have F:=KO;refine codeAny_call_builtin_code (Code.quiet_builtin _ F.quiet) ?_;simp only[checkBuiltinCall,F.newKind,F.newSplit,F.newRow];have here:Looks (model prog w) h (Bind.madeHere "ValueError.__new__" (.ref C)) ():=base.andThen (made.andThen (Looks.of_pure (by simp only[LC,KS,Jd,Kk])))
 repeat (first | simp only[KS,Jd,Kk] | lk)
 have here2:Looks (model prog w) h (Bind.madeHere "BaseException.__new__" (.ref C)) ():=base.andThen (made.andThen (Looks.of_pure (by simp only[LC,F.canon,KS,Jd,Kk])));have ends:=F.ends;refine codeAny_builtinAt F.entry (PySem.wpAt_bind ?_);show PySem.wpAt _ _ _ (stack >>= _) _ _ _;refine PySem.wpAt_bind (PySem.wpAt_stack λp below=>PySem.wpAt_of_wpAny ?_)
 wp_walk
 refine PySem.wpAt_of_wpAny ?_;rw[F.owner]
 repeat lk
 rw[if_neg (by rw[Hg];omega)];show wpAny _ _ (newObjAsIs _ _) _ _ _;have hC2:(h.push (C4 rest)).get? C=some ⟨oc,od,.cls cd,sl⟩:=Ha _ hC;have hC3:((h.push (C4 rest)).push (y9 C h.objs.size)).get? C=some ⟨oc,od,.cls cd,sl⟩:=Ha _ hC2;unfold newObjAsIs;refine Gx (wpAny_alloc (Gy (Gx ?_)));show wpAny _ _ (newObjAsIs _ _) _ _ _;unfold newObjAsIs classHasDel;refine Gx (wpAny_alloc (Gx (Gx (wpAny_load hC3 (Gy ?_)))));rw[e1];refine Gy (Gy ?_);show R _ _;rw[IA];exact hq
theorem Cr{c:List Value}{f:Addr}(Y:MakesX (model prog w) h C)(u:Looks (model prog w) h (typeLookup (.ref C) "__init__") (some (.ref f)))
  (G:∀i,Looks (model prog w) h (bindSpecial (.ref f) i) (.ref f,[i])) (j:c.length<=sizeLine)
  (B:codeAny (model prog w) (A.under (.builtin "type.__call__" ⟨.ref C::c,[]⟩)) (.call (.ref f) ⟨.ref (h.objs.size+1)::c,[]⟩) (InitBack (h.objs.size+1) R) ⟨(h.push (C4 c)).push (y9 C h.objs.size),g,d,t,os⟩) :
  codeAny (model prog w) A (.call (.ref C) ⟨c,[]⟩) R ⟨h,g,d,t,os⟩:=by
 have D:=Y;obtain⟨⟨L,od,s,O,q,M,I⟩,p,n,i,x,F,E,H,l,m,_,_⟩:=Y;refine LD ?_;refine nd_load q (show wpAny _ _ (callAny.viaDunder (.ref C) _) _ _ _ from ?_);refine Gx (l.at ?_);dsimp only;rw[tc_bind];refine Gx (Gy (Gx (Gy (Gy (a:=Fin.again (.call (.builtin "type.__call__") ⟨.ref C::c,[]⟩)) (And.intro rfl ?_)))));refine codeAny_call_builtin_at (Code.quiet_builtin _ (by decide +kernel)) entry_typeCall (check_slot tc_kind tc_split m (tc_args _ _ _) ?_);have J:Looks (model prog w) h (mroOf (.ref C)) s.mro:=((Looks.ld q).andThen .now).andThen .now
 repeat (first | simp only[I,Jd,Kk] | with_reducible refine JG ?_ | lk)
 refine FO D j ?_;have k:∀b o,h.get? b=some o->((h.push (C4 c)).push (y9 C h.objs.size)).get? b=some o:=λb o e=>Ha _ (Ha _ e);have y:((h.push (C4 c)).push (y9 C h.objs.size)).get? (h.objs.size+1)=some (y9 C h.objs.size):=by heap_get
 have Q:Looks (model prog w) ((h.push (C4 c)).push (y9 C h.objs.size)) (typeOf (.ref (h.objs.size+1))) (.ref C):=(Looks.ld y).andThen .now;have N:=i.keeps k;have P:=u.keeps k;have K:=(G (.ref (h.objs.size+1))).keeps k
 repeat (first | with_reducible refine JG ?_ | lk)
 refine IT B λr s' z=>?_;rcases r with e | (v | _ | _ | _) <;> first | exact z | exact z.elim | skip
 obtain⟨rfl,z⟩:=z;exact Gy (Gy z)
end
end L2
namespace L2
open PySem PySem.W PySem.Calls PyProof.Rows Builtin Builtin.ObjectAttr
theorem qE:builtinKind "BaseException.__getattribute__" = some .slot:=by decide +kernel
theorem mI:splitId "BaseException.__getattribute__" = some ("BaseException","__getattribute__"):=by decide +kernel
theorem lR:plainId "BaseException.__getattribute__" = true:=by decide +kernel
section
variable {prog:Program}{w:World}{A:Around}{R:Result->Shared->Prop}{s:Shared}{x:Addr}{name:Str}{t:Tok}
theorem rF(c:Looks (model prog w) s.heap (isInstance (.ref x) (.type "BaseException")) true)
  (h:wpAny (model prog w) A.in1 (Builtin.«object.__getattribute__» ⟨[.ref x,.str name t],[]⟩) (λa s'=>match a with | .done f=>R (.ok f) s' | .again b=>b.quiet=true/\codeAny (model prog w) A b R s') (λe s'=>R (.error e) s') s) :
  codeAny (model prog w) A (.call (.builtin "BaseException.__getattribute__") ⟨[.ref x,.str name t],[]⟩) R s:=
 JI lR PySem.F.entry_bexc_ga (@check_slot (model prog w) _ _ _ "BaseException.__getattribute__" "BaseException" "__getattribute__" (.ref x) [.str name t] [] _ qE mI c (PySem.F.args_bexc_ga (.ref x) (.str name t)) h)
end
section
variable {prog:Program}{w:World}{A:Around}{E:Value->Shared->Prop}{s:Shared}{K:Frag}{x C:Addr}{ox:Obj}{od:Option Obj}{name:Str}{expr:Bool}{Q:Value->Shared->Prop}
structure XCls(K:Frag)(C:Addr):Prop where
 ga:findIn K (.ref C) "__getattribute__" = some (some (.builtin "BaseException.__getattribute__"))
 gg:findIn K (.ref C) "__getattr__" = some none
 be:mroIn K C (.type "BaseException")=some true
 ob:mroIn K C (.type "object")=some true
 hd:hasDictIn K C=true
 cl:findIn K (.ref C) "__class__" = some (some (.builtin "object.__class__"))
 cg:specialIn K (.builtin "object.__class__") "__get__" = some (some (.builtin "getset_descriptor.__get__"))
 ct:takesIn K (.builtin "object.__class__")=some true
theorem zY{b:Bool}{t:Tok}(X:K.In s.heap)(I:InstAt s.heap x ox C od)(c:XCls K C)
  (h:wpAny (model prog w) A.in1 (Builtin.«object.__getattribute__» ⟨[.ref x,.str name t],[]⟩) (λa s'=>match a with | .done (.ret v)=>wpAny (model prog w) A (handedOut v) Q E s' | _=>False) (λ_ _=>False) s) :
  wpAny (model prog w) A (getAttrBy (.ref x) (.str name t) b expr) Q E s:=by
 obtain⟨l,g,d,p,n⟩:=s;have f:=I.type (M:=model prog w);have j:=looks_findIn (M:=model prog w) X c.ga;have o:=looks_findIn (M:=model prog w) X c.gg;have i:Looks (model prog w) l (isInstance (.ref x) (.type "BaseException")) true:=f.andThen (looks_mroIn X c.be);have k:=(PySem.F.attrBase_ValueError).ga.bind (.ref x);have e:(expr&&onTheHeap (Value.builtin "BaseException.__getattribute__"))=false:=by cases expr <;> rfl
 have m:(Value.builtin "BaseException.__getattribute__" == Value.builtin "object.__getattribute__")=false:=by decide +kernel
 refine HX (Gx (f.at (Gx (j.at ?_))))
 repeat (first | simp | lk)
 refine Lb (HX ?_);unfold callGetattribute;rw[e];refine Gx (Ky k ?_);refine JG (rF i ?_);refine Hy h (λa s' z=>?_) λ_ _ z=>z.elim;rcases a with (v | _ | _ | _) | _ <;> first | exact z | exact z.elim
theorem eK(a:XCls K C):findObj K C od "__class__" = some (.bind (.builtin "getset_descriptor.__get__") (.builtin "object.__class__")):=by
 obtain⟨c,b,_⟩:=any_some a.hd;unfold findObj;rw[b,IY,a.cl,IY];dsimp only;rw[a.cg,IY];dsimp only;rw[a.ct];rfl
theorem BS(X:K.In s.heap)(I:InstAt s.heap x ox C od)(a:XCls K C)(h:R (some (.ref C)) { s with toks:=s.toks+1 }):wpAny (model prog w) A (getAttr? (.ref x) "__class__") R E s:=by
 have e:=eK (od:=od) a;obtain⟨i,g,d,t,f⟩:=s;have b:=I.type (M:=model prog w);have c:=looks_find (M:=model prog w) X I e;refine Gx (wpAny_mkText (Gx (Lb (zY X I a ?_))));refine Gx (Gy (Gx (Gy (Gx (b.at (Gx (c.at ?_)))))));refine Gx (HX (JG (class_get X I a.ob ?_)));refine Gy ?_;exact handed_on rfl (Gy h)
theorem GJ(c:XCls K C):KitX K (.ref x) (.ref C) (λh=>∃ox od,InstAt h x ox C od) where
 ty:=λ_ _ _ ⟨_,_,I⟩=>I.type
 it:=λ_ _ X _=>by
  obtain⟨j,a,_⟩:=any_some c.hd;unfold clsIn at a;split at a
  ·rename_i m e d g f;exact λo r s s' k q=>by
    exact Gx (KN (k _ _ (X _ _ f)) (Gy q))
  ·cases a
 ne:=λh l p i n g X b=>by
  obtain⟨j,a,_⟩:=any_some c.hd;refine Bool.eq_false_iff.mpr λq=>?_;obtain rfl:C=l:=Value.ref.inj (Jy.mp q);unfold clsIn at a;split at a
  ·rename_i m e d g f;have z:=(X _ _ f).symm.trans b;cases z
  ·cases a
 ca:=λX ⟨_,_,I⟩ k=>BS X I c k
end
def z0:List Value->Bool
 | .ref _::r=>z0 r
 | l=>l==[.type "ValueError",.type "Exception",.type "BaseException",.type "object"]
theorem E5(a:Value):∀{l:List Value},z0 l=true->refuseLoop a "__setattr__" l=pure ()
 | .ref c::r,e=>by rw[refuseLoop_ref];exact E5 a e
 | [],e=>by cases e
 | .none::r,e=>by cases e
 | .type n::r,e=>by rw[Jy.mp e];exact PySem.F.store_ValueError.passes a
 | .bool _::_,e=>by cases e
 | .int _ _::_,e=>by cases e
 | .str _ _::_,e=>by cases e
 | .bytes _ _::_,e=>by cases e
 | .float _ _::_,e=>by cases e
 | .builtin _::_,e=>by cases e
 | .ellipsis::_,e=>by cases e
 | .notImplemented::_,e=>by cases e
section
variable {prog:Program}{w:World}{A:Around}{E:Value->Shared->Prop}{s:Shared}{K:Frag}{x C:Addr}{ox:Obj}{od:Option Obj}{name:Str}{R:Result->Shared->Prop}{v:Value}
theorem Cd(X:K.In s.heap)(I:InstAt s.heap x ox C od)(k:XCls K C)(o:(clsIn K C).any (λd=>z0 d.mro)=true)(j:findIn K (.ref C) name=some none)
  (h:∀b,wpAny (model prog w) A.in1 (storeInOwnDict (.ref x) (.ref C) (.str name tk) name v b) (λc s'=>match c with | .done f=>R (.ok f) s' | .again i=>i.quiet=true/\codeAny (model prog w) A i R s') (λe s'=>R (.error e) s') s) :
  codeAny (model prog w) A (.call (.builtin "object.__setattr__") ⟨[.ref x,.str name tk,v],[]⟩) R s:=by
 have a:=PySem.F.store_object;obtain⟨d,n,l⟩:=any_some o;have g:Looks (model prog w) s.heap (isInstance (.ref x) (.type "object")) true:=I.type.andThen (looks_mroIn X k.ob);have m:Looks (model prog w) s.heap (mroOf (.ref C)) d.mro:=(looks_clsIn X n).andThen .now;refine JI a.slot.plain a.entry (@check_slot (model prog w) _ _ s "object.__setattr__" "object" "__setattr__" (.ref x) [.str name tk,v] [] _ a.kind a.split g (a.args (.ref x) (.str name tk) v) ?_);rw[osa_eq,refuse_eq];refine Gx (Gx (I.type.here (Gx (m.here ?_))));rw[E5 _ l];exact Gy (Gx (I.type.here (Gx ((looks_findIn X j).here (Gx (Gy (h _)))))))
def tbV:Option Addr->Value
 | none=>.none
 | some T=>.ref T
def IsX(a:Option Addr)(h:Heap)(x C:Addr)(d:Option Addr):Prop:=∃vs,h.get? x=some { cls:=.ref C,dict:=d,data:=.fields vs }/\vs.size=6/\vs[1]?=some (tbV a)
theorem IsX.inst0(i:IsX fr h x C none):∃ox,InstAt h x ox C none:=by
 obtain⟨vs,e,_⟩:=i;exact⟨_,e,rfl,rfl,True.intro⟩
theorem IsX.inst1(i:IsX fr h x C (some d)){o:Obj}(hd:h.get? d=some o):∃ox,InstAt h x ox C (some o):=by
 obtain⟨vs,e,_⟩:=i;exact⟨_,e,rfl,rfl,hd⟩
theorem CK(X:K.In s.heap)(i:IsX fr s.heap x C none)(t:XCls K C)(B:(clsIn K C).any (λr=>z0 r.mro)=true)(hs:findIn K (.ref C) "__setattr__" = some (some (.builtin "object.__setattr__"))) (u:findIn K (.ref C) name=some none)
  (h:∀h' t',IsX fr h' x C (some s.heap.objs.size)->h'.Ns1 s.heap.objs.size (λy=>if y=name then some v else none)->(∀b o,b≠x->s.heap.get? b=some o->h'.get? b=some o)->Q () { s with heap:=h',toks:=t' }):wpAny (model prog w) A (setAttr (.ref x) name v) Q E s:=by
 obtain⟨ox,I⟩:=i.inst0;obtain⟨vs,a,hsz⟩:=i;obtain⟨r,D,hd⟩:=any_some t.hd;refine set_plain X I hs (Cd X I t B u λb=>?_);refine Gx (Gy (Gx (Gx (KN a (Gx (Looks.here (looks_clsIn X D) ?_))))));rw[hd];have f:=Hq (Hk a);have d:(s.heap.push { cls:=.type "dict",data:=.dict #[] }).get? x=some { cls:=.ref C,data:=.fields vs }:=Ha _ a;refine Gx (wpAny_alloc (Gx (wpAny_update d (Gy ?_))));have p:((s.heap.push { cls:=.type "dict",data:=.dict #[] }).update x λo=>{ cls:=o.cls,dict:=some s.heap.objs.size,data:=o.data,slots:=o.slots }).get? s.heap.objs.size=some { cls:=.type "dict",data:=.dict #[] }:=
  (JQ _ _ _ _ f.symm).trans (Heap.get?_push_at rfl rfl)
 have n:((s.heap.push { cls:=.type "dict",data:=.dict #[] }).update x λo=>{ cls:=o.cls,dict:=some s.heap.objs.size,data:=o.data,slots:=o.slots }).get? x=some { cls:=.ref C,dict:=some s.heap.objs.size,data:=.fields vs }:=
  HZ _ d rfl
 have m:∀b o,b≠x->s.heap.get? b=some o->((s.heap.push { cls:=.type "dict",data:=.dict #[] }).update x λo=>{ cls:=o.cls,dict:=some s.heap.objs.size,data:=o.data,slots:=o.slots }).get? b=some o:=
  λb o l e=>(JQ _ _ _ _ l).trans (Ha _ e)
 have q:((s.heap.push { cls:=.type "dict",data:=.dict #[] }).update x λo=>{ cls:=o.cls,dict:=some s.heap.objs.size,data:=o.data,slots:=o.slots }).Ns s.heap.objs.size (λ_=>none):=
  ⟨_,#[],_,p,rfl,λe F=>absurd F (by simp),λ_=>rfl⟩
 generalize ((s.heap.push { cls:=.type "dict",data:=.dict #[] }).update x λo=>{ cls:=o.cls,dict:=some s.heap.objs.size,data:=o.data,slots:=o.slots })=h1 at p n m q ⊢;refine Gx (Gy (Gx (wpAny_nsSet1 (Heap.Ns1.of_empty q) λh' c hs'=>?_)));obtain⟨H,G,z,g,j,k⟩:=c.count (Within.cons name v Within.nil);refine Gx (wpAny_lookBehind g (by rw[j];exact pastItsLine_dict (HJ k (by rw[Ic,LB,HB];omega))) (Gy ?_));exact h h' _ ⟨vs,(hs'.2 x f).trans n,hsz⟩ c λb o l e=>(hs'.2 b (Hq (Hk e))).trans (m b o l e)
theorem DR{d:Addr}{mA:Str->Option Value}{ns:List Str}(X:K.In s.heap)(i:IsX fr s.heap x C (some d))(hd:s.heap.Ns1 d mA)(o:d≠x)(l:XCls K C)(t:(clsIn K C).any (λm=>z0 m.mro)=true)(hs:findIn K (.ref C) "__setattr__" = some (some (.builtin "object.__setattr__"))) (n:findIn K (.ref C) name=some none)
  (u:Within mA ns) (hz:ns.length<=1000)
  (h:∀h' t',h'.Ns1 d (λy=>if y=name then some v else mA y)->Heap.SameBut d s.heap h'->Q () { s with heap:=h',toks:=t' }):wpAny (model prog w) A (setAttr (.ref x) name v) Q E s:=by
 obtain⟨od,e,z⟩:=cM hd;obtain⟨ox,I⟩:=i.inst1 e;obtain⟨vs,k,hsz⟩:=i;obtain⟨m,p,j⟩:=any_some l.hd;refine set_plain X I hs (Cd X I l t n λb=>?_);refine Gx (Gy (Gx (Gx (KN k (Gx (Looks.here (looks_clsIn X p) ?_))))));rw[j];refine Gy ?_;refine Gx (Gy (Gx (wpAny_nsSet1 hd λh' a hs'=>?_)));obtain⟨B,r,q,c,f,g⟩:=a.count (Within.cons name v u);refine Gx (wpAny_lookBehind c (by rw[f];exact pastItsLine_dict (HJ g (by rw[Ic,HB];omega))) (Gy ?_));exact h h' _ a hs'
end
section
variable {prog:Program}{w:World}{A:Around}{E:Value->Shared->Prop}{s:Shared}{K:Frag}{x C:Addr}{d:Option Addr}{R:Result->Shared->Prop}{y:Value}
theorem EG{l:Option Addr}(X:K.In s.heap)(i:IsX l s.heap x C d)(p:W7 K C=true)
  (h:∀h',(∀b o,b≠x->s.heap.get? b=some o->h'.get? b=some o)->IsX l h' x C d->R (.ok (.ret .none)) { s with heap:=h' }) :
  codeAny (model prog w) A (.call (.builtin "ValueError.__init__") ⟨[.ref x,y],[]⟩) R s:=by
 have F:=KO;obtain⟨vs,a,hsz,f⟩:=i;have n:Looks (model prog w) s.heap (typeOf (.ref x)) (.ref C):=(Looks.ld a).andThen .now;have Y:=D3 (M:=model prog w) X p;have g:Looks (model prog w) s.heap (isInstance (.ref x) (.type "ValueError")) true:=n.andThen Y.isV;obtain⟨v,t,u,B,z,_,_⟩:=Y.obj;have m:=F.noStar;refine JI F.init.plain F.initEntry ?_;simp only[checkBuiltinCall,F.initKind,F.initSplit,F.initRow];refine Gx (g.here ?_);simp only[Bool.not_true,Jd,Kk];have k:(s.heap.push { cls:=.type "tuple",data:=.seq #[y] }).get? x=some { cls:=.ref C,dict:=d,data:=.fields vs }:=Ha _ a;obtain⟨j,q⟩:∃j,vs[0]?=some j:=⟨vs[0]'(by omega),JM _⟩;have c:R (.ok (.ret .none)) { s with heap:=(s.heap.push { cls:=.type "tuple",data:=.seq #[y] }).update x (Obj.mapFields (·.setIfInBounds 0 (.ref s.heap.objs.size))) }:=by
  refine h _ (λb o r e=>(JQ _ _ _ _ r).trans (Ha _ e)) ⟨vs.setIfInBounds 0 (.ref s.heap.objs.size),HZ _ k rfl,?_⟩;rw[Array.size_setIfInBounds];exact⟨hsz,by rw[Array.getElem?_setIfInBounds_ne (by decide)];exact f⟩
 unfold Bind.checkArgs
 repeat lk
 rw[q];refine Gy (Gx (Jx k rfl (by omega) ?_));cases j <;> first | exact Gy (Gy c) | exact wpAny_letGo (Gy c)
end
end L2
namespace L2
open PySem PySem.Spec PyProof.Rows
def P5(a:Option Addr)(x C:Addr)(d:Option Addr):HO:=.ext λh=>IsX a h x C d
abbrev O3(x C:Addr)(d:Option Addr):HO:=P5 none x C d
def N5(d:Addr)(fs:List (Str×V)):HO:=.ext λh=>∃mA,h.Ns1 d mA/\(∀f,RelO (fs.lookup f) (mA f))/\PySem.Within mA (fs.map (·.1))/\fs.length<=900
theorem okX{h:Heap}{x C:Addr}{d:Option Addr}(i:IsX fr h x C d):ObjOk P w H h x (P5 fr x C d):=by
 obtain⟨vs,e,z⟩:=id i;refine⟨i,⟨_,e⟩,λf g ⟨a,c,b⟩ k=>⟨a,k _ c,b⟩⟩
theorem okD{mA:Str->Option Value}(n:h.Ns1 d mA)(r:∀f,RelO (fs.lookup f) (mA f))(g:PySem.Within mA (fs.map (·.1)))(l:fs.length<=900):ObjOk P w H h d (N5 d fs):=by
 obtain⟨o,es,p,e,q⟩:=id n;exact⟨⟨mA,n,r,g,l⟩,⟨o,e⟩,λm s ⟨a,i,j,b,c⟩ k=>⟨a,i.at k,j,b,c⟩⟩
structure XC(K:PySem.W.Frag)(C:Addr):Prop where
 xc:XCls K C
 ex:W7 K C=true
 vm:(PySem.W.clsIn K C).any (λcd=>z0 cd.mro)=true
 sa:PySem.W.findIn K (.ref C) "__setattr__" = some (some (.builtin "object.__setattr__"))
 kp:PySem.W.keepIn K (.ref C)=true
section
variable {X:Cx}{pins:List (Addr×Obj)}{σ:St}{H:Hp}{s:Shared}{x C:Addr}
theorem Inv.isX{a:Option Addr}{d:Option Addr}(I:Inv X pins σ H s)(e:H x=some (P5 a x C d)):IsX a s.heap x C d:=(I.hok x _ e).1
theorem Inv.isD(I:Inv X pins σ H s)(e:H d=some (N5 d fs)):∃mA,s.heap.Ns1 d mA/\(∀f,RelO (fs.lookup f) (mA f))/\PySem.Within mA (fs.map (·.1))/\fs.length<=900:=(I.hok d _ e).1
theorem Inv.madeX(I:Inv X pins σ H s):Inv X pins σ (upd H (s.heap.objs.size+1) (O3 (s.heap.objs.size+1) C none)) { s with heap:=(s.heap.push (C4 us)).push (y9 C s.heap.objs.size) }:=by
 have a:((s.heap.push (C4 us)).push (y9 C s.heap.objs.size)).get? (s.heap.objs.size+1)=some (y9 C s.heap.objs.size):=by
  have:=Hr (s.heap.push (C4 us)) (o:=y9 C s.heap.objs.size) rfl;rwa [IA]at this
 exact I.laid (λb u q=>Ha _ (Ha _ q)) (Ir _) (okX ⟨_,a,rfl,rfl⟩)
end
def Aj(C:Addr)(sp:Sp)(E:XK)(t:TA):TE:=λσ H Q=>t σ H λvs a=>vs.length<=1000/\∀x,a x=none->sp (.ref x::vs) (upd a x (O3 x C none)) (λv b=>v=.non/\Q (.ref x) b) E
section
variable {X:Cx}{CX:CXT}{k:Nat}{f C:Addr}{fd:FuncData}{ps:List Str}{sp:Sp}{E:XK}{nm:Str}{p pos:Pos}{e:Expr}{es:List Expr}{t:TA}
theorem aZ(M:XC X.K C)(hi:PySem.W.findIn X.K (.ref C) "__init__" = some (some (.ref f))) (hf:PySem.W.isFn X.K (.ref f)=true) (F:FnOk X.prog X.w X.K X.mg X.base CX k f fd ps sp) (hr:Room CX.q (k+1) X.A) (hg:Gl X nm) (hm:X.mg nm=some (.ref C)) (hb:Binds X.K fd ps []) (hx:C3 CX X E)
  (ha:PA X (e::es) t) (hdb:(nm==("__debug__" : Str))=false:=by decide) (he:starEach (e::es) X.env=(false,eval e X.env)::starEach es X.env:=by rfl) (hpl:(backTo pos (starEach es X.env)).any (·.1)=false:=by rfl) :
  PE X (.Call (.Name nm p) (e::es) [] pos) (Aj C sp E t):=by
 intro pins s σ H Q I h;refine Ii (D9 I hg hm ?_ hdb);refine Ka I.ok.mod.kin M.kp (thn (ha pos pins s σ H _ I h) λus s1 ⟨vs,H1,I1,r,hl,q⟩=>⟨I1.kIn,?_⟩) he hpl;have hq:=q (s1.heap.objs.size+1) (I1.hok.fresh (Ir _));have I2:=Inv.madeX (C:=C) (us:=us) I1;have r2:Vals (V.ref (s1.heap.objs.size+1)::vs) (Value.ref (s1.heap.objs.size+1)::us):=.cons rfl r;have hlen:(Value.ref (s1.heap.objs.size+1)::us++[]).length=ps.length:=by
  have e:=r2.length;rw[F.len _ _ _ _ hq]at e;simpa using e.symm
 have hus:us.length<=sizeLine:=by
  have:=r.length;have z:(1000:Nat)<=sizeLine:=by decide
  omega
 have hb2:=hb _ (Value.ref (s1.heap.objs.size+1)::us) I2.kIn hlen;rw[HU]at hb2;refine JG (Cr (D3 I1.kIn M.ex) (PySem.W.looks_findIn I1.kIn hi) (λself=>PySem.W.bind_fn I1.kIn self (Jy.mp hf)) hus
  (IT (F.run _ X.stack _ _ ⟨Value.ref (s1.heap.objs.size+1)::us,[]⟩ _ _ _ E (hr.make C us []) (I2.env0.make C us []) hb2 r2 hq) λr s' hq'=>?_))
 cases r with
 | error e=>exact hx pins σ _ _ e s' I2 hq'
 | ok fl=>
  cases fl with
  | ret u=>
   obtain⟨v,H',I3,rv,ev,q3⟩:=I2.after hq';subst ev;exact⟨rv,⟨V.ref (s1.heap.objs.size+1),H',I3,rfl,q3⟩⟩
  | next=>exact False.elim hq'
  | brk=>exact False.elim hq'
  | cont=>exact False.elim hq'
end
theorem rL{o:HO}(h:H x=some o):upd H x o=H:=funext λb=>by
 by_cases e:b=x
 ·subst e;rw[b9,h]
 ·rw[a9 e]
def Bf(K:PySem.W.Frag)(e g:TE)(f:Str):TS:=λD σ H=>g σ H λy b=>e σ b λc a=>∃x C,c=.ref x/\XC K C/\z9 K C f /\
 ((a x=some (O3 x C none)/\∀d,a d=none->D.nx σ (upd (upd a d (N5 d [(f,y)])) x (O3 x C (some d)))) \/
 ∃d fs,d≠x/\a x=some (O3 x C (some d))/\a d=some (N5 d fs)/\fs.length<900/\D.nx σ (upd a d (N5 d (K5 f y fs))))
section
variable {X:Cx}{o e value:Expr}{f:Str}{pos pos':Pos}{ta tv:TE}
theorem dB(ha:PE X o ta)(hv:PE X value tv)(hs:swapsWith value (some (.Attribute o f pos')) pos.line X.env=pure false):PS X (.Assign [.Attribute o f pos'] value pos) (Bf X.K ta tv f):=by
 intro pins s σ H D I h;refine plainObj_wpAny_Assign_Attribute (thn (hv pins s σ H _ I h) λu s1 ⟨y,H1,I1,ry,q⟩=>thn (ha pins s1 σ H1 _ I1 q) λov s2 ⟨xv,H2,I2,rx,x,C,ex,M,n,q2⟩=>?_) hs;subst ex;obtain rfl:ov=Value.ref x:=rx;rcases q2 with ⟨e0,q2⟩ | ⟨d,fs,hdx,e0,e1,hl,q2⟩
 ·have i0:=I2.isX e0;obtain⟨vs0,hx0,_⟩:=id i0;have nd:=I2.hok.fresh (Hd _);have hne:=Lv (Hk hx0);refine CK I2.kIn i0 M.xc M.vm M.sa n λh' t' i1 n1 k1=>?_;obtain⟨vs1,hx1,_⟩:=id i1;obtain⟨oD,esD,epD,hoD,rD⟩:=id n1;have m1:(h'.update x λ_=>{ cls:=.ref C,data:=.fields vs0 }).get? x=some { cls:=.ref C,data:=.fields vs0 }:=HZ _ hx1 rfl;have m2:∀b,b≠x->(h'.update x λ_=>{ cls:=.ref C,data:=.fields vs0 }).get? b=h'.get? b:=λb hb=>JQ _ _ _ _ hb;have I3:Inv X pins σ (upd H2 s2.heap.objs.size (N5 s2.heap.objs.size [(f,y)])) { s2 with heap:=h'.update x λ_=>{ cls:=.ref C,data:=.fields vs0 },toks:=t' }:=by
   refine I2.laid (λb ob e=>?_) (Hd _) (okD (n1.at λob e=>(m2 _ hne).trans e) (λg=>?_) (λg hg=>?_) (by show 1<=900;decide))
   ·by_cases hb:b=x
    ·subst hb;rw[hx0]at e;cases e;exact m1
    ·exact(m2 b hb).trans (k1 b ob hb e)
   ·show RelO (List.lookup g [(f,y)]) (if g=f then some u else none);rw[Jw,List.lookup_nil];by_cases q:g=f
    ·subst q;rw[if_pos rfl,show(g==g)=true from by simp];exact ry
    ·have:(g==f)=false:=by simpa using q
     rw[this,if_neg q];exact True.intro
   ·by_cases q:g=f
    ·subst q;exact Hf
    ·exact absurd (if_neg q) hg
  have I4:=I3.write (t':=t') (by rw[a9 hne.symm,e0];exact True.intro) (.inl rfl) (λb ob hb e=>((m2 b hb).symm.trans e)) ⟨_,hx1⟩ (okX i1);exact⟨σ,_,I4,q2 _ nd⟩
 ·obtain⟨mA,n0,r0,w0,l0⟩:=I2.isD e1;refine DR I2.kIn (I2.isX e0) n0 hdx M.xc M.vm M.sa n w0 (by rw[Hc];omega) λh' t' n1 sb=>?_;obtain⟨oD,esD,epD,hoD,rD⟩:=id n1;refine⟨σ,_,I2.write (by rw[e1];exact True.intro) (.inl rfl) (λb ob hb e=>(sb.2 b hb).trans e) ⟨_,hoD⟩ (okD n1 (λg=>?_) (λg hg=>?_) ?_),q2⟩
  ·show RelO ((K5 f y fs).lookup g) (if g=f then some u else mA g);rw[X6];by_cases q:g=f
   ·rw[if_pos q,if_pos q];exact ry
   ·rw[if_neg q,if_neg q];exact r0 g
  ·by_cases q:g=f
   ·rw[q];exact(W1 f y fs).1
   ·exact(W1 f y fs).2 g (w0 g λz=>hg (by show(if g=f then some u else mA g)=none;rw[if_neg q];exact z))
  ·have:=W5 f y fs;omega
def En:V->Option Value
 | .ref a=>some (.ref a)
 | .ty n=>some (.type n)
 | _=>none
theorem cI:p0 X (.builtin "isinstance") (λxs H Q=>∃g x C d y c b,xs=[.ref x,y]/\XC X.K C/\H x=some (P5 g x C d)/\(∀d',d=some d'->∃fs,H d'=some (N5 d' fs))/\En y=some c/\PySem.W.kitOne X.K (.ref C) c=some b/\Q (.bl b) H):=by
 intro pins s σ H xs us Q I r h;obtain⟨g,x,C,d,y,c,b,rfl,M,f,hd,i,o,q⟩:=h;obtain⟨u,k,rfl,l,e⟩:=eT r;cases (l);have m:k=c:=by
  cases y <;> first | (cases i;exact e) | cases i
 subst m;have J:∃ox od,PySem.W.InstAt s.heap x ox C od:=by
  cases d with
  | none=>obtain⟨ox,J⟩:=(I.isX f).inst0;exact⟨ox,_,J⟩
  | some d'=>
   obtain⟨fs,n⟩:=hd d' rfl;obtain⟨mA,j,_⟩:=I.isD n;obtain⟨od,a,_⟩:=cM j;obtain⟨ox,J⟩:=(I.isX f).inst1 a;exact⟨ox,_,J⟩
 exact IQ (GJ M.xc) I.kIn J o (λz=>nomatch z) λp=>⟨.bl b,H,I.tok _,rfl,q⟩
end
def TbO(T:Addr):HO:=.ext λh=>∃o a,h.get? T=some o/\o.data=.fields a/\3<a.size
theorem okT{o:Obj}{a:Array Value}(e:h.get? T=some o)(d:o.data=.fields a)(z:3<a.size):ObjOk P w H h T (TbO T):=
 ⟨⟨o,a,e,d,z⟩,⟨o,e⟩,λc b ⟨o,a,e,d,z⟩ k=>⟨o,a,k _ e,d,z⟩⟩
structure Fx(K:PySem.W.Frag)(H:Hp)(a C:Addr)(d tb:Option Addr):Prop where
 xc:XC K C
 at_:H a=some (P5 tb a C d)
 dc:∀d',d=some d'->d'≠a/\∃fs,H d'=some (N5 d' fs)
 tb_:∀T,tb=some T->T≠a/\H T=some (TbO T)
def Mv(H:Hp)(a C:Addr)(d:Option Addr)(H':Hp):Prop:=(∀b o,b≠a->H b=some o->H' b=some o)/\∃c,H' a=some (P5 c a C d)
section
variable {X:Cx}{pins:List (Addr×Obj)}{σ:St}{H:Hp}{s:Shared}{a C T:Addr}{d tb:Option Addr}{A:Around}{E:Value->Shared->Prop}{Q:Unit->Shared->Prop}
theorem Inv.slots(I:Inv X pins σ H s)(hs:Heap.SlotsOnly (frs X.stack) s.heap h'):Inv X pins σ H { s with heap:=h' }:=by
 have k:∀b u,H b≠none->s.heap.get? b=some u->h'.get? b=some u:=λb u n e=>(hs.2.1 b λz=>n (I.stkFree b z)).trans e;have f:Un (frs X.stack) [] H H s.heap h':=⟨λb o e _ g _=>(hs.2.1 b g).trans e,λb o e _ _ _=>hs.2.2 b o e,λ_ _ _ n _=>n,λb o e _=>let ⟨h,q⟩:=hs.2.2 b o e;⟨_,q⟩,λ_ _ e=>e,λ_ _ _ e=>e,λb ps e=>⟨#[],by rw[e];simp⟩⟩;have d:=λb u e=>(I.hok b u e).stay (λc v a q=>k c v (by
  rcases a with a | a
  ·rw[a,e];simp
  ·rw[a];simp) q) (λ_ q=>q) λ_ _ q=>q
 exact I.call f d I.bare λb z=>absurd z (by simp)
theorem Fx.isX(b:Fx X.K H a C d tb)(I:Inv X pins σ H s):IsX tb s.heap a C d:=I.isX b.at_
theorem Inv.setTb(I:Inv X pins σ H s)(e:H T=some (TbO T))(k:Inv X pins σ H { s with heap:=s.heap.update T (Obj.mapFields (·.setIfInBounds 3 v)) }->Q () { s with heap:=s.heap.update T (Obj.mapFields (·.setIfInBounds 3 v)) }) :
  wpAny (model X.prog X.w) A (setField (.ref T) 3 v) Q E s:=by
 obtain⟨o,g,c,f,z⟩:=(I.hok T _ e).1;refine Jx c f z (k ?_);have hd:=Obj.data_mapFields f (·.setIfInBounds 3 v);have d:=HZ (Obj.mapFields (·.setIfInBounds 3 v)) c (Obj.isFreed_of_fields hd);have a:=I.write (t':=s.toks) (by rw[e];exact True.intro) (.inl rfl) (λb u n q=>(Jz _ _ (Ne.symm n)).trans q) ⟨_,d⟩ (okT d hd (by simpa using z));rw[rL e]at a;exact a
theorem fO(I:Inv X pins σ H s)(r:A.frames=some X.stack)(i:X.stack=X.env::X.outer)(x:X.env.frame=some X.env.locals)(j:Fx X.K H a C d tb)
  (h:∀H' s' T,Inv X pins σ H' s'->Fx X.K H' a C d (some T)->Mv H a C d H'->Q () s') :
  wpAny (model X.prog X.w) A (do let B <- frameOf X.env;let pl <- entryPlaceOf X.env.locals hadNext;let b <- EntryCells.newEntry head B .none (rawInt X.env.locals) .none pl;setField (.ref a) 1 b) Q E s:=by
 have p:=I.stack;rw[i]at p r;refine Gx (wpAny_frameOf_fun r p x λc e=>?_);have v:=I.slots (by rw[i];exact e);refine Gx (wpAny_entryPlaceOf λpl l=>?_);refine Gx (HF ?_ (l.sizeOk5 _ _ _ _ _));have D:=Hr c (o:={ cls:=.type "traceback",dict:=none,data:=.fields ([head,.ref X.env.locals,.none,rawInt X.env.locals,.none]++(if pl.isEmpty then List.replicate 6 Value.none else pl)).toArray }) rfl;have m:=v.laid (t':=s.toks) (λb u q=>Ha _ q) (Hd _)
  (okT D rfl (by simp <;> omega))
 have k:=v.hok.fresh (Hd _);have f:c.objs.size≠a:=λz=>by rw[z,j.at_]at k;cases k
 have t:upd H c.objs.size (TbO c.objs.size) a=some (P5 tb a C d):=by rw[a9 f.symm];exact j.at_
 generalize (c.push { cls:=.type "traceback",dict:=none,data:=.fields ([head,.ref X.env.locals,.none,rawInt X.env.locals,.none]++(if pl.isEmpty then List.replicate 6 Value.none else pl)).toArray })=h₂ at m ⊢;obtain⟨vs,g,hsz,F⟩:=m.isX t;refine Jx g rfl (by omega) ?_;have w:=HZ (Obj.mapFields (·.setIfInBounds 1 (Value.ref c.objs.size))) g rfl;have y:=m.write (t':=s.toks) (o:=P5 (some c.objs.size) a C d) (by rw[t];exact True.intro) (.inl rfl)
  (λb u n q=>(Jz _ _ (Ne.symm n)).trans q) ⟨_,w⟩ (okX ⟨_,w,by simpa using hsz,by simp[tbV,hsz]⟩)
 refine h _ _ c.objs.size y ⟨j.xc,b9,λd' z=>?_,λT z=>?_⟩ ⟨λb o n q=>?_,_,b9⟩
 ·obtain⟨n,fs,q⟩:=j.dc d' z;exact⟨n,fs,by rw[a9 n,a9 (c6 q k)];exact q⟩
 ·cases z;exact⟨f,by rw[a9 f];exact b9⟩
 ·rw[a9 n,a9 (c6 q k)];exact q
theorem kN(I:Inv X pins σ H s)(i:A.frames=some X.stack)(f:X.stack=X.env::X.outer)(g:X.env.frame=some X.env.locals)(c:Fx X.K H a C d tb)
  (h:∀H' s' T,Inv X pins σ H' s'->Fx X.K H' a C d (some T)->Mv H a C d H'->Q () s'):wpAny (model X.prog X.w) A (noteFrame (.ref a) X.env) Q E s:=by
 obtain⟨vs,e,hsz,j⟩:=c.isX I;unfold noteFrame;simp only[g];cases tb with
 | none=>
  refine Gx (Iw e rfl j ?_);rw[if_neg (by decide)];exact fO I i f g c h
 | some T=>
  refine Gx (Iw e rfl (x:=.ref T) j ?_);rw[if_pos (show(Value.ref T != Value.none)=true from by simp)];obtain⟨t,k⟩:=c.tb_ T rfl;obtain⟨o,p,n,r,z⟩:=(I.hok T _ k).1;refine Gx (Iw n r (JM z) ?_);by_cases l:(p[3]==rawInt X.env.locals)=true
  ·rw[if_pos l];exact Gy (h H s T I c ⟨λb o _ q=>q,_,c.at_⟩)
  ·rw[if_neg l];exact Gx (I.setTb k λm=>fO m i f g c h)
theorem L6(I:Inv X pins σ H s)(c:Fx X.K H a C d (some T))(h:∀s',Inv X pins σ H s'->Q () s'):wpAny (model X.prog X.w) A (setFlight (.ref a) fl) Q E s:=by
 obtain⟨vs,b,hsz,f⟩:=c.isX I;refine Gx (Iw b rfl (x:=.ref T) f ?_);rw[if_pos (show(Value.ref T != Value.none)=true from by simp)];exact I.setTb (c.tb_ T rfl).2 λe=>h _ e
theorem hJ(I:Inv X pins σ H s)(f:A.frames=some X.stack)(c:X.stack=X.env::X.outer)(i:X.env.frame=some X.env.locals)(l:Fx X.K H a C d tb)
  (h:∀H' s' T,Inv X pins σ H' s'->Fx X.K H' a C d (some T)->Mv H a C d H'->Q () s'):wpAny (model X.prog X.w) A (leaving X.env (.ref a)) Q E s:=by
 exact Gx (kN I f c i l λg n T k b j=>L6 k b λm e=>h g m T e b j)
end
end L2
namespace L2
open PySem PySem.W PySem.Calls PySem.Spec PyProof.Rows
section
variable {prog:Program}{w:World}{A:Around}{E:Value->Shared->Prop}{s:Shared}{K:Frag}{env:PySem.Env}
theorem cw(m:A.handled=none)
  (h:wpAny (model prog w) A x (λv c=>∃a C d,v=.ref a/\K.In c.heap/\XC K C/\IsX none c.heap a C d/\E (.ref a) c) E s):wpAny (model prog w) A (raiseStmt env (some x) none) Q E s:=by
 refine Gx (Hy h (λv c i=>?_) λ_ _ x=>x);obtain⟨a,C,d,rfl,X,M,⟨vs,b,hsz,k⟩,l⟩:=i;have Y:=D3 (M:=model prog w) X M.ex;have e:Looks (model prog w) c.heap (typeOf (.ref a)) (.ref C):=(Looks.ld b).andThen .now;have f:Looks (model prog w) c.heap (isType (.ref a)) false:=(Looks.ld b).andThen .now;have g:Looks (model prog w) c.heap (isInstance (.ref a) (.type "BaseException")) true:=e.andThen Y.isB;have j:=Y.ty;refine Gx (Gy (Gx (HX (Gx (Gx (f.here ?_))))));refine Gy ?_;refine Gx (g.here ?_);refine Gy (Gx (f.here ?_));refine Gx (Gx (e.here (Gx (j.here ?_))));rw[if_pos (by rfl)];refine Gy (Gx (Gx (Iw b rfl k ?_)));rw[if_neg (by decide)];exact Gy (wpAny_raiseNew_none m l)
theorem iP{a C T:Addr}{d o:Option Addr}{b:Bool}{Q:Bool->Shared->Prop}(X:K.In s.heap)(M:XC K C)(l:XC K T)(i:IsX o s.heap a C d)(c:kitOne K (.ref C) (.ref T)=some b)(h:Q b s) :
  wpAny (model prog w) A (excMatches (.ref a) (.ref T)) Q E s:=by
 obtain⟨vs,g,hsz,p⟩:=i;have Y:=D3 (M:=model prog w) X M.ex;have f:=D3 (M:=model prog w) X l.ex;have n:Looks (model prog w) s.heap (typeOf (.ref a)) (.ref C):=(Looks.ld g).andThen .now;have k:Looks (model prog w) s.heap (isInstance (.ref T) (.type "tuple")) false:=f.ty.andThen (Looks.of_pure tc_notTuple);have m:Looks (model prog w) s.heap (isExcClass (.ref T)) true:=f.isT.andThen f.isB;have j:Looks (model prog w) s.heap (isSubtype (.ref C) (.ref T)) b:=by
  unfold kitOne at c;by_cases e:((Value.ref C:Value)==.ref T)=true
  ·rw[if_pos e]at c;cases c;cases (Lm e);exact Y.self
  ·rw[if_neg e]at c;exact(kit_cls X c).2.2
 refine Gx (k.here ?_);simp only[Jd,Kk];refine Gx (Gy ?_);rw[IP];refine Gx (Gx (Gx (m.here ?_)));refine Gy ?_;dsimp only;rw[JH];refine Gy (Gx (n.here ?_));rw[IP];refine Gx (Gx (Gx (j.here ?_)));cases b with
 | true=>exact Gy (Gy (Gy h))
 | false=>
  refine Gy ?_;dsimp only;rw[JH];exact Gy (Gy h)
end
end L2
namespace L2
open PySem PySem.Spec PyProof.Rows
def fC(X:Cx)(v:Value):Cx:={ X with A:=X.A.mark (some v),calm:=false,xe:=λ_ _=>False }
section
variable {X:Cx}{pins:List (Addr×Obj)}{σ:St}{H:Hp}{s:Shared}{v:Value}
theorem Inv.hushed(I:Inv X pins σ H s)(v:Value):Inv (fC X v) pins σ H s:=
 have a:=I.ok
 ⟨⟨a.mod,a.kind,a.glob,a.blt,a.above,a.inj,a.has,a.cab,λz=>absurd (show(false:Bool)=true from z) (by decide),a.frames,a.stk,a.exf,a.bs,a.bsz,a.noex,a.exfs,a.funs,a.frf⟩,I.os,I.bare,I.base,I.loc,I.cell,I.free,I.freeC,I.pin,I.hok,I.len⟩
theorem Inv.unhush(a:X.Ok)(I:Inv (fC X v) pins σ H s):Inv X pins σ H s:=⟨a,I.os,I.bare,I.base,I.loc,I.cell,I.free,I.freeC,I.pin,I.hok,I.len⟩
theorem Y7{M:Model}{A:Around}{E:Value->Shared->Prop}{i:Nat}{x:Str}{pos:Pos}{Q:Unit->Shared->Prop}(I:Inv X pins σ H s)(hN:X.N.Nodup)(hi:X.N[i]?=some x)(hk:X.env.scope.names.lookup x=some .local)
  (h:∀s',Inv X pins (σ.set i none) H s'->Q () s'):wpAny M A (do bindName X.env x .none;unbindBehindTheSuite X.env x pos) Q E s:=by
 obtain⟨m,hn,hl⟩:=id I.loc;have hcls:(X.env.scope.kind==.class||(X.env.scope.kind==.module&&X.env.locals != X.env.globals))=false:=by rw[I.ok.kind];rfl
 have hiσ:i<σ.length:=by rw[I.len];exact(Hb.mp hi).1
 have cne:=I.cne;refine wpAny_nameGoes_keeps hk hn hcls λh' v hn' hs=>?_;have tracked:HOk X.prog X.w H h':=λb ob e=>by
  refine(I.hok b ob e).stay (λc w' hc q=>(hs.2 c ?_).trans q) (λ_ q=>q) λ_ _ q=>q;rintro rfl;rcases hc with hc | hc
  ·rw[<- hc,I.free]at e;cases e
  ·rw[I.free]at hc;cases hc
 refine h _ ⟨I.ok,I.os,I.bare,⟨λb o e n hb hx=>?_,λb o e n hb hx=>?_,I.base.free,λb o e hx=>?_,I.base.tups,I.base.frzs,I.base.tbls⟩,⟨_,hn',λj y v' e1 e2 e3=>?_⟩,λy c e=>?_,I.free,I.freeC,λp hp=>?_,tracked,by simpa using I.len⟩
 ·exact(hs.2 b (Hq (Hx (Hk e) I.ok.above))).trans (I.base.keep b o e n hb hx)
 ·obtain⟨sl,e1⟩:=I.base.slot b o e n hb hx;exact⟨sl,(hs.2 b (Hq (Hx (Hk e) I.ok.above))).trans e1⟩
 ·obtain⟨o',e1⟩:=I.base.there b o e hx;exact⟨o',(hs.2 b (Hq (Hx (Hk e) I.ok.above))).trans e1⟩
 ·by_cases hj:j=i
  ·subst hj;rw[HV hiσ]at e2;cases e2
  ·rw[HP (Ne.symm hj)]at e2;obtain⟨u',r',q⟩:=hl j y v' e1 e2 e3;refine⟨u',r',?_⟩;rcases q with ⟨k,e⟩ | ⟨k,c,e,z⟩
   ·refine .inl ⟨k,?_⟩;have:y≠x:=λe=>hj (aF hN e1 (e▸hi));simp[this,e]
   ·exact .inr ⟨k,c,e,z.sameBut hs (cne y c e)⟩
 ·obtain⟨w',z⟩:=I.cell y c e;exact⟨w',z.sameBut hs (cne y c e)⟩
 ·obtain⟨e,n,ne,nf,d⟩:=I.pin p hp;exact⟨(hs.2 p.1 ne).trans e,n,ne,nf,d⟩
end
section
variable {X:Cx}{pins:List (Addr×Obj)}{σ:St}{H:Hp}{s:Shared}
theorem Ar(hg:X.A.guards=some [])(hu:X.A.units+80<cLine)(I:Inv X pins σ H s)(hd:DAt X.K H v d)(ru:RelV v u)(S:Shows d)(hl:d.shown.length<=4000)(hx:∀x,v=.str x->x.length<=4000) :
  wpAny (model X.prog X.w) X.A (formatField u Str.empty) (λz s'=>∃y t,z=.str y t/\y.length<=4000/\Inv X pins σ H s') E s:=by
 have sh:=S.sh;have sz:=S.sz;have big:(4000:Nat)<=sizeLine:=by decide
 cases hd with
 | non=>cases (ru);exact wpAny_formatField_none ⟨_,_,rfl,hl,I.tok _⟩
 | bl b=>cases (ru);exact wpAny_formatField_bool ⟨_,_,rfl,hl,I.tok _⟩
 | int i=>obtain⟨t,e⟩:=(ru);subst e;exact formatField_int_small (by simpa [PyData.showable] using sh) ⟨_,_,rfl,hl,I.tok _⟩
 | str x=>obtain⟨t,e⟩:=(ru);subst e;exact formatField_str (λt' tk=>⟨_,_,rfl,hx x rfl,I.tok _⟩) (HJ (hx x rfl) big)
 | lst h1 h2=>
  obtain⟨as,rr⟩:=DAt.reads I (.lst h1 h2) ru;obtain⟨a,rfl⟩:=isRef_of_reads rr rfl;exact formatField_of_reads rr sh (PyData.noDict_hsm S.nd) hg (by have:=S.dp;omega) (λ_ _ e=>e) (λh' u tk hk=>⟨_,_,rfl,hl,I.kept hk⟩) sz
 | tup h1 h2=>
  obtain⟨as,rr⟩:=DAt.reads I (.tup h1 h2) ru;obtain⟨a,rfl⟩:=isRef_of_reads rr rfl;exact formatField_of_reads rr sh (PyData.noDict_hsm S.nd) hg (by have:=S.dp;omega) (λ_ _ e=>e) (λh' u tk hk=>⟨_,_,rfl,hl,I.kept hk⟩) sz
end
theorem ag{Q c:Str->Shared->Prop}(k:∀out s,Q out s->c out s):∀(a:List (Sem Value)) (b:Str) (s:Shared),Joins M A E a b Q s->Joins M A E a b c s
 | [],b,s,h=>k _ _ h
 | x::r,b,s,h=>Hy h (λv d ⟨y,t,e,l,q⟩=>⟨y,t,e,l,ag k r _ d q⟩) λ_ _ z=>z
abbrev TF:=St->Hp->(Hp->Prop)->Prop
def PFs(X:Cx)(es:List Expr)(n:Nat)(t:TF):Prop:=
 ∀(a:Str) (pins:List (Addr×Obj)) (s:Shared) (σ:St) (H:Hp) (Q:Hp->Prop),a.length+n<=sizeLine->Inv X pins σ H s->t σ H Q ->
  Joins (model X.prog X.w) X.A X.xe (evalEach es X.env) a (λout b=>out.length<=sizeLine/\∃H',Inv X pins σ H' b/\Q H') s
def fNil:TF:=λ_ H Q=>Q H
def Fn(K:PySem.W.Frag)(te:TE)(t:TF):TF:=λσ H Q=>te σ H λv a=>∃d,DAt K a v d/\Shows d/\d.shown.length<=4000/\(∀x,v=.str x->x.length<=4000)/\t σ a Q
section
variable {X:Cx}{e:Expr}{es:List Expr}{n:Nat}{t:TF}{te:TE}{pos:Pos}
theorem iw:PFs X [] 0 fNil:=λa pins s σ H Q b I q=>⟨by omega,H,I,q⟩
theorem Z7(h:PFs X es n t)(c:x.length<=1000:=by decide):PFs X (.Constant (.str x) k pos::es) (1000+n) t:=λa pins s σ H Q b I q=>by
 refine Calls.Constant_str ⟨x,_,rfl,?_,?_⟩
 ·rw[Ld];omega
 ·exact h (a++x) pins _ σ H Q (by rw[Ld];omega) (I.tok _) q
theorem dF(o:X.A.guards=some [])(j:X.A.units+80<cLine)(g:PE X e te)(h:PFs X es n t):PFs X (.FormattedValue e (-1) none pos::es) (4000+n) (Fn X.K te t):=λa pins s σ H Q x I q=>by
 refine wpAny_FormattedValue_plain (thn (g pins s σ H _ I q) λu A ⟨v,m,i,l,d,hd,S,f,w,p⟩=>?_);refine thn (Ar o j i hd l S f w) λz b ⟨y,r,c,B,k⟩=>?_;refine⟨y,r,c,?_,?_⟩
 ·rw[Ld];omega
 ·exact h (a++y) pins b σ m Q (by rw[Ld];omega) k p
def tFs(t:TF):TE:=λσ H Q=>t σ H λH'=>∀z:Str,z.length<=sizeLine->Q (.str z) H'
theorem jV(h:PFs X (e::e2::es) n t)(f:n<=100000):PE X (.JoinedStr (e::e2::es) pos) (tFs t):=by
 intro pins s σ H Q I q;refine wpAny_JoinedStr ?_;have d:(100000:Nat)<=sizeLine:=by decide
 have a:=h Str.empty pins s σ H _ (by show 0+n<=sizeLine;omega) I q;exact ag (λout g ⟨l,H',c,b⟩=>⟨l,.str out,H',c.tok _,⟨_,rfl⟩,b out l⟩) _ _ _ a
theorem ff{f B:Addr}{fd:FuncData}{ps:List Str}{sp:Sp}{E:XK}{b m:Str}{p a:Pos}{pl:Sem Bool}{j:Value}{n:TA}
  (A:Gl X b) (z:X.mg b=some (.ref B)) (hs:PySem.W.specialIn X.K (.ref B) "__getattribute__" = some (some (.builtin "type.__getattribute__"))) (d:PySem.W.readsIn X.K B j=true) (y:PySem.W.findCls X.K (.ref B) j m=some (.val (.ref f))) (u:PySem.W.keepIn X.K (.ref f)=true)
  (F:FnOk X.prog X.w X.K X.mg X.base CX k f fd ps sp) (v:Room CX.q k X.A) (x:Binds X.K fd ps []) (C:C3 CX X E) (t:PA X (e::es) n)
  (g:(b==("__debug__" : Str))=false:=by decide) (c:starEach (e::es) X.env=(false,eval e X.env)::starEach es X.env:=by rfl) (i:(backTo pos (starEach es X.env)).any (·.1)=false:=by rfl)
  (w:eval (.Call (.Attribute (.Name b p) m a) (e::es) [] pos) X.env=(do
   let o <- eval (.Name b p) X.env
   standAt a.atName
   let (f,first) <- holding [o] (getMethod o m pl)
   callWith pos f first (backTo pos (starEach (e::es) X.env)) (backToKw pos (keywordEach [] X.env))):=by rfl) :
  PE X (.Call (.Attribute (.Name b p) m a) (e::es) [] pos) (sQ sp [] E n):=by
 intro pins s σ H Q I h;refine PySem.W.methodCall_KW (D9 I A z ?_ g) w;refine PySem.W.method_cls I.kIn hs (PySem.W.cls_value I.kIn d y rfl ?_);refine Ka I.ok.mod.kin u (thn (t pos pins _ σ H _ (I.tok _) h) λus G ⟨vs,D,l,r,q⟩=>⟨l.kIn,?_⟩) c i;exact ia F v x .nil C l r q
def As(K:PySem.W.Frag)(b:TA):TE:=λσ H Q=>b σ H λvs a=>∃x C d y,vs=[.ref x,y]/\XC K C/\a x=some (O3 x C d)/\Q .non a
theorem nl{p apos:Pos}{pl:Sem Bool}{ta:TA}(hg:Gl X "ValueError") (hm:X.mg "ValueError" = none) (hf:PySem.W.findCls X.K (.type "ValueError") (.type "type") "__init__" = some (.val (.builtin "ValueError.__init__"))) (ha:PA X (e::es) ta)
  (hst:starEach (e::es) X.env=(false,eval e X.env)::starEach es X.env:=by rfl) (hpl:(backTo pos (starEach es X.env)).any (·.1)=false:=by rfl)
  (ht:eval (.Call (.Attribute (.Name "ValueError" p) "__init__" apos) (e::es) [] pos) X.env=(do
   let ov <- eval (.Name "ValueError" p) X.env
   standAt apos.atName
   let (f,first) <- holding [ov] (getMethod ov "__init__" pl)
   callWith pos f first (backTo pos (starEach (e::es) X.env)) (backToKw pos (keywordEach [] X.env))):=by rfl) :
  PE X (.Call (.Attribute (.Name "ValueError" p) "__init__" apos) (e::es) [] pos) (As X.K ta):=by
 intro pins s σ H Q I h;refine PySem.W.methodCall_KW (pl:=pl) (B7 I hg hm (show bootBuiltins "ValueError" = some (.type "ValueError") by rfl) ?_) ht;obtain⟨m,hfr⟩:=I.fr;refine PySem.W.method_type hfr I.ok.mod.kin (by rfl) (by decide +kernel) hf rfl ?_;refine Ju (thn (ha pos pins _ σ H _ (I.tok _) h) λus s1 ⟨vs,H1,I1,r,x,C,d,y,ev,M,e0,q⟩=>?_) hst hpl;subst ev;obtain⟨u,u2,rfl,ru,ru2⟩:=eT r;cases (show u=Value.ref x from ru);refine JG (EG I1.kIn (I1.isX e0) M.ex λh' k1 i1=>?_);obtain⟨vs1,hx1,_⟩:=id i1;have I2:=I1.write (h':=h') (t':=s1.toks) (x:=x) (e:=x) (o:=O3 x C d) (by rw[e0];exact True.intro) (.inl rfl) (λb ob hb z=>k1 b ob hb z) ⟨_,hx1⟩ (okX i1);rw[rL e0]at I2;exact⟨.non,H1,I2,rfl,q⟩
end
end L2
namespace Hn
open PySem L2
def spHE(K:PySem.W.Frag):Sp:=λvs H Q _=>∃(x:Addr) (y:V) (C:Addr) (d:Option Addr),vs=[.ref x,y]/\XC K C/\H x=some (O3 x C d)/\Q .non H
structure Fmt(K:PySem.W.Frag)(H:Hp)(v:V)(d:PyData):Prop where
 at_:DAt K H v d
 sh:Shows d
 l1:d.shown.length<=4000
 l2:∀x,v=.str x->x.length<=4000
def Got(H:Hp)(x C:Addr)(fs:List (Str×V))(H':Hp):Prop:=∃d,H d=none/\d≠x/\H' x=some (O3 x C (some d))/\H' d=some (N5 d fs)/\∀b,b≠x->b≠d->H' b=H b
def sp1(K:PySem.W.Frag)(f:Str):Sp:=λvs H Q _=>∃(x:Addr) (v:V) (C:Addr) (a:PyData),vs=[.ref x,v]/\XC K C/\z9 K C f/\H x=some (O3 x C none)/\Fmt K H v a/\∀H',Got H x C [(f,v)] H'->Q .non H'
def sp2(K:PySem.W.Frag)(f g:Str):Sp:=λvs H Q _=>∃(x:Addr) (v u:V) (C:Addr) (a b:PyData),vs=[.ref x,v,u]/\XC K C/\z9 K C f/\z9 K C g/\H x=some (O3 x C none)/\Fmt K H v a/\Fmt K H u b /\
 ∀H',Got H x C [(f,v),(g,u)] H'->Q .non H'
structure TxE(K:PySem.W.Frag)(mg:Str->Option Value)(B fB:Addr):Prop where
 mV:mg "ValueError" = none
 fV:PySem.W.findCls K (.type "ValueError") (.type "type") "__init__" = some (.val (.builtin "ValueError.__init__"))
 mB:mg "HandError" = some (.ref B)
 sB:PySem.W.specialIn K (.ref B) "__getattribute__" = some (some (.builtin "type.__getattribute__"))
 rB:PySem.W.readsIn K B (.type "type")=true
 cB:PySem.W.findCls K (.ref B) (.type "type") "__init__" = some (.val (.ref fB))
 kB:PySem.W.keepIn K (.ref fB)=true
theorem vf(v u:V):K5 ("at" : Str) u ([("word",v)]:List (Str×V))=([("word",v),("at",u)]:List (Str×V)):=by
 show(if ("word" : Str) = "at" then [(("word" : Str),u)]else (("word" : Str),v)::K5 "at" u [])=([("word",v),("at",u)]:List (Str×V));rw[if_neg (by decide +kernel)];rfl
section
variable {K:PySem.W.Frag}
theorem Fmt.laid{v:V}{d:PyData}(h:Fmt K H v d)(a:H x=none):Fmt K (upd H x o) v d:=⟨h.at_.keeps (Keeps.laid a),h.sh,h.l1,h.l2⟩
end
end Hn
namespace HT
open PySem PySem.Spec PyProof.Rows
section
variable {prog:Program}{w:World}{A:Around}{E:Value->Shared->Prop}{s:Shared}{Q:Int->Shared->Prop}
theorem ku(h:Q (reduceHash 4238894112) { s with toks:=s.toks+1 }):wpAny (model prog w) A (pyHash .none) Q E s:=by
 refine W.pyHash_slot rfl F.slot_NoneType_hash F.entry_NoneType_hash (F.args_NoneType_hash_1 _) (by decide) (.inl rfl) ?_
 wp_walk
 exact⟨_,_,rfl,h⟩
theorem lT(b:Bool)(h:Q (hashInt (if b then 1 else 0)) { s with toks:=s.toks+1 }):wpAny (model prog w) A (pyHash (.bool b)) Q E s:=by
 refine W.pyHash_slot rfl F.slot_bool_hash F.entry_int_hash (F.args_int_hash_1 _) (by decide) (.inl rfl) ?_;cases b
 ·wp_walk
  exact⟨_,_,rfl,h⟩
 ·wp_walk
  exact⟨_,_,rfl,h⟩
end
mutual
noncomputable def kDHt:PyData->Bool
 | .none=>true
 | .bool _=>true
 | .int _=>true
 | .str _=>true
 | .tuple ds=>kDsHt ds
 | .list _=>false
 | .dict _=>false
noncomputable def kDsHt:List PyData->Bool
 | []=>true
 | d::ds=>kDHt d&&kDsHt ds
end
mutual
noncomputable def nrmHt:PyData->PyData
 | .bool b=>.int (if b then 1 else 0)
 | .tuple ds=>.tuple (nrmsHt ds)
 | .none=>.none
 | .int i=>.int i
 | .str x=>.str x
 | .list ds=>.list ds
 | .dict ds=>.dict ds
noncomputable def nrmsHt:List PyData->List PyData
 | []=>[]
 | d::ds=>nrmHt d::nrmsHt ds
end
mutual
noncomputable def hTHt(w:World):PyData->Int
 | .none=>reduceHash 4238894112
 | .bool b=>hashInt (if b then 1 else 0)
 | .int i=>hashInt i
 | .str x=>hashStr w x
 | .tuple ds=>reduceHash (Builtin.Tuple.tupleHashOf (B3 w ds))
 | .list _=>0
 | .dict _=>0
noncomputable def B3(w:World):List PyData->List Int
 | []=>[]
 | d::ds=>hTHt w d::B3 w ds
end
mutual
noncomputable def fw:PyData->Nat
 | .tuple ds=>N2 ds+1
 | _=>1
noncomputable def N2:List PyData->Nat
 | []=>0
 | d::ds=>fw d+N2 ds
end
section
variable {prog:Program}{w:World}{E:Value->Shared->Prop}
def HA(prog:Program)(w:World)(E:Value->Shared->Prop)(d:PyData):Prop:=∀(v:Value)(a:List Addr)(A:Around)(s:Shared)(Q:Int->Shared->Prop),kDHt d=true->Reads s.heap v d a->A.units+d.depth<cLine->Q (hTHt w d) { s with toks:=s.toks+fw d }->wpAny (model prog w) A (pyHash v) Q E s
theorem oQ:∀(ds:List PyData)(_:∀d∈ds,HA prog w E d)(vs:List Value)(a:List Addr)(A:Around)(s:Shared)(hs:Array Int)(Q:Array Int->Shared->Prop),kDsHt ds=true->ReadsAll s.heap vs ds a->A.units+PyData.depthAll ds<cLine->Q (hs++(B3 w ds).toArray) { s with toks:=s.toks+N2 ds }->wpAny (model prog w) A (forIn vs hs λx hs=>do
   let h <- pyHash x
   pure (ForInStep.yield (hs.push h))) Q E s:=by
 intro ds;induction ds with
 | nil=>
  intro _ vs a A s hs Q _ r _ h;cases r;rw[JH];refine Gy ?_;have:hs++(B3 w []).toArray=hs:=by rw[B3];apply Array.ext';simp
  rw[this]at h;exact h
 | cons d ds c=>
  intro hd vs a A s hs Q k r f h;rw[kDsHt,Gz]at k;rw[PyData.depthAll]at f;cases r with
  | cons g i=>
   rw[IP];refine Gx (Gx (hd d (Hf ..) _ _ A s _ k.1 g (by omega) (Gy ?_)));refine c (λe j=>hd e (Hh _ j)) _ _ A _ _ _ k.2 i (by omega) ?_;have e:hs.push (hTHt w d)++(B3 w ds).toArray=hs++(B3 w (d::ds)).toArray:=by
    rw[B3];apply Array.ext';simp
   rw[e];have b:s.toks+fw d+N2 ds=s.toks+N2 (d::ds):=by rw[N2,Nat.add_assoc]
   rw[b];exact h
theorem oN(ih:∀d∈ds,HA prog w E d):HA prog w E (.tuple ds):=by
 intro v as A s Q k r hu h;rw[kDHt]at k;rw[PyData.depth]at hu;cases r with
 | tuple e1 e2 e3 r=>
  rename_i a o vs n;refine W.pyHash_slot ⟨o,e1,e2⟩ F.slot_tuple_hash F.entry_tuple_hash (F.args_tuple_hash_1 _) (by decide) (.inr (by omega)) ?_;have t1:s.heap.IsTuple a vs:=⟨o,e1,e2,n,e3⟩;obtain⟨cls,dict,data,slots⟩:=o;subst e2 e3;generalize hp:pyHash=pI
  wp_walk
  subst hp;show wpAny _ _ (forIn vs (#[]:Array Int) λx hs=>do
   let h <- pyHash x
   pure (ForInStep.yield (hs.push h))) _ _ _
  rw[<- Array.forIn_toList];refine oQ ds ih vs.toList as A.in1 s #[] _ k r (by show A.units+1+_<_;omega) ?_
  wp_walk
  refine⟨_,_,rfl,?_⟩;have e:(#[]++(B3 w ds).toArray).toList=B3 w ds:=by simp
  rw[e];exact h
theorem kK:∀(n:Nat)(d:PyData),sizeOf d<n->HA prog w E d
 | 0,_,h=>by omega
 | n+1,d,hn=>by
  cases d with
  | none=>intro v as A s Q k r hu h;cases r;exact ku h
  | bool b=>intro v as A s Q k r hu h;cases r;exact lT b h
  | int i=>intro v as A s Q k r hu h;cases r;exact wpAny_pyHash_int h
  | str x=>intro v as A s Q k r hu h;cases r;exact wpAny_pyHash_str h
  | tuple ds=>
   refine oN λd hd=>kK n d ?_;have:=List.sizeOf_lt_of_mem hd;simp at hn;omega
  | list _=>intro v as A s Q k;cases k
  | dict _=>intro v as A s Q k;cases k
def QA(prog:Program)(w:World)(E:Value->Shared->Prop)(d:PyData):Prop:=∀(n:Nat)(v:Value)(a:List Addr)(A:Around)(s:Shared)(Q:Bool->Shared->Prop),kDHt d=true->Reads s.heap v d a->d.depth<n->Q true s->wpAny (model prog w) A (eqIsQuiet n v) Q E s
theorem kr:∀(ds:List PyData)(_:∀d∈ds,QA prog w E d)(n:Nat)(vs:List Value)(a:List Addr)(A:Around)(s:Shared)(Q:Option Bool×Unit->Shared->Prop),kDsHt ds=true->ReadsAll s.heap vs ds a->PyData.depthAll ds<n->Q (none,()) s->wpAny (model prog w) A (forIn vs ((none,()):Option Bool×Unit) λy _=>do
   let q <- eqIsQuiet n y
   if (!q)=true then pure (ForInStep.done (some false,()))else pure (ForInStep.yield (none,()))) Q E s:=by
 intro ds;induction ds with
 | nil=>
  intro _ n vs a A s Q _ r _ h;cases r;rw[JH];exact Gy h
 | cons d ds b=>
  intro hd n vs a A s Q k r c h;rw[kDsHt,Gz]at k;rw[PyData.depthAll]at c;cases r with
  | cons f g=>
   rw[IP];refine Gx (Gx (hd d (Hf ..) n _ _ A s _ k.1 f (by omega) ?_));rw[if_neg (by decide)];exact Gy (b (λe i=>hd e (Hh _ i)) n _ _ A s Q k.2 g (by omega) h)
theorem mG(ih:∀d∈ds,QA prog w E d):QA prog w E (.tuple ds):=by
 intro n v as A s Q k r hu h;rw[kDHt]at k;rw[PyData.depth]at hu;cases r with
 | tuple e1 e2 e3 r=>
  rename_i a o vs m;obtain⟨n,rfl⟩:∃n',n=n'+1:=⟨n-1,by omega⟩;rw[eqIsQuiet.eq_2];have t1:s.heap.IsTuple a vs:=⟨o,e1,e2,m,e3⟩;have ty:s.TypeIs (.ref a) "tuple":=⟨o,e1,e2⟩;generalize hp:eqIsQuiet n=pI;refine Gx (LF ty F.slot_tuple_eq.lookup ?_);refine Gx (wpAny_isInstance ty F.sub_tuple_tuple ?_);rw[if_neg (by decide)];have e5:wpAny (model prog w) A (seqItems? (.ref a)) (λr s'=>r=some vs/\s'=s) E s:=by
   obtain⟨cls,dict,data,slots⟩:=o;subst e2 e3
   wp_walk
   exact⟨rfl,rfl⟩
  refine Gx (Hy e5 (λr s' ⟨er,es⟩=>?_) λ_ _ z=>z);subst er es;refine Gx ?_;subst hp;rw[<- Array.forIn_toList];exact kr ds ih n vs.toList as A s' _ k r (by omega) (Gy h)
theorem fP:∀(n:Nat)(d:PyData),sizeOf d<n->QA prog w E d
 | 0,_,h=>by omega
 | n+1,d,hn=>by
  cases d with
  | none=>intro m v as A s Q k r hu h;cases r;rw[Km m rfl];exact Gy h
  | bool b=>intro m v as A s Q k r hu h;cases r;rw[Km m rfl];exact Gy h
  | int i=>intro m v as A s Q k r hu h;cases r;rw[Km m rfl];exact Gy h
  | str x=>intro m v as A s Q k r hu h;cases r;rw[Km m rfl];exact Gy h
  | tuple ds=>
   refine mG λd hd=>fP n d ?_;have:=List.sizeOf_lt_of_mem hd;simp at hn;omega
  | list _=>intro m v as A s Q k;cases k
  | dict _=>intro m v as A s Q k;cases k
end
mutual
theorem pG(w:World):∀d:PyData,hTHt w (nrmHt d)=hTHt w d
 | .none=>rfl
 | .bool b=>rfl
 | .int i=>rfl
 | .str x=>rfl
 | .tuple ds=>by rw[nrmHt,hTHt,hTHt,jW w ds]
 | .list _=>rfl
 | .dict _=>rfl
theorem jW(w:World):∀ds:List PyData,B3 w (nrmsHt ds)=B3 w ds
 | []=>rfl
 | d::ds=>by rw[nrmsHt,B3,B3,pG w d,jW w ds]
end
mutual
theorem sY:∀d:PyData,fw (nrmHt d)=fw d
 | .none=>rfl
 | .bool b=>rfl
 | .int i=>rfl
 | .str x=>rfl
 | .tuple ds=>by rw[nrmHt,fw,fw,jh ds]
 | .list _=>rfl
 | .dict _=>rfl
theorem jh:∀ds:List PyData,N2 (nrmsHt ds)=N2 ds
 | []=>rfl
 | d::ds=>by rw[nrmsHt,N2,N2,sY d,jh ds]
end
noncomputable instance decPHt:DecidableEq PyData:=λ_ _=>Classical.propDecidable _
mutual
theorem jp:∀d e:PyData,kDHt d=true->kDHt e=true->(d.eqv e=true↔nrmHt d=nrmHt e)
 | d,e,h1,h2=>by
  cases d with
  | none=>cases e with
   | bool b=>cases b <;> simp[PyData.eqv,nrmHt]
   | _=>simp[PyData.eqv,nrmHt]
  | bool a=>cases e with
   | bool b=>cases a <;> cases b <;> simp[PyData.eqv,nrmHt]
   | _=>cases a <;> first | (simp[PyData.eqv,nrmHt];done) | (simp[PyData.eqv,nrmHt];exact eq_comm)
  | int i=>cases e with
   | bool b=>cases b <;> first | (simp[PyData.eqv,nrmHt];done) | (simp[PyData.eqv,nrmHt];exact eq_comm)
   | _=>simp[PyData.eqv,nrmHt]
  | str x=>cases e with
   | bool b=>cases b <;> simp[PyData.eqv,nrmHt]
   | _=>simp[PyData.eqv,nrmHt]
  | tuple ds=>cases e with
   | tuple es=>
    rw[kDHt]at h1 h2;have:=fA ds es h1 h2;simp only[PyData.eqv,nrmHt,PyData.tuple.injEq];exact this
   | bool b=>cases b <;> simp[PyData.eqv,nrmHt]
   | _=>simp[PyData.eqv,nrmHt]
  | list _=>cases h1
  | dict _=>cases h1
theorem fA:∀ds es:List PyData,kDsHt ds=true->kDsHt es=true->(PyData.eqvAll ds es=true↔nrmsHt ds=nrmsHt es)
 | [],[],_,_=>by simp[PyData.eqvAll]
 | [],_::_,_,_=>by simp[PyData.eqvAll,nrmsHt]
 | _::_,[],_,_=>by simp[PyData.eqvAll,nrmsHt]
 | d::ds,e::es,h1,h2=>by
  rw[kDsHt,Gz]at h1 h2;simp only[PyData.eqvAll,Gz,nrmsHt,List.cons.injEq];rw[jp d e h1.1 h2.1,fA ds es h1.2 h2.2]
end
section
variable {h h':Heap}{x:Addr}{o:Obj}{es:Array DictEntry}{ep:Nat}(ho:h.get? x=some o)(hd:o.data=.dict es ep)(hs:Heap.SameBut x h h')
include ho hd hs
mutual
theorem aX:∀(d:PyData)(v:Value)(as:List Addr),kDHt d=true->Reads h v d as->Reads h' v d as
 | d,v,as,k,r=>by
  cases d with
  | none=>cases r;exact .none
  | bool b=>cases r;exact .bool b
  | int i=>cases r;exact .int i _
  | str s=>cases r;exact .str s _
  | tuple ds=>
   rw[kDHt]at k;cases r with
   | tuple e1 e2 e3 r=>
    rename_i a ob vs n;have ne:a≠x:=λz=>by
     subst z;rw[ho]at e1;cases e1;rw[hd]at e3;cases e3
    exact .tuple ((hs.2 a ne).trans e1) e2 e3 (X2 ds _ _ k r)
  | list _=>cases k
  | dict _=>cases k
theorem X2:∀(ds:List PyData)(vs:List Value)(as:List Addr),kDsHt ds=true->ReadsAll h vs ds as->ReadsAll h' vs ds as
 | [],vs,as,k,r=>by cases r;exact .nil
 | d::ds,vs,as,k,r=>by
  rw[kDsHt,Gz]at k;cases r with
  | cons r1 r2=>exact .cons (aX d _ _ k.1 r1) (X2 ds _ _ k.2 r2)
end
end
def keyK(prog:Program)(w:World):HeapKind prog w PyData where
 is h k a:=∃d as,Reads h (.ref a) d as/\kDHt d=true/\d.canLay0=true/\d.depth<=6/\nrmHt d=k
 hash k:=hTHt w k
 draws k:=fw k
 room A:=A.units+8<cLine
 inj:=by
  rintro h a x y ⟨d,as,r,_,_,_,rfl⟩ ⟨e,bs,r2,_,_,_,rfl⟩;rw[Reads.unique r _ _ r2 |>.1]
 keeps:=by
  rintro h h' k a d o es ep ⟨p,as,r,k1,k2,k3,rfl⟩ ho hd hs;exact⟨p,as,aX ho hd hs p _ _ k1 r,k1,k2,k3,rfl⟩
 pyHash:=by
  rintro A E s k a Q hu ⟨p,as,r,k1,k2,k3,rfl⟩ q;rw[pG,sY]at q;exact kK (sizeOf p+1) p (HS _) _ as A s Q k1 r (by omega) q
 eqBool:=by
  rintro A E s x y a b Q hu ⟨p,as,r,k1,k2,k3,rfl⟩ ⟨e,bs,r2,l1,l2,l3,rfl⟩ q;refine SeqAt.eqBoolOverData prog w A E s _ _ p e as bs Q r r2 k2 l2 (by omega) ?_;have:p.eqv e=decide (nrmHt p=nrmHt e):=by
   rw[II,Hw];exact jp p e k1 l1
  rw[this];exact q
 quiet:=by
  rintro A E s k a Q ⟨p,as,r,k1,k2,k3,rfl⟩ q;exact fP (sizeOf p+1) p (HS _) 8 _ as A s Q k1 r (by omega) q
end HT
namespace L3
open PySem PySem.Spec PyProof.Rows L2
inductive D where
 | non | bl (b:Bool) | int (i:Int) | str (x:Str) | tup (ds:List D) | lst (ds:List D) | scr (ds:List D) | ref (n:Nat)
inductive O where
 | lst (ds:List D) | dct (kvs:List (Key×D)) | exc (c:Nat) (fs:List (Str×D)) | dcT (kvs:List (D×D))
structure ClW where
 f:Nat->Addr
 w:World
instance:CoeFun ClW (λ_=>Nat->Addr):=⟨ClW.f⟩
def DE(a:Addr)(es:List DictEntry):HO:=.ext λh=>∃o ep,h.get? a=some o/\o.ExactDict/\o.data=.dict es.toArray ep/\ep=es.length
mutual
noncomputable def kP:D->Option PyData
 | .non=>some .none
 | .bl b=>some (.bool b)
 | .int i=>some (.int i)
 | .str x=>some (.str x)
 | .tup ds=>(kPs ds).map .tuple
 | .lst _=>none
 | .scr _=>none
 | .ref _=>none
noncomputable def kPs:List D->Option (List PyData)
 | []=>some []
 | d::ds=>match kP d,kPs ds with
  | some p,some ps=>some (p::ps)
  | _,_=>none
end
def w8(d:D):Option PyData:=match kP d with
 | some (.tuple ps)=>if (PyData.tuple ps).canLay0=true/\(PyData.tuple ps).depth<=6 then some (HT.nrmHt (.tuple ps))else none
 | _=>none
def oT(kvs:List (D×D)):Prop:=kvs.length<=sizeLine/\(kvs.map λp=>w8 p.1).Nodup
abbrev Sto:=List O
inductive R(α:Type) where
 | ok (a:α) (S:Sto) | exn (n:Nat) (S:Sto) | bad
abbrev M(α:Type):=Sto->R α
def ret{b:Type}(a:b):M b:=λS=>.ok a S
def bad{a:Type}:M a:=λ_=>.bad
def bind{c b:Type}(m:M c)(k:c->M b):M b:=λS=>match m S with
 | .ok a S'=>k a S'
 | .exn n S'=>.exn n S'
 | .bad=>.bad
abbrev Env:=List (Option D)
structure Mp where
 pl:List Addr
 rs:List Addr
def Mp.push(μ:Mp)(p:Addr):Mp:=⟨μ.pl++[p],μ.rs⟩
def TupAt(K:PySem.W.Frag)(μ:Mp)(H:Hp)(a:Addr)(xs:List V):Prop:=
 (Rd H a (.tup xs)/\a∉μ.pl/\a∉μ.rs)\/∃(o:Obj) (b:Array Value) (n:Nat),K.lookup a=some o/\o.cls=.type "tuple"/\o.data=.seq b n/\b.size<=sizeLine/\Vals xs b.toList/\o.dict=none
def ScrAt(K:PySem.W.Frag)(μ:Mp)(H:Hp)(a:Addr)(xs:List V):Prop:=
 (Rd H a (.lst xs)/\a∉μ.pl/\a∉μ.rs)\/∃(o:Obj) (b:Array Value) (n:Nat),K.lookup a=some o/\o.cls=.type "list"/\o.dict=none/\o.data=.seq b n/\b.size<=sizeLine/\Vals xs b.toList
def LstAt(μ:Mp)(H:Hp)(a:Addr)(xs:List V):Prop:=H a=some (.lst xs)/\a∉μ.pl/\a∉μ.rs
theorem TupAt.sq{K:PySem.W.Frag}{μ:Mp}{H:Hp}{a:Addr}{xs:List V}(h:TupAt K μ H a xs):SqT K H a xs:=h.imp (λz=>z.1) λ⟨o,f,n,a,b,c,d,e,_⟩=>⟨o,f,n,a,b,c,d,e⟩
theorem ScrAt.sq{K:PySem.W.Frag}{μ:Mp}{H:Hp}{a:Addr}{xs:List V}(h:ScrAt K μ H a xs):SqL K H a xs:=h.imp (λz=>z.1) id
theorem LstAt.sq{K:PySem.W.Frag}{μ:Mp}{H:Hp}{a:Addr}{xs:List V}(h:LstAt μ H a xs):SqL K H a xs:=.inl (.inl h.1)
mutual
inductive RD(K:PySem.W.Frag)(μ:Mp)(H:Hp):D->V->Prop where
 | non:RD K μ H .non .non
 | bl (b:Bool):RD K μ H (.bl b) (.bl b)
 | int (i:Int):RD K μ H (.int i) (.int i)
 | str (x:Str):RD K μ H (.str x) (.str x)
 | tup {a:Addr} {xs:List V} {ds:List D}:TupAt K μ H a xs->RDs K μ H ds xs->RD K μ H (.tup ds) (.ref a)
 | lst {a:Addr} {xs:List V} {ds:List D}:LstAt μ H a xs->RDs K μ H ds xs->RD K μ H (.lst ds) (.ref a)
 | scr {a:Addr} {xs:List V} {ds:List D}:ScrAt K μ H a xs->RDs K μ H ds xs->RD K μ H (.scr ds) (.ref a)
 | ref {n:Nat} {a:Addr}:μ.pl[n]?=some a->RD K μ H (.ref n) (.ref a)
inductive RDs(K:PySem.W.Frag)(μ:Mp)(H:Hp):List D->List V->Prop where
 | nil:RDs K μ H [] []
 | cons {d:D} {v:V} {ds:List D} {vs:List V}:RD K μ H d v->RDs K μ H ds vs->RDs K μ H (d::ds) (v::vs)
end
structure Lat(μ:Mp)(H:Hp)(μ':Mp)(H':Hp):Prop where
 pre:∀(n:Nat)(a:Addr),μ.pl[n]?=some a->μ'.pl[n]?=some a
 oth:∀a o,H a=some o->a∉μ.pl->H' a=some o
 new:∀a,a∈μ'.pl->a∈μ.pl\/H a=none
 rsv:μ'.rs=μ.rs
theorem Lat.refl(μ:Mp)(H:Hp):Lat μ H μ H:=⟨λ_ _ h=>h,λ_ _ h _=>h,λ_ h=>.inl h,rfl⟩
theorem Lat.out{H H':Hp}(l:Lat μ H μ' H'){a:Addr}{o:HO}(h:H a=some o)(n:a∉μ.pl):a∉μ'.pl:=λz=>by
 rcases l.new a z with q | q
 ·exact n q
 ·rw[h]at q;cases q
theorem Lat.trans{H c b:Hp}(l:Lat μ H μ1 c)(k:Lat μ1 c μ2 b):Lat μ H μ2 b:=by
 refine⟨λn a h=>k.pre n a (l.pre n a h),λa o h n=>k.oth a o (l.oth a o h n) (l.out h n),λa h=>?_,k.rsv.trans l.rsv⟩;rcases k.new a h with q | q
 ·exact l.new a q
 ·by_cases m:a∈μ.pl
  ·exact .inl m
  ·right
   cases e:H a with
   | none=>rfl
   | some o=>rw[l.oth a o e m]at q;cases q
theorem Rd.later{H H':Hp}(l:Lat μ H μ' H'){a:Addr}{u:HO}(h:Rd H a u)(n:a∉μ.pl):Rd H' a u/\a∉μ'.pl:=by
 rcases h with h | ⟨o,h⟩
 ·exact⟨.inl (l.oth _ _ h n),l.out h n⟩
 ·exact⟨.inr ⟨o,l.oth _ _ h n⟩,l.out h n⟩
theorem TupAt.later{K:PySem.W.Frag}{μ μ':Mp}{H H':Hp}(l:Lat μ H μ' H'){a:Addr}{xs:List V}(h:TupAt K μ H a xs):TupAt K μ' H' a xs:=h.imp (λz=>⟨(Rd.later l z.1 z.2.1).1,(Rd.later l z.1 z.2.1).2,by rw[l.rsv];exact z.2.2⟩) id
theorem ScrAt.later{K:PySem.W.Frag}{μ μ':Mp}{H H':Hp}(l:Lat μ H μ' H'){a:Addr}{xs:List V}(h:ScrAt K μ H a xs):ScrAt K μ' H' a xs:=h.imp (λz=>⟨(Rd.later l z.1 z.2.1).1,(Rd.later l z.1 z.2.1).2,by rw[l.rsv];exact z.2.2⟩) id
theorem LstAt.later{H H':Hp}(l:Lat μ H μ' H'){a:Addr}{xs:List V}(h:LstAt μ H a xs):LstAt μ' H' a xs:=⟨l.oth _ _ h.1 h.2.1,l.out h.1 h.2.1,by rw[l.rsv];exact h.2.2⟩
mutual
theorem RD.later{K:PySem.W.Frag}{μ μ':Mp}{H H':Hp}(l:Lat μ H μ' H'):∀{d:D}{v:V},RD K μ H d v->RD K μ' H' d v
 | _,_,.non=>.non
 | _,_,.bl b=>.bl b
 | _,_,.int i=>.int i
 | _,_,.str x=>.str x
 | _,_,.tup h r=>.tup (h.later l) (RDs.later l r)
 | _,_,.lst h r=>.lst (h.later l) (RDs.later l r)
 | _,_,.scr h r=>.scr (h.later l) (RDs.later l r)
 | _,_,.ref h=>.ref (l.pre _ _ h)
theorem RDs.later{K:PySem.W.Frag}(l:Lat μ H μ' H'):∀{ds:List D}{vs:List V},RDs K μ H ds vs->RDs K μ' H' ds vs
 | _,_,.nil=>.nil
 | _,_,.cons h r=>.cons (RD.later l h) (RDs.later l r)
end
section
variable {K:PySem.W.Frag}{μ:Mp}{H:Hp}
theorem RDs.length:∀{ds:List D}{vs:List V},RDs K μ H ds vs->ds.length=vs.length
 | _,_,.nil=>rfl
 | _,_,.cons _ r=>by simp[RDs.length r]
theorem RDs.get:∀{ds:List D}{vs:List V}{i:Nat}{d:D},RDs K μ H ds vs->ds[i]?=some d->∃v,vs[i]?=some v/\RD K μ H d v
 | _,_,_,_,.nil,e=>by simp at e
 | _,_,0,_,.cons h _,e=>by simp at e;subst e;exact⟨_,rfl,h⟩
 | _,_,i+1,d,.cons _ r,e=>by
  obtain⟨v,b,a⟩:=RDs.get r (by simpa using e);exact⟨v,by simpa using b,a⟩
theorem RDs.append:∀{ds es:List D}{vs us:List V},RDs K μ H ds vs->RDs K μ H es us->RDs K μ H (ds++es) (vs++us)
 | _,_,_,_,.nil,s=>s
 | _,_,_,_,.cons h r,s=>.cons h (RDs.append r s)
theorem RDs.take:∀{ds:List D}{vs:List V}(n:Nat),RDs K μ H ds vs->RDs K μ H (ds.take n) (vs.take n)
 | _,_,0,_=>by simpa using RDs.nil
 | _,_,_+1,.nil=>by simpa using RDs.nil
 | _,_,n+1,.cons h r=>by simpa using RDs.cons h (RDs.take n r)
theorem RDs.drop:∀{ds:List D}{vs:List V}(n:Nat),RDs K μ H ds vs->RDs K μ H (ds.drop n) (vs.drop n)
 | _,_,0,h=>by simpa using h
 | _,_,_+1,.nil=>by simpa using RDs.nil
 | _,_,n+1,.cons _ r=>by simpa using RDs.drop n r
theorem RDs.set(q:RD K μ H d v):∀{ds:List D}{vs:List V}(n:Nat),RDs K μ H ds vs->RDs K μ H (ds.set n d) (vs.set n v)
 | _,_,_,.nil=>by simpa using RDs.nil
 | _,_,0,.cons h r=>by simpa using RDs.cons q r
 | _,_,n+1,.cons h r=>by simpa using RDs.cons h (RDs.set q n r)
theorem RDs.rep(r:RDs K μ H ds vs):∀k:Nat,RDs K μ H (List.replicate k ds).flatten (List.replicate k vs).flatten
 | 0=>.nil
 | k+1=>by
  rw[IH,IH,Jl,Jl];exact r.append (RDs.rep r k)
theorem RDs.ints:∀ns:List Int,RDs K μ H (ns.map D.int) (ns.map V.int)
 | []=>.nil
 | n::ns=>.cons (.int n) (RDs.ints ns)
end
def ni(K:PySem.W.Frag)(μ:Mp)(H:Hp):List (Str×D)->List (Str×V)->Prop:=Paired λp q=>p.1=q.1/\RD K μ H p.2 q.2
def KvsAt(K:PySem.W.Frag)(μ:Mp)(H:Hp):List (Key×D)->List (Key×V)->Prop:=Paired λp q=>p.1=q.1/\RD K μ H p.2 q.2
def ej(K:PySem.W.Frag)(w:World)(μ:Mp)(H:Hp)(p:D×D)(e:DictEntry):Prop:=∃b v q,e.key=.ref b/\RD K μ H p.1 (.ref b)/\w8 p.1=some q/\e.hash=HT.hTHt w q/\RelV v e.val/\RD K μ H p.2 v
def OAt(K:PySem.W.Frag)(cl:ClW)(μ:Mp)(H:Hp)(a:Addr):O->Prop
 | .lst ds=>∃xs,H a=some (.lst xs)/\RDs K μ H ds xs
 | .dct kvs=>∃ks,H a=some (.dK ks)/\KvsAt K μ H kvs ks
 | .exc c fs=>XC K (cl c)/\∃gs,ni K μ H fs gs/\∃fr,((gs=[]/\H a=some (P5 fr a (cl c) none))\/∃d,d≠a/\d∉μ.pl/\H a=some (P5 fr a (cl c) (some d))/\H d=some (N5 d gs))
 | .dcT kvs=>∃es,H a=some (DE a es)/\(a==sysModules)=false/\oT kvs/\Paired (ej K cl.w μ H) kvs es
structure Rep(K:PySem.W.Frag)(cl:ClW)(μ:Mp)(S:Sto)(H:Hp):Prop where
 len:μ.pl.length=S.length
 nd:μ.pl.Nodup
 ats:∀(n:Nat)(o:O)(a:Addr),S[n]?=some o->μ.pl[n]?=some a->OAt K cl μ H a o
 res:∀a,a∈μ.rs->a∉μ.pl/\∃u,H a=some u
theorem Paired.mono{P Q:α->β->Prop}(h:∀a b,P a b->Q a b):∀{xs:List α}{ys:List β},Paired P xs ys->Paired Q xs ys
 | _,_,.nil=>.nil
 | _,_,.cons r t=>.cons (h _ _ r) (Paired.mono h t)
section
variable {K:PySem.W.Frag}{cl:ClW}{μ:Mp}{S:Sto}{H:Hp}
theorem OAt.some(h:OAt K cl μ H a o):∃u,H a=some u:=by
 cases o with
 | lst ds=>obtain⟨xs,e,_⟩:=h;exact⟨_,e⟩
 | dct kvs=>obtain⟨xs,e,_⟩:=h;exact⟨_,e⟩
 | dcT kvs=>obtain⟨xs,e,_⟩:=h;exact⟨_,e⟩
 | exc c fs=>
  obtain⟨_,gs,_,fr,⟨_,e⟩ | ⟨d,_,_,e,_⟩⟩:=h
  ·exact⟨_,e⟩
  ·exact⟨_,e⟩
theorem Rep.tracked(r:Rep K cl μ S H){a:Addr}(h:a∈μ.pl):∃u,H a=some u:=by
 obtain⟨n,b,e⟩:=JR h;have hs:n<S.length:=by rw[<- r.len];exact b
 exact(r.ats n S[n] a (Hi hs) (by rw[Hi b,e])).some
theorem Rep.notrs(r:Rep K cl μ S H){p:Addr}(h:H p=none):p∉μ.rs:=λz=>by
 obtain⟨_,u,e⟩:=r.res p z;rw[h]at e;cases e
theorem Rep.notin(r:Rep K cl μ S H){p:Addr}(h:H p=none):p∉μ.pl:=λz=>by
 obtain⟨u,e⟩:=r.tracked z;rw[h]at e;cases e
theorem Lat.laid(h:H p=none):Lat μ H μ (upd H p o):=⟨λ_ _ h=>h,λa u e _=>by rw[a9 (c6 e h)];exact e,λ_ h=>.inl h,rfl⟩
theorem Rep.keep(r:Rep K cl μ S H)(l:Lat μ H μ H')(k:∀a,a∈μ.pl->H' a=H a):Rep K cl μ S H':=by
 refine⟨r.len,r.nd,λn o a e1 e2=>?_,λa m=>let ⟨h1,u,h2⟩:=r.res a m;⟨h1,u,l.oth _ _ h2 h1⟩⟩;have ka:=k a (HE e2);have h:=r.ats n o a e1 e2;cases o with
 | lst ds=>obtain⟨xs,e,q⟩:=h;exact⟨xs,by rw[ka];exact e,q.later l⟩
 | dct kvs=>obtain⟨xs,e,q⟩:=h;exact⟨xs,by rw[ka];exact e,Paired.mono (λ_ _ ⟨z,w⟩=>⟨z,w.later l⟩) q⟩
 | dcT kvs=>obtain⟨es,e,h1,h2,q⟩:=h;exact⟨es,by rw[ka];exact e,h1,h2,Paired.mono (λ_ _ ⟨b,v,z,a1,a2,a3,a4,a5,a6⟩=>⟨b,v,z,a1,a2.later l,a3,a4,a5,a6.later l⟩) q⟩
 | exc c fs=>
  obtain⟨xc,gs,q,fr,h⟩:=h;refine⟨xc,gs,Paired.mono (λ_ _ ⟨z,w⟩=>⟨z,w.later l⟩) q,fr,?_⟩;rcases h with ⟨z,e⟩ | ⟨d,h1,h2,e,e2⟩
  ·exact .inl ⟨z,by rw[ka];exact e⟩
  ·exact .inr ⟨d,h1,h2,by rw[ka];exact e,l.oth _ _ e2 h2⟩
theorem Rep.laid(r:Rep K cl μ S H)(h:H p=none):Rep K cl μ S (upd H p o):=r.keep (Lat.laid h) λa m=>a9 λz=>r.notin h (z▸m)
theorem Lat.pushed(h:H p=none)(k:∀a u,H a=some u->H' a=some u):Lat μ H (μ.push p) H':=
 ⟨λn a e=>by show(μ.pl++[p])[n]?=_;rw[Hj (Hb.mp e).1];exact e,λa u e _=>k a u e,λa m=>by
  rcases Hz.mp m with z | z
  ·exact .inl z
  ·exact .inr (by rw[Hm.mp z];exact h),rfl⟩
theorem OAt.later{a:Addr}{o:O}(h:OAt K cl μ H a o)(l:Lat μ H μ' H')(ka:H' a=H a):OAt K cl μ' H' a o:=by
 cases o with
 | lst ds=>obtain⟨xs,e,q⟩:=h;exact⟨xs,by rw[ka];exact e,q.later l⟩
 | dct kvs=>obtain⟨xs,e,q⟩:=h;exact⟨xs,by rw[ka];exact e,Paired.mono (λ_ _ ⟨z,w⟩=>⟨z,w.later l⟩) q⟩
 | dcT kvs=>obtain⟨es,e,h1,h2,q⟩:=h;exact⟨es,by rw[ka];exact e,h1,h2,Paired.mono (λ_ _ ⟨b,v,z,a1,a2,a3,a4,a5,a6⟩=>⟨b,v,z,a1,a2.later l,a3,a4,a5,a6.later l⟩) q⟩
 | exc c fs=>
  obtain⟨xc,gs,q,fr,h⟩:=h;refine⟨xc,gs,Paired.mono (λ_ _ ⟨z,w⟩=>⟨z,w.later l⟩) q,fr,?_⟩;rcases h with ⟨z,e⟩ | ⟨d,h1,h2,e,e2⟩
  ·exact .inl ⟨z,by rw[ka];exact e⟩
  ·exact .inr ⟨d,h1,l.out e2 h2,by rw[ka];exact e,l.oth _ _ e2 h2⟩
theorem Rep.pushed(r:Rep K cl μ S H)(h:H p=none)(k:∀a u,H a=some u->H' a=some u)(ho:OAt K cl (μ.push p) H' p o):Rep K cl (μ.push p) (S++[o]) H':=by
 have l:=Lat.pushed (μ:=μ) h k;refine⟨by simp[Mp.push,r.len],?_,λn u a e1 e2=>?_,λa m=>?_⟩
 ·show(μ.pl++[p]).Nodup;rw[Kn];exact⟨r.nd,by simp,λa m b m2=>by rw[Hm.mp m2];rintro rfl;exact r.notin h m⟩
 ·have e2:(μ.pl++[p])[n]?=some a:=e2;by_cases hn:n<S.length
  ·rw[Hj hn]at e1;rw[Hj (by rw[r.len];exact hn)]at e2;have q:=r.ats n u a e1 e2;obtain⟨z,ez⟩:=q.some;exact q.later l ((k a z ez).trans ez.symm)
  ·have hn2:n=S.length:=by
    have:=(Hb.mp e1).1;simp at this;omega
   subst hn2;rw[<- r.len]at e2;simp at e1 e2;subst e1;subst e2;exact ho
 ·obtain⟨h1,u,h2⟩:=r.res a m;refine⟨λz=>?_,u,k a u h2⟩;rcases Hz.mp (z)with z | z
  ·exact h1 z
  ·rw[Hm.mp z,h]at h2;cases h2
theorem Lat.wrote(h:a∈μ.pl):Lat μ H μ (upd H a o):=⟨λ_ _ h=>h,λb u e n=>by rw[a9 (λz=>n (by rw[z];exact h))];exact e,λ_ h=>.inl h,rfl⟩
theorem Rep.wrote{n:Nat}{a:Addr}{u:HO}{o:O}(r:Rep K cl μ S H)(e:μ.pl[n]?=some a)(ho:OAt K cl μ (upd H a u) a o):Rep K cl μ (S.set n o) (upd H a u):=by
 have m:a∈μ.pl:=HE e;refine⟨by simp[r.len],r.nd,λk w b e1 e2=>?_,λb mb=>let ⟨h1,u',h2⟩:=r.res b mb;⟨h1,u',by rw[a9 (λz=>h1 (by rw[z];exact m))];exact h2⟩⟩;by_cases hk:n=k
 ·subst hk;rw[e]at e2;cases e2;rw[HV (by have:=(Hb.mp e).1;rw[r.len]at this;exact this)]at e1;cases e1;exact ho
 ·rw[HP hk]at e1;have hb:b≠a:=λz=>by
   subst z;obtain⟨h1,q1⟩:=Hb.mp e;obtain⟨h2,q2⟩:=Hb.mp e2;exact hk ((Lj r.nd).mp (q1.trans q2.symm))
  exact(r.ats k w b e1 e2).later (Lat.wrote m) (a9 hb)
end
def Mp.hold(μ:Mp)(p:Addr):Mp:=⟨μ.pl,p::μ.rs⟩
mutual
theorem RD.move{K:PySem.W.Frag}{μ μ':Mp}{H H':Hp}(g:∀(n:Nat)(a:Addr),μ.pl[n]?=some a->μ'.pl[n]?=some a)(c:∀a u,H a=some u->a∉μ.pl->a∉μ.rs->H' a=some u/\a∉μ'.pl/\a∉μ'.rs):∀{d:D}{v:V},RD K μ H d v->RD K μ' H' d v
 | _,_,.non=>.non
 | _,_,.bl b=>.bl b
 | _,_,.int i=>.int i
 | _,_,.str x=>.str x
 | _,_,.tup h r=>.tup (h.imp (λ⟨q,e,f⟩=>by
   rcases q with q | ⟨o,q⟩
   ·exact⟨.inl (c _ _ q e f).1,(c _ _ q e f).2⟩
   ·exact⟨.inr ⟨o,(c _ _ q e f).1⟩,(c _ _ q e f).2⟩) id) (RDs.move g c r)
 | _,_,.lst h r=>.lst (c _ _ h.1 h.2.1 h.2.2) (RDs.move g c r)
 | _,_,.scr h r=>.scr (h.imp (λ⟨q,e,f⟩=>by
   rcases q with q | ⟨o,q⟩
   ·exact⟨.inl (c _ _ q e f).1,(c _ _ q e f).2⟩
   ·exact⟨.inr ⟨o,(c _ _ q e f).1⟩,(c _ _ q e f).2⟩) id) (RDs.move g c r)
 | _,_,.ref h=>.ref (g _ _ h)
theorem RDs.move{K:PySem.W.Frag}{μ μ':Mp}{H H':Hp}(hp:∀(n:Nat)(a:Addr),μ.pl[n]?=some a->μ'.pl[n]?=some a)(ho:∀a u,H a=some u->a∉μ.pl->a∉μ.rs->H' a=some u/\a∉μ'.pl/\a∉μ'.rs):∀{ds:List D}{vs:List V},RDs K μ H ds vs->RDs K μ' H' ds vs
 | _,_,.nil=>.nil
 | _,_,.cons h r=>.cons (RD.move hp ho h) (RDs.move hp ho r)
end
section
variable {K:PySem.W.Frag}{cl:ClW}{μ:Mp}{S:Sto}{H:Hp}
theorem Rep.move{H':Hp}(r:Rep K cl μ S H)(hr:∀a,a∈μ'.rs->a∉μ'.pl/\∃u,H' a=some u)(hp:μ'.pl=μ.pl)(hk:∀a,a∈μ.pl->H' a=H a)(hx:∀a u,H a=some (.ext u)->H' a=some (.ext u))(ho:∀a u,H a=some u->a∉μ.pl->a∉μ.rs->H' a=some u/\a∉μ'.pl/\a∉μ'.rs):Rep K cl μ' S H':=by
 have hp':∀(n:Nat)(a:Addr),μ.pl[n]?=some a->μ'.pl[n]?=some a:=λn a e=>by rw[hp];exact e
 refine⟨by rw[hp];exact r.len,by rw[hp];exact r.nd,λn o a e1 e2=>?_,hr⟩;rw[hp]at e2;have ka:=hk a (HE e2);have h:=r.ats n o a e1 e2;cases o with
 | lst ds=>obtain⟨xs,e,q⟩:=h;exact⟨xs,by rw[ka];exact e,q.move hp' ho⟩
 | dct kvs=>obtain⟨xs,e,q⟩:=h;exact⟨xs,by rw[ka];exact e,Paired.mono (λ_ _ ⟨z,w⟩=>⟨z,w.move hp' ho⟩) q⟩
 | dcT kvs=>obtain⟨es,e,h1,h2,q⟩:=h;exact⟨es,by rw[ka];exact e,h1,h2,Paired.mono (λ_ _ ⟨b,v,z,a1,a2,a3,a4,a5,a6⟩=>⟨b,v,z,a1,a2.move hp' ho,a3,a4,a5,a6.move hp' ho⟩) q⟩
 | exc c fs=>
  obtain⟨xc,gs,q,fr,h⟩:=h;refine⟨xc,gs,Paired.mono (λ_ _ ⟨z,w⟩=>⟨z,w.move hp' ho⟩) q,fr,?_⟩;rcases h with ⟨z,e⟩ | ⟨d,h1,h2,e,e2⟩
  ·exact .inl ⟨z,by rw[ka];exact e⟩
  ·exact .inr ⟨d,h1,by rw[hp];exact h2,by rw[ka];exact e,hx _ _ e2⟩
end
section
variable (K:PySem.W.Frag)(cl:ClW)(xe:Addr->Hp->Prop)
def Post{b:Type}(μ:Mp)(H:Hp)(r:R b)(G:b->Sto->Mp->Hp->Prop):Prop:=match r with
 | .ok a S=>∀μ' H',Lat μ H μ' H'->Rep K cl μ' S H'->G a S μ' H'
 | .exn n S=>∀μ' H' a,Lat μ H μ' H'->Rep K cl μ' S H'->μ'.pl[n]?=some a->xe a H'
 | .bad=>False
end
section
variable {K:PySem.W.Frag}{cl:ClW}{xe:Addr->Hp->Prop}{α β:Type}{μ μ1:Mp}{H H1:Hp}
theorem Post.later{G:α->Sto->Mp->Hp->Prop}(h:Post K cl xe μ H r G)(l:Lat μ H μ1 H1):Post K cl xe μ1 H1 r G:=by
 cases r with
 | ok a S=>exact λμ' H' k r=>h μ' H' (l.trans k) r
 | exn n S=>exact λμ' H' a k r e=>h μ' H' a (l.trans k) r e
 | bad=>exact h
theorem Post.imp{G G':α->Sto->Mp->Hp->Prop}(h:Post K cl xe μ H r G)(k:∀a S μ' H',Lat μ H μ' H'->Rep K cl μ' S H'->G a S μ' H'->G' a S μ' H'):Post K cl xe μ H r G':=by
 cases r with
 | ok a S=>exact λμ' H' l r=>k a S μ' H' l r (h μ' H' l r)
 | exn n S=>exact h
 | bad=>exact h
theorem Post.bind{k:α->M β}{S:Sto}{G:β->Sto->Mp->Hp->Prop}(h:Post K cl xe μ H (bind m k S) G):Post K cl xe μ H (m S) (λa S1 μ1 H1=>Post K cl xe μ1 H1 (k a S1) G):=by
 unfold L3.bind at h;cases e:m S with
 | ok a S1=>
  rw[e]at h;exact λμ' H' l r=>Post.later h l
 | exn n S1=>rw[e]at h;exact h
 | bad=>rw[e]at h;exact h
theorem Post.ret{G:α->Sto->Mp->Hp->Prop}(h:Post K cl xe μ H (ret a S) G):∀μ' H',Lat μ H μ' H'->Rep K cl μ' S H'->G a S μ' H':=h
end
def EnvOk(K:PySem.W.Frag)(μ:Mp)(H:Hp)(ρ:Env)(σ:L2.St):Prop:=ρ.length=σ.length/\∀(i:Nat)(d:D),ρ[i]?=some (some d)->∃v,σ[i]?=some (some v)/\RD K μ H d v
theorem EnvOk.later{K:PySem.W.Frag}{μ a:Mp}{H b:Hp}{ρ:Env}{σ:L2.St}(h:EnvOk K μ H ρ σ)(l:Lat μ H a b):EnvOk K a b ρ σ:=⟨h.1,λi d e=>let ⟨v,q,r⟩:=h.2 i d e;⟨v,q,r.later l⟩⟩
theorem EnvOk.set{K:PySem.W.Frag}{μ:Mp}{H:Hp}{ρ:Env}{σ:L2.St}{d:D}{v:V}(h:EnvOk K μ H ρ σ)(r:RD K μ H d v)(i:Nat):EnvOk K μ H (ρ.set i (some d)) (σ.set i (some v)):=by
 refine⟨by simp[h.1],λj e b=>?_⟩;by_cases a:i=j
 ·subst a;have c:i<ρ.length:=by
   have:=(Hb.mp b).1;simpa using this
  rw[HV c]at b;cases b;exact⟨v,HV (by rw[<- h.1];exact c),r⟩
 ·rw[HP a]at b;obtain⟨u,q,f⟩:=h.2 j e b;exact⟨u,by rw[HP a];exact q,f⟩
section
variable (K:PySem.W.Frag)(cl:ClW)(xe:Addr->Hp->Prop)
def tD(f:Env->M D):TE:=λσ H Q=>∃μ S ρ,EnvOk K μ H ρ σ/\Rep K cl μ S H/\Post K cl xe μ H (f ρ S) λd _ μ' H'=>∀v,RD K μ' H' d v->Q v H'
def tDs(f:Env->M (List D)):TA:=λσ H Q=>∃μ S ρ,EnvOk K μ H ρ σ/\Rep K cl μ S H/\Post K cl xe μ H (f ρ S) λds _ μ' H'=>∀vs,RDs K μ' H' ds vs->Q vs H'
def tBo(f:Env->M Bool):TT:=λσ H Q=>∃μ S ρ,EnvOk K μ H ρ σ/\Rep K cl μ S H/\Post K cl xe μ H (f ρ S) λb _ _ H'=>Q b H'
def rP2(g:D->D->M D):R2:=λx y H Q=>∃μ S d e,RD K μ H d x/\RD K μ H e y/\Rep K cl μ S H/\Post K cl xe μ H (g d e S) λr _ μ' H'=>∀v,RD K μ' H' r v->Q v H'
def rPs(g:List D->M D):List V->Hp->VK->Prop:=λxs H Q=>∃μ S ds,RDs K μ H ds xs/\Rep K cl μ S H/\Post K cl xe μ H (g ds S) λr _ μ' H'=>∀v,RD K μ' H' r v->Q v H'
end
theorem PE.imp(h:PE X e t)(k:∀σ H Q,t' σ H Q->t σ H Q):PE X e t':=λpins s σ H Q I q=>h pins s σ H Q I (k σ H Q q)
theorem PT.imp(h:PT X e t)(k:∀σ H Q,t' σ H Q->t σ H Q):PT X e t':=λpins s σ H Q I q=>h pins s σ H Q I (k σ H Q q)
theorem PW.imp(h:PW X e t)(k:∀σ H Q,t' σ H Q->t σ H Q):PW X e t':=λw pins s σ H Q I q=>h w pins s σ H Q I (k σ H Q q)
theorem PA.imp(h:PA X es t)(k:∀σ H Q,t' σ H Q->t σ H Q):PA X es t':=λp pins s σ H Q I q=>h p pins s σ H Q I (k σ H Q q)
theorem PS.imp{st:Stmt}{t t':TS}(h:PS X st t)(k:∀D σ H,t' D σ H->t D σ H):PS X st t':=λpins s σ H D I q=>h pins s σ H D I (k D σ H q)
theorem PSs.imp{st:List Stmt}{t t':TS}(h:PSs X st t)(k:∀D σ H,t' D σ H->t D σ H):PSs X st t':=λpins s σ H D I q=>h pins s σ H D I (k D σ H q)
section
variable {X:Cx}{cl:ClW}{xe:Addr->Hp->Prop}{a b c:Expr}{es:List Expr}{pos:Pos}{f g:Env->M D}
theorem f9:PE X e (tD X.K cl xe λ_=>bad):=λ_ _ _ _ _ _ ⟨_,_,_,_,_,p⟩=>p.elim
theorem iW:PT X e (tBo X.K cl xe λ_=>bad):=λ_ _ _ _ _ _ ⟨_,_,_,_,_,p⟩=>p.elim
theorem pw_bad:PW X e (tBo X.K cl xe λ_=>bad):=λ_ _ _ _ _ _ _ ⟨_,_,_,_,_,p⟩=>p.elim
theorem K6(h:PE X e (tC v))(r:∀μ H,RD X.K μ H d v):PE X e (tD X.K cl xe λ_=>ret d):=PE.imp h λσ H Q ⟨μ,S,ρ,b,a,p⟩=>p.ret μ H (Lat.refl _ _) a v (r μ H)
def getD(i:Nat)(ρ:Env):M D:=match ρ[i]? with
 | some (some d)=>ret d
 | _=>bad
theorem yi{e:Expr}(h:PE X e (zK i)):PE X e (tD X.K cl xe λρ=>getD i ρ):=PE.imp h λσ H Q ⟨μ,S,ρ,b,a,p⟩=>by
 cases e:ρ[i]? with
 | none=>simp only[getD,e]at p;exact p.elim
 | some o=>
  cases o with
  | none=>simp only[getD,e]at p;exact p.elim
  | some d=>
   simp only[getD,e]at p;obtain⟨v,q,r⟩:=b.2 i d e;exact⟨v,q,p.ret μ H (Lat.refl _ _) a v r⟩
theorem BY(e:PE X a (tD X.K cl xe f))(k:PE X b (tD X.K cl xe g))(s:OpR X (binaryOp op) (rP2 X.K cl xe h)) :
  PE X (.BinOp a op b pos) (tD X.K cl xe λρ=>bind (f ρ) λx=>bind (g ρ) λy=>h x y):=PE.imp (Bh s e k) λσ H Q ⟨μ,S,ρ,d,j,p⟩=>
 ⟨μ,S,ρ,d,j,p.bind.imp λx S1 c z t q i v r=>⟨c,S1,ρ,d.later t,q,i.bind.imp λy S2 μ2 w l o m u n=>⟨μ2,S2,x,y,r.later l,n,o,m⟩⟩⟩
theorem BG(e:PE X a (tD X.K cl xe f))(k:PE X b (tD X.K cl xe g))(s:OpR X (compareOp op) (rP2 X.K cl xe h))(w:behindInMarks op b=false) :
  PE X (.Compare a [op] [b] pos) (tD X.K cl xe λρ=>bind (f ρ) λx=>bind (g ρ) λy=>h x y):=PE.imp (tw s e k w) λσ H Q ⟨μ,S,ρ,d,j,p⟩=>
 ⟨μ,S,ρ,d,j,p.bind.imp λx S1 c A t q i v r=>⟨c,S1,ρ,d.later t,q,i.bind.imp λy S2 μ2 z l o m u n=>⟨μ2,S2,x,y,r.later l,n,o,m⟩⟩⟩
theorem xm(e:PE X a (tD X.K cl xe f))(k:PE X b (tD X.K cl xe g))(s:IxR X (rP2 X.K cl xe h))(hs:dP b) :
  PE X (.Subscript a b pos) (tD X.K cl xe λρ=>bind (f ρ) λx=>bind (g ρ) λy=>h x y):=PE.imp (yB s e k hs) λσ H Q ⟨μ,S,ρ,d,j,p⟩=>
 ⟨μ,S,ρ,d,j,p.bind.imp λx S1 c z t q i v r=>⟨c,S1,ρ,d.later t,q,i.bind.imp λy S2 μ2 w l o m u n=>⟨μ2,S2,x,y,r.later l,n,o,m⟩⟩⟩
theorem Bx(n:PT X c (tBo X.K cl xe t))(k:PE X a (tD X.K cl xe f))(m:PE X b (tD X.K cl xe g)):PE X (.IfExp c a b pos) (tD X.K cl xe λρ=>bind (t ρ) λq=>if q=true then f ρ else g ρ):=PE.imp (sJ n k m) λσ H Q ⟨μ,S,ρ,e,l,p⟩=>
 ⟨μ,S,ρ,e,l,p.bind.imp λq S1 d o j i h=>by
  cases q with
  | true=>exact⟨d,S1,ρ,e.later j,i,h⟩
  | false=>exact⟨d,S1,ρ,e.later j,i,h⟩⟩
theorem yb(h:PT X a (tBo X.K cl xe t)):PT X (.UnaryOp .Not a pos) (tBo X.K cl xe λρ=>bind (t ρ) λq=>ret (!q)):=PT.imp (AX h) λσ H Q ⟨μ,S,ρ,f,d,p⟩=>
 ⟨μ,S,ρ,f,d,p.bind.imp λq S1 b g i e c=>c.ret b g (Lat.refl _ _) e⟩
theorem wB(h:PT X a (tBo X.K cl xe t)):PW X (.BoolOp .And [a] pos) (tBo X.K cl xe t):=pw_and1 h
theorem Aa(h:PT X a (tBo X.K cl xe t)):PW X (.BoolOp .Or [a] pos) (tBo X.K cl xe t):=pw_or1 h
theorem AL{c:List Expr}(h:PT X a (tBo X.K cl xe t))(k:PW X (.BoolOp .And (b::c) pos) (tBo X.K cl xe u)):PW X (.BoolOp .And (a::b::c) pos) (tBo X.K cl xe λρ=>bind (t ρ) λq=>if q=true then u ρ else ret false):=PW.imp (pw_and h k) λσ H Q ⟨μ,S,ρ,g,i,p⟩=>
 ⟨μ,S,ρ,g,i,p.bind.imp λq S1 d l j f e=>by
  cases q with
  | true=>exact⟨d,S1,ρ,g.later j,f,e⟩
  | false=>exact e.ret d l (Lat.refl _ _) f⟩
theorem Ca{c:List Expr}(h:PT X a (tBo X.K cl xe t))(k:PW X (.BoolOp .Or (b::c) pos) (tBo X.K cl xe u)):PW X (.BoolOp .Or (a::b::c) pos) (tBo X.K cl xe λρ=>bind (t ρ) λq=>if q=true then ret true else u ρ):=PW.imp (pw_or h k) λσ H Q ⟨μ,S,ρ,g,i,p⟩=>
 ⟨μ,S,ρ,g,i,p.bind.imp λq S1 d l j f e=>by
  cases q with
  | true=>exact e.ret d l (Lat.refl _ _) f
  | false=>exact⟨d,S1,ρ,g.later j,f,e⟩⟩
def asB(d:D):M Bool:=match d with
 | .bl b=>ret b
 | _=>bad
theorem zB{K:PySem.W.Frag}{a:Mp}{c:Hp}{S:Sto}{d:D}{v:V}{Q:Bool->Hp->Prop}(f:RD K a c d v)(e:Rep K cl a S c)(p:Post K cl xe a c (asB d S) λb _ _ H'=>Q b H'):∃k,v=.bl k/\Q k c:=by
 cases f with
 | bl b=>exact⟨b,rfl,p.ret a c (Lat.refl _ _) e⟩
 | _=>exact p.elim
theorem zd(o:PE X a (tD X.K cl xe f))(k:PE X b (tD X.K cl xe g))(r:OpR X (compareOp op) (rP2 X.K cl xe h))(n:behindInMarks op b=false) :
  PT X (.Compare a [op] [b] pos) (tBo X.K cl xe λρ=>bind (f ρ) λx=>bind (g ρ) λy=>bind (h x y) asB):=PT.imp (je r o k n) λσ H Q ⟨μ,S,ρ,d,t,p⟩=>
 ⟨μ,S,ρ,d,t,p.bind.imp λx S1 c I s q j v m=>⟨c,S1,ρ,d.later s,q,j.bind.imp λy S2 μ2 J A D l u B=>⟨μ2,S2,x,y,m.later A,B,D,l.bind.imp λz F e E G C i w rw=>zB rw C i⟩⟩⟩
end
end L3
namespace HT
open PySem PySem.Spec PyProof.Rows
theorem noFill_tuple_mul:fillsNumberSlot (.type "tuple") "mul" = pure false:=
 PySem.fillsNumberSlot_seq F.slot_tuple_mul.lookup (by decide +kernel) F.slot_tuple_rmul.lookup (by decide +kernel)
theorem repeat_tuple:seqRepeat? (.type "tuple")=pure (some (.builtin "tuple.__mul__")):=by
 unfold seqRepeat?;rw[PySem.seqSlot_of (name:="__mul__") F.slot_tuple_mul.lookup (by decide +kernel),PySem.seqSlot_of (name:="__rmul__") F.slot_tuple_rmul.lookup (by decide +kernel)];rfl
theorem int_rmul_tuple(a:Int)(t:Tok)(l:Addr)(items:Array Value)(n:Nat)(b:Option Addr)(c:Array (Option Value)) :
  Meets (Builtin.«int.__rmul__» ⟨[.int a t,.ref l],[]⟩) (λ_ R s=>s.heap.get? l=some { cls:=.type "tuple",dict:=b,data:=.seq items n,slots:=c }/\R (.ok (.ret Value.notImplemented)) s):=
 .of_wp λprog w A R s h=>by obtain⟨f,g,d,i,e⟩:=s;obtain⟨j,h⟩:=h;wp_walk;exact⟨_,rfl,h⟩
theorem tuple_mul1(l:Addr)(items:Array Value)(n:Nat)(a:Option Addr)(b:Array (Option Value))(u:Tok) :
  Meets (Builtin.«tuple.__mul__» ⟨[.ref l,.int 1 u],[]⟩) (λ_ R s=>s.heap.get? l=some { cls:=.type "tuple",dict:=a,data:=.seq items n,slots:=b }/\R (.ok (.ret (.ref l))) s):=
 .of_wp λprog w A R s h=>by obtain⟨e,g,d,f,c⟩:=s;obtain⟨i,h⟩:=h;wp_walk;exact⟨_,rfl,h⟩
theorem gi{k:Int}(h1:1<=k)(h2:k<2 ^ 63):¬ ((decide (k < -(2 ^ 63))||decide (k≥2 ^ 63))=true):=by
 simp only[JZ,Hw];omega
theorem tuple_mul2(l:Addr)(items:Array Value)(n:Nat)(r:Option Addr)(v:Array (Option Value))(k:Int)(u:Tok)(a:¬ (items.isEmpty||k==1)=true)(B:2<=k)(p:k<2 ^ 63)(hsz:items.size * k.toNat<=sizeLine) :
  Meets (Builtin.«tuple.__mul__» ⟨[.ref l,.int k u],[]⟩) (λ_ R s=>s.heap.get? l=some { cls:=.type "tuple",dict:=r,data:=.seq items n,slots:=v }/\R (.ok (.ret (.ref s.heap.objs.size))) { s with heap:=s.heap.push { cls:=.type "tuple",data:=.seq ((List.replicate k.toNat items).foldl (·++·) #[]) } }):=
 .of_wp λprog w A R s h=>by
  obtain⟨j,g,d,y,x⟩:=s;obtain⟨t,h⟩:=h;have q:=gi (by omega) p;have e:=HB;have i:((k.toNat:Nat):Int)=k:=Int.toNat_of_nonneg (by omega);have b:(items.size:Int) * k=((items.size * k.toNat:Nat):Int):=by rw[Int.natCast_mul,i]
  have c:¬ (decide (k<=0)||items.isEmpty)=true:=by
   simp only[JZ,Hw]at a ⊢;intro z;rcases z with z | z
   ·omega
   ·exact a (.inl z)
  have f:¬ ((items.size:Int) * k > (2 ^ 63-1) / 8):=by rw[b];omega
  have m:¬ Builtin.Tuple.tupleTooMany ((items.size:Int) * k)=true:=by
   rw[b];simp only[Builtin.Tuple.tupleTooMany,Hw];omega
  have hz:((List.replicate k.toNat items).foldl (·++·) #[]).size<=sizeLine:=by
   rw[AutoListH.size_joined,Nat.mul_comm];simpa using hsz
  wp_walk
  rw[if_neg q];have o:IsTup j l items:=⟨_,t,rfl,n,rfl⟩;refine Gx (KZ o ?_);rw[if_neg a];rw[if_neg c];rw[if_neg f];rw[if_neg m];refine Gx (HF ?_ hz);exact Gy ⟨_,rfl,h⟩
end HT
namespace L2
open PySem PySem.Spec PyProof.Rows
section
variable {X:Cx}
theorem wD:OpR X (binaryOp .Mult) (λx y H Q=>∃a k xs,x=.ref a/\y=.int k/\SqT X.K H a xs/\xs≠[]/\1<=k/\k<2 ^ 63/\xs.length * k.toNat<=sizeLine/\(k=1->Q (.ref a) H)/\(k≠1->∀p,H p=none->Q (.ref p) (upd H p (.tup (List.replicate k.toNat xs).flatten)))):=by
 intro pins s σ H x y v u Q I rx ry h;obtain⟨a,k,xs,rfl,rfl,ha,hx,k1,k2,hz,q1,q2⟩:=h;cases rx;obtain⟨t,rfl⟩:=ry;obtain⟨its,r1,p1,_⟩:=I.tuple ha;obtain⟨⟨cls,dd,data,sl⟩,ho,hc,n,hd⟩:=id p1;subst hc hd;have hl:=r1.length;by_cases he:k=1
 ·subst he;exact JL (by decide) ⟨_,ho,rfl⟩ (λs'=>Kv s' 1 t) HT.noFill_tuple_mul F.fills_int_mul F.slot_int_rmul HT.repeat_tuple F.slot_int_index.lookup
   (Kc F.slot_int_rmul (Kv s 1 t) F.entry_int_rmul (F.args_int_rmul_2 _ _) (HT.int_rmul_tuple 1 t a its.toArray n dd sl)
    ⟨ho,rfl,⟨_,ho,rfl⟩,Kc F.slot_tuple_mul ⟨_,ho,rfl⟩ F.entry_tuple_mul (F.args_tuple_mul_2 _ _) (HT.tuple_mul1 a its.toArray n dd sl t) ⟨ho,.ref a,H,I,rfl,q1 rfl⟩⟩)
 ·have hne:=λz=>hx (r1.nil_iff.mp z);have h0:¬ (its.toArray.isEmpty||k==1)=true:=by
   simp only[JZ,Jy];rintro(z | z)
   ·exact hne (by simpa using z)
   ·exact he z
  refine JL (by decide) ⟨_,ho,rfl⟩ (λs'=>Kv s' k t) HT.noFill_tuple_mul F.fills_int_mul F.slot_int_rmul HT.repeat_tuple F.slot_int_index.lookup
   (Kc F.slot_int_rmul (Kv s k t) F.entry_int_rmul (F.args_int_rmul_2 _ _) (HT.int_rmul_tuple k t a its.toArray n dd sl)
    ⟨ho,rfl,⟨_,ho,rfl⟩,Kc F.slot_tuple_mul ⟨_,ho,rfl⟩ F.entry_tuple_mul (F.args_tuple_mul_2 _ _) (HT.tuple_mul2 a its.toArray n dd sl k t h0 (by omega) k2 (by rw[Hg,<- hl];exact hz)) ⟨ho,?_⟩⟩)
  have f0:List.foldl (λx1 x2=>x1++x2) #[] (List.replicate k.toNat its.toArray)=(List.replicate k.toNat its).flatten.toArray:=by
   have:=V6 its k.toNat [];rw[JY]at this;exact this
  rw[f0];refine⟨.ref s.heap.objs.size,_,I.laid (λb ob q=>Ha _ q) (Hd _) ?_,rfl,q2 he _ (I.hok.fresh (Hd _))⟩;exact⟨by rw[jR,Nat.mul_comm];exact hz,_,r1.rep k.toNat,TupN.new _ _⟩
end
end L2
namespace L3
open PySem PySem.Spec PyProof.Rows L2
def lstOf(d:D):M (List D):=match d with
 | .lst ds=>ret ds
 | .ref n=>λS=>match S[n]? with
  | some (.lst ds)=>.ok ds S
  | _=>.bad
 | _=>bad
def aI(d:D):M (List D):=match d with
 | .tup ds=>ret ds
 | .scr ds=>ret ds
 | d=>lstOf d
section
variable {K:PySem.W.Frag}{cl:ClW}{xe:Addr->Hp->Prop}{μ:Mp}{H:Hp}{S:Sto}{α:Type}
theorem k7(rd:RD K μ H d v)(rp:Rep K cl μ S H)(p:Post K cl xe μ H (lstOf d S) G):∃a xs ds,v=.ref a/\H a=some (.lst xs)/\RDs K μ H ds xs/\lstOf d S=.ok ds S:=by
 cases rd with
 | lst h r=>exact⟨_,_,_,rfl,h.1,r,rfl⟩
 | ref e=>
  rename_i n a;simp only[lstOf]at p;cases q:S[n]? with
  | none=>rw[q]at p;exact p.elim
  | some o=>
   cases o with
   | dcT _=>rw[q]at p;exact p.elim
   | lst ds=>
    obtain⟨xs,h1,h2⟩:=rp.ats n _ a q e;exact⟨a,xs,ds,rfl,h1,h2,by simp only[lstOf,q]⟩
   | dct _=>rw[q]at p;exact p.elim
   | exc _ _=>rw[q]at p;exact p.elim
 | _=>exact p.elim
theorem Post.ok_bind{a:α}{G:β->Sto->Mp->Hp->Prop}(e:m S=.ok a S)(p:Post K cl xe μ H (L3.bind m k S) G):Post K cl xe μ H (k a S) G:=by
 unfold L3.bind at p;rw[e]at p;exact p
theorem E1(b:Rep K cl μ S H)(r:RDs K μ H ds xs)(a:H p=none):Lat μ H μ (upd H p (.tup xs))/\Rep K cl μ S (upd H p (.tup xs))/\RD K μ (upd H p (.tup xs)) (.tup ds) (.ref p):=
 ⟨Lat.laid a,b.laid a,.tup (.inl ⟨.inl b9,b.notin a,b.notrs a⟩) (r.later (Lat.laid a))⟩
theorem L5(b:Rep K cl μ S H)(r:RDs K μ H ds xs)(a:H p=none):Lat μ H μ (upd H p (.lst xs))/\Rep K cl μ S (upd H p (.lst xs))/\RD K μ (upd H p (.lst xs)) (.lst ds) (.ref p):=
 ⟨Lat.laid a,b.laid a,.lst ⟨b9,b.notin a,b.notrs a⟩ (r.later (Lat.laid a))⟩
theorem lY(c:Rep K cl μ S H)(r:RDs K μ H ds xs)(b:H p=none):Lat μ H (μ.push p) (upd H p (.lst xs))/\Rep K cl (μ.push p) (S++[.lst ds]) (upd H p (.lst xs))/\RD K (μ.push p) (upd H p (.lst xs)) (.ref S.length) (.ref p):=by
 have k:∀a u,H a=some u->upd H p (.lst xs) a=some u:=λa u e=>by rw[a9 (c6 e b)];exact e
 have l:=Lat.pushed (μ:=μ) b k;refine⟨l,c.pushed b k ⟨xs,b9,r.later l⟩,.ref ?_⟩;show(μ.pl++[p])[S.length]?=some p;rw[<- c.len];simp
theorem Post.guard[Decidable c]{a:α}{G:α->Sto->Mp->Hp->Prop}(p:Post K cl xe μ H ((if c then L3.ret a else L3.bad) S) G):c/\∀μ' H',Lat μ H μ' H'->Rep K cl μ' S H'->G a S μ' H':=by
 by_cases b:c
 ·rw[if_pos b]at p;exact⟨b,p⟩
 ·rw[if_neg b]at p;exact p.elim
end
def e9{a b:Type}(f:a->Option b):List a->Option (List b)
 | []=>some []
 | x::xs=>match f x,e9 f xs with
  | some y,some ys=>some (y::ys)
  | _,_=>none
def j7:Nat->Sto->D->Option PyData
 | 0,_,_=>none
 | n+1,S,d=>match d with
  | .non=>some .none
  | .bl b=>some (.bool b)
  | .int i=>some (.int i)
  | .str x=>some (.str x)
  | .tup ds=>(e9 (j7 n S) ds).map .tuple
  | .lst ds=>(e9 (j7 n S) ds).map .list
  | .scr ds=>(e9 (j7 n S) ds).map .list
  | .ref k=>match S[k]? with
   | some (.lst ds)=>(e9 (j7 n S) ds).map .list
   | _=>none
theorem dw{K:PySem.W.Frag}{μ:Mp}{H:Hp}{S:Sto}{n:Nat}(ih:∀{d:D}{v:V}{q:PyData},j7 n S d=some q->RD K μ H d v->DAt K H v q):∀{ds:List D}{vs:List V}{qs:List PyData},e9 (j7 n S) ds=some qs->RDs K μ H ds vs->DAll K H vs qs
 | [],_,qs,e,r=>by cases r;cases e;exact .nil
 | d::ds,_,qs,e,r=>by
  cases r with
  | cons h t=>
   simp only[e9]at e;cases e1:j7 n S d with
   | none=>rw[e1]at e;cases e
   | some q=>
    cases e2:e9 (j7 n S) ds with
    | none=>rw[e1,e2]at e;cases e
    | some qs'=>
     rw[e1,e2]at e;cases e;exact .cons (ih e1 h) (dw ih e2 t)
theorem B1{K:PySem.W.Frag}{cl:ClW}{μ:Mp}{H:Hp}{S:Sto}(rp:Rep K cl μ S H):∀(n:Nat){d:D}{v:V}{q:PyData},j7 n S d=some q->RD K μ H d v->DAt K H v q
 | 0,_,_,_,e,_=>by cases e
 | n+1,d,v,q,e,r=>by
  have all:∀{ds:List D}{vs:List V}{qs:List PyData},e9 (j7 n S) ds=some qs->RDs K μ H ds vs->DAll K H vs qs:=λe r=>dw (λe r=>B1 rp n e r) e r;have um:∀{ds:List D}{C:List PyData->PyData},(e9 (j7 n S) ds).map C=some q->∃qs,e9 (j7 n S) ds=some qs/\q=C qs:=λ{ds C} e=>by
   cases e1:e9 (j7 n S) ds with
   | none=>rw[e1]at e;cases e
   | some qs=>rw[e1]at e;cases e;exact⟨qs,rfl,rfl⟩
  cases r with
  | non=>cases e;exact .non
  | bl b=>cases e;exact .bl b
  | int i=>cases e;exact .int i
  | str x=>cases e;exact .str x
  | tup h t=>obtain⟨qs,e1,rfl⟩:=um e;exact .tup h.sq (all e1 t)
  | lst h t=>obtain⟨qs,e1,rfl⟩:=um e;exact .lst h.sq (all e1 t)
  | scr h t=>obtain⟨qs,e1,rfl⟩:=um e;exact .lst h.sq (all e1 t)
  | ref h=>
   rename_i k a;simp only[j7]at e;cases q1:S[k]? with
   | none=>rw[q1]at e;cases e
   | some o=>
    rw[q1]at e;cases o with
    | lst ds=>
     obtain⟨qs,e1,rfl⟩:=um e;obtain⟨xs,h1,h2⟩:=rp.ats k _ a q1 h;exact .lst (.inl (.inl h1)) (all e1 h2)
    | dct _=>cases e
    | exc _ _=>cases e
    | dcT _=>cases e
def n8(x y:D):M D:=match x,y with
 | .int i,.int j=>ret (.int (i+j))
 | .str a,.str b=>if a.length+b.length<=sizeLine then ret (.str (a++b))else bad
 | .tup xs,.tup ys=>if xs.length+ys.length<=sizeLine then ret (.tup (xs++ys))else bad
 | x,y=>bind (lstOf x) λxs=>bind (lstOf y) λys=>if xs.length+ys.length<=sizeLine then ret (.lst (xs++ys))else bad
def iI(x y:D):M D:=match x,y with
 | .int i,.int j=>ret (.int (i-j))
 | _,_=>bad
instance (i j:Int):Decidable (CMul i j):=by unfold CMul;infer_instance
instance (i j:Int):Decidable (pX i j):=by unfold pX;infer_instance
instance (i j:Int):Decidable (tZ i j):=by unfold tZ;infer_instance
def O5(x y:D):M D:=match x,y with
 | .int i,.int j=>if 0<j then ret (.int (i % j))else bad
 | _,_=>bad
def E7(x y:D):M D:=match x,y with
 | .int i,.int j=>if pX i j then ret (.int (i / j))else bad
 | _,_=>bad
def wN(x y:D):M D:=match x,y with
 | .int i,.int j=>if tZ i j then ret (.int (i ^ j.toNat))else bad
 | _,_=>bad
def L0(x y:D):M D:=match x,y with
 | .int i,.int j=>if CMul i j then ret (.int (i * j))else bad
 | .tup ds,.int k=>if (ds≠[]/\1<=k/\k<2 ^ 63)/\ds.length * k.toNat<=sizeLine then ret (.tup (List.replicate k.toNat ds).flatten)else bad
 | x,.int k=>bind (lstOf x) λxs=>if (-(2 ^ 63)<=k/\k<2 ^ 63)/\xs.length * k.toNat<=sizeLine then ret (.lst (List.replicate k.toNat xs).flatten)else bad
 | _,_=>bad
section
variable {X:Cx}{cl:ClW}{xe:Addr->Hp->Prop}
theorem pV:OpR X (binaryOp .Add) (λx y H Q=>∃a b ys,x=.ref a/\y=.ref b/\SqT X.K H a []/\SqT X.K H b ys/\Q (.ref b) H):=by
 intro pins s σ H x y v u Q I t z h;obtain⟨a,b,ys,rfl,rfl,B,C,q⟩:=h;cases t;cases z;obtain⟨w,p,F,_⟩:=I.tuple B;obtain⟨d,J,G,_⟩:=I.tuple C;cases p;obtain⟨⟨r,E,l,D⟩,k,o,n,hd⟩:=id F;obtain⟨⟨m,g,j,f⟩,c,i,A,e⟩:=id G;subst o hd i e;exact concat_meets ⟨_,k,rfl⟩ ⟨_,c,rfl⟩ Ll LN Kj Kf (JW _ _)
   (tuple_addW0 a b #[] d.toArray n A E g D f rfl) ⟨k,c,⟨.ref b,H,I,rfl,q⟩⟩
theorem Do:OpR X (binaryOp .Add) (rP2 X.K cl xe n8):=by
 intro pins s σ H x y v u Q I n o ⟨μ,S,d,e,A,B,c,p⟩;have L:Post X.K cl xe μ H (bind (lstOf d) (λxs=>bind (lstOf e) λys=>if xs.length+ys.length<=sizeLine then ret (.lst (xs++ys))else bad) S) (λr _ μ' H'=>∀v,RD X.K μ' H' r v->Q v H')->wpAny (model X.prog X.w) X.A (binaryOp .Add v u) (EP X pins σ Q) X.xe s:=λp=>by
  obtain⟨a,xs,ds,rfl,q,m,E⟩:=k7 A c p.bind;have p:=p.ok_bind E;obtain⟨b,ys,es,rfl,t,h,G⟩:=k7 B c p.bind;obtain⟨k,p⟩:=(p.ok_bind G).guard;refine zR pins s σ H _ _ v u Q I n o ⟨a,b,xs,ys,rfl,rfl,q,t,by rw[<- m.length,<- h.length];exact k,λz hz=>?_⟩;obtain⟨l,f,g⟩:=L5 c (m.append h) hz;exact p μ _ l f _ g
 cases d <;> cases e <;> try (exact L p)
 case int.int i j=>cases A;cases B;exact yW pins s σ H _ _ v u Q I n o ⟨i,j,rfl,rfl,p μ H (Lat.refl _ _) c _ (.int _)⟩
 case str.str i j=>
  cases A;cases B;obtain⟨k,p⟩:=Post.guard p;exact hV pins s σ H _ _ v u Q I n o ⟨i,j,rfl,rfl,k,p μ H (Lat.refl _ _) c _ (.str _)⟩
 case tup.tup ds es=>
  obtain⟨k,p⟩:=Post.guard p;cases A with
  | tup q m=>
   cases B with
   | tup t h=>
    rename_i a xs b ys;cases ds with
    | nil=>
     cases m;exact pV pins s σ H _ _ v u Q I n o ⟨a,b,ys,rfl,rfl,q.sq,t.sq,p μ H (Lat.refl _ _) c _ (.tup t h)⟩
    | cons d ds=>
     cases m with
     | cons D C=>
      rename_i K J;refine wR pins s σ H _ _ v u Q I n o ⟨a,b,_,ys,rfl,rfl,q.sq,t.sq,by simp,by rw[<- h.length];simpa [C.length] using k,λz=>?_,λz w F=>?_⟩
      ·subst z;cases h;rw[HU]at p;exact p μ H (Lat.refl _ _) c _ (.tup q (.cons D C))
      ·obtain⟨l,f,g⟩:=E1 c ((RDs.cons D C).append h) F;exact p μ _ l f _ g
theorem Eb:OpR X (binaryOp .Sub) (rP2 X.K cl xe iI):=by
 intro pins s σ H x y v u Q I c f ⟨μ,S,d,e,b,a,g,p⟩;cases d <;> cases e <;> try (exact False.elim p)
 case int.int i j=>cases b;cases a;exact yS pins s σ H _ _ v u Q I c f ⟨i,j,rfl,rfl,p μ H (Lat.refl _ _) g _ (.int _)⟩
theorem DM:OpR X (binaryOp .Mod) (rP2 X.K cl xe O5):=by
 intro pins s σ H x y v u Q I f g ⟨μ,S,d,e,c,b,h,p⟩;cases d <;> cases e <;> try (exact False.elim p)
 case int.int i j=>
  cases c;cases b;obtain⟨a,p⟩:=Post.guard p;exact Ae pins s σ H _ _ v u Q I f g ⟨i,j,rfl,rfl,a,p μ H (Lat.refl _ _) h _ (.int _)⟩
theorem yk:OpR X (binaryOp .FloorDiv) (rP2 X.K cl xe E7):=by
 intro pins s σ H x y v u Q I f g ⟨μ,S,d,e,c,b,h,p⟩;cases d <;> cases e <;> try (exact False.elim p)
 case int.int i j=>
  cases c;cases b;obtain⟨a,p⟩:=Post.guard p;exact tz pins s σ H _ _ v u Q I f g ⟨i,j,rfl,rfl,a,p μ H (Lat.refl _ _) h _ (.int _)⟩
theorem Et:OpR X (binaryOp .Pow) (rP2 X.K cl xe wN):=by
 intro pins s σ H x y v u Q I f g ⟨μ,S,d,e,c,b,h,p⟩;cases d <;> cases e <;> try (exact False.elim p)
 case int.int i j=>
  cases c;cases b;obtain⟨a,p⟩:=Post.guard p;exact zL pins s σ H _ _ v u Q I f g ⟨i,j,rfl,rfl,a,p μ H (Lat.refl _ _) h _ (.int _)⟩
theorem EB:OpR X (binaryOp .Mult) (rP2 X.K cl xe L0):=by
 intro pins s σ H x y v u Q I A B ⟨μ,S,d,e,t,n,h,p⟩;have L:∀k:Int,e=.int k->Post X.K cl xe μ H (bind (lstOf d) (λxs=>if (-(2 ^ 63)<=k/\k<2 ^ 63)/\xs.length * k.toNat<=sizeLine then ret (.lst (List.replicate k.toNat xs).flatten)else bad) S) (λr _ μ' H'=>∀v,RD X.K μ' H' r v->Q v H')->wpAny (model X.prog X.w) X.A (binaryOp .Mult v u) (EP X pins σ Q) X.xe s:=λk F q=>by
  clear p;subst F;cases n;obtain⟨a,xs,ds,rfl,m,b,G⟩:=k7 t h q.bind;obtain⟨⟨⟨o,k2⟩,g⟩,p⟩:=(q.ok_bind G).guard;refine yN pins s σ H _ _ v u Q I A B ⟨a,k,xs,rfl,rfl,m,o,k2,by rw[<- b.length];exact g,λz hz=>?_⟩;obtain⟨l,c,f⟩:=L5 h (b.rep k.toNat) hz;exact p μ _ l c _ f
 cases d <;> cases e <;> try (exact False.elim p)
 case int.int i j=>
  cases t;cases n;obtain⟨g,p⟩:=Post.guard p;exact Ay pins s σ H _ _ v u Q I A B ⟨i,j,rfl,rfl,g,p μ H (Lat.refl _ _) h _ (.int _)⟩
 case tup.int ds k=>
  cases n;obtain⟨⟨⟨D,o,k2⟩,g⟩,p⟩:=Post.guard p;cases t with
  | tup m b=>
   rename_i a xs;have C:xs≠[]:=λz=>by subst z;cases b;exact D rfl
   refine wD pins s σ H _ _ v u Q I A B ⟨a,k,xs,rfl,rfl,m.sq,C,o,k2,by rw[<- b.length];exact g,λz=>?_,λz w E=>?_⟩
   ·subst z;have e:(List.replicate (1:Int).toNat ds).flatten=ds:=by simp
    rw[e]at p;exact p μ H (Lat.refl _ _) h _ (.tup m b)
   ·obtain⟨l,c,f⟩:=E1 h (b.rep k.toNat) E;exact p μ _ l c _ f
 all_goals exact L _ rfl p
end
def eqP(a:Bool)(x y:D):M D:=λS=>match j7 64 S x,j7 64 S y with
 | some p,some q=>(if p.canLay0=true/\q.canLay0=true/\min p.depth q.depth<=60 then ret (.bl (if a then !PyData.eqv p q else PyData.eqv p q))else bad) S
 | _,_=>.bad
def eqD(c:Bool)(x y:D):M D:=match x,y with
 | .str a,.str b=>ret (.bl (if c then !decide (a=b)else decide (a=b)))
 | .int a,.int b=>ret (.bl (if c then !decide (a=b)else decide (a=b)))
 | x,y=>eqP c x y
def mi(f:Int->Int->Bool)(x y:D):M D:=match x,y with
 | .int i,.int j=>ret (.bl (f i j))
 | _,_=>bad
def X9(a:Bool)(d:PyData)(ps:List PyData):M D:=if d.canLay0=true/\PyData.canLayAll0 ps=true/\min (PyData.depthAll ps) d.depth<=60 then ret (.bl (if a then !(ps.any λy=>PyData.eqv y d)else ps.any λy=>PyData.eqv y d))else bad
def inD(a:Bool)(x y:D):M D:=λS=>match j7 64 S x,j7 64 S y with
 | some d,some (.list ps)=>X9 a d ps S
 | some d,some (.tuple ps)=>X9 a d ps S
 | _,_=>.bad
def isD(a:Bool)(x y:D):M D:=match y with
 | .non=>ret (.bl (match x with
  | .non=>!a
  | _=>a))
 | .bl b=>ret (.bl (match x with
  | .bl c=>if a then !(c==b)else c==b
  | _=>a))
 | _=>bad
section
variable {X:Cx}{cl:ClW}{xe:Addr->Hp->Prop}
theorem Ge(q:X.A.units+64<cLine):OpR X (compareOp .Eq) (rP2 X.K cl xe (eqD false)):=by
 intro pins s σ H x y v u Q I i k ⟨μ,S,d,e,j,l,c,p⟩;have g:Post X.K cl xe μ H (eqP false d e S) (λr _ μ' H'=>∀v,RD X.K μ' H' r v->Q v H')->wpAny (model X.prog X.w) X.A (compareOp .Eq v u) (EP X pins σ Q) X.xe s:=λp=>by
  simp only[eqP]at p;cases f:j7 64 S d with
  | none=>rw[f]at p;exact p.elim
  | some a=>
   cases h:j7 64 S e with
   | none=>rw[f,h]at p;exact p.elim
   | some b=>
    rw[f,h]at p;obtain⟨⟨m,n,o⟩,p⟩:=Post.guard p;exact zP q pins s σ H _ _ v u Q I i k ⟨a,b,B1 c 64 f j,B1 c 64 h l,m,n,o,p μ H (Lat.refl _ _) c _ (.bl _)⟩
 cases d <;> cases e <;> try (exact g p)
 case str.str a b=>
  cases j;cases l;exact Dp pins s σ H _ _ v u Q I i k ⟨rfl,by rw[show decide (V.str a=V.str b)=decide (a=b) by rw[II];simp];exact p μ H (Lat.refl _ _) c _ (.bl _)⟩
theorem FT(q:X.A.units+64<cLine):OpR X (compareOp .NotEq) (rP2 X.K cl xe (eqD true)):=by
 intro pins s σ H x y v u Q I i k ⟨μ,S,d,e,j,l,c,p⟩;have g:Post X.K cl xe μ H (eqP true d e S) (λr _ μ' H'=>∀v,RD X.K μ' H' r v->Q v H')->wpAny (model X.prog X.w) X.A (compareOp .NotEq v u) (EP X pins σ Q) X.xe s:=λp=>by
  simp only[eqP]at p;cases f:j7 64 S d with
  | none=>rw[f]at p;exact p.elim
  | some a=>
   cases h:j7 64 S e with
   | none=>rw[f,h]at p;exact p.elim
   | some b=>
    rw[f,h]at p;obtain⟨⟨m,n,o⟩,p⟩:=Post.guard p;exact Af q pins s σ H _ _ v u Q I i k ⟨a,b,B1 c 64 f j,B1 c 64 h l,m,n,o,p μ H (Lat.refl _ _) c _ (.bl _)⟩
 cases d <;> cases e <;> try (exact g p)
 case str.str a b=>
  cases j;cases l;exact EI pins s σ H _ _ v u Q I i k ⟨rfl,by rw[show decide (V.str a=V.str b)=decide (a=b) by rw[II];simp];exact p μ H (Lat.refl _ _) c _ (.bl _)⟩
theorem kQ(h:OpR X (compareOp op) (rI0 λi j=>.bl (f i j))):OpR X (compareOp op) (rP2 X.K cl xe (mi f)):=by
 intro pins s σ H x y v u Q I b g ⟨μ,S,d,e,c,k,a,p⟩;cases d <;> cases e <;> try (exact False.elim p)
 case int.int i j=>cases c;cases k;exact h pins s σ H _ _ v u Q I b g ⟨i,j,rfl,rfl,p μ H (Lat.refl _ _) a _ (.bl _)⟩
theorem cO{a:Bool}(o:X.A.units+80<cLine){pins:List (Addr×Obj)}{s:Shared}{σ:L2.St}{H:Hp}{x y:V}{v u:Value}{Q:VK}{d:PyData}{ps:List PyData}(I:Inv X pins σ H s)(l:RelV x v)(j:RelV y u)
  (hd:DAt X.K H x d) (f:DAt X.K H y (.list ps)\/DAt X.K H y (.tuple ps)) (c:d.canLay0=true/\PyData.canLayAll0 ps=true/\min (PyData.depthAll ps) d.depth<=60)
  (q:Q (.bl (if a then !(ps.any λy=>PyData.eqv y d)else ps.any λy=>PyData.eqv y d)) H):wpAny (model X.prog X.w) X.A (compareOp (if a then .NotIn else .In) v u) (EP X pins σ Q) X.xe s:=by
 obtain⟨h,i,n⟩:=c;obtain⟨m,g⟩:=hd.reads I l;have b:X.A.units+1+min (PyData.depthAll ps) d.depth<cLine:=by omega
 rcases f with f | f
 ·obtain⟨k,e⟩:=f.reads I j;cases a with
  | false=>exact SeqAt.in_list_reads e g i h b ⟨.bl _,H,I,rfl,q⟩
  | true=>exact SeqAt.notIn_list_reads e g i h b ⟨.bl _,H,I,rfl,q⟩
 ·obtain⟨k,e⟩:=f.reads I j;cases a with
  | false=>exact SeqAt.in_tuple_reads e g i h b ⟨.bl _,H,I,rfl,q⟩
  | true=>exact SeqAt.notIn_tuple_reads e g i h b ⟨.bl _,H,I,rfl,q⟩
theorem ES(neg:Bool)(hu:X.A.units+80<cLine):OpR X (compareOp (if neg then .NotIn else .In)) (rP2 X.K cl xe (inD neg)):=by
 intro pins s σ H x y v u Q I rx ry ⟨μ,S,d,e,rd,re,rp,p⟩;simp only[inD]at p;cases e1:j7 64 S d with
 | none=>rw[e1]at p;exact p.elim
 | some a=>
  cases e2:j7 64 S e with
  | none=>rw[e1,e2]at p;exact p.elim
  | some b=>
   rw[e1,e2]at p;have ha:=B1 rp 64 e1 rd;have hb:=B1 rp 64 e2 re;cases b with
   | list ps=>obtain⟨c,p⟩:=Post.guard p;exact cO hu I rx ry ha (.inl hb) c (p μ H (Lat.refl _ _) rp _ (.bl _))
   | tuple ps=>obtain⟨c,p⟩:=Post.guard p;exact cO hu I rx ry ha (.inr hb) c (p μ H (Lat.refl _ _) rp _ (.bl _))
   | _=>exact p.elim
theorem DG(f:Bool):OpR X (compareOp (if f then .IsNot else .Is)) (rP2 X.K cl xe (isD f)):=by
 intro pins s σ H x y v u Q I a i ⟨μ,S,d,e,h,k,j,p⟩;have g:∀b:Bool,(∀μ' H',Lat μ H μ' H'->Rep X.K cl μ' S H'->∀v,RD X.K μ' H' (.bl b) v->Q v H')->∀c,c=b->EP X pins σ Q (.bool c) s:=λb p c e=>⟨.bl b,H,I,by rw[e];rfl,p μ H (Lat.refl _ _) j _ (.bl _)⟩;cases k <;> try (exact False.elim p)
 case non=>
  cases i;cases f with
  | false=>
   refine is_none_gen (g _ p _ ?_);cases h <;> first
    | (cases a;rfl)
    | (obtain⟨t,rfl⟩:=a;rfl)
  | true=>
   refine isnot_none_gen (g _ p _ ?_);cases h <;> first
    | (cases a;rfl)
    | (obtain⟨t,rfl⟩:=a;rfl)
 case bl b=>
  cases i;cases f with
  | false=>
   refine wpAny_is_plain ?_ (g _ p _ ?_)
   ·cases h <;> first
    | (cases a;rfl)
    | (obtain⟨t,rfl⟩:=a;rfl)
   ·cases h <;> first
    | (cases a;rfl)
    | (obtain⟨t,rfl⟩:=a;rfl)
    | (cases a;(rename_i c;cases c <;> cases b <;> rfl))
  | true=>
   refine wpAny_isNot_plain ?_ (g _ p _ ?_)
   ·cases h <;> first
    | (cases a;rfl)
    | (obtain⟨t,rfl⟩:=a;rfl)
   ·cases h <;> first
    | (cases a;rfl)
    | (obtain⟨t,rfl⟩:=a;rfl)
    | (cases a;(rename_i c;cases c <;> cases b <;> rfl))
end
def A6:D->Option Key
 | .int i=>some (.inl i)
 | .str x=>some (.inr x)
 | _=>none
def X7{κ:Type}[DecidableEq κ](a:List (κ×D))(k:κ):Option D:=(a.find? λb=>decide (b.1=k)).map (·.2)
def ly{κ:Type}[DecidableEq κ](a:List (κ×D))(k:κ)(v:D):List (κ×D):=if a.any (λb=>decide (b.1=k))then a.map (λb=>if b.1=k then (b.1,v)else b)else a++[(k,v)]
def Y1{b:Type}:Option b->M b
 | some a=>ret a
 | none=>bad
def ixD(x y:D):M D:=match x with
 | .ref n=>λS=>match S[n]? with
  | some (.lst ds)=>(match y with
   | .int i=>Y1 (atI ds i)
   | _=>bad) S
  | some (.dct a)=>Y1 ((A6 y).bind (X7 a)) S
  | _=>.bad
 | x=>match y with
  | .int i=>bind (aI x) λds=>Y1 (atI ds i)
  | _=>bad
theorem zV{K:PySem.W.Frag}{μ:Mp}{H:Hp}{ds:List D}{xs:List V}{i:Int}{d:D}(r:RDs K μ H ds xs)(e:atI ds i=some d):∃v,atI xs i=some v/\RD K μ H d v:=by
 unfold atI at e ⊢;rw[<- r.length];cases q:ixN ds.length i with
 | none=>rw[q]at e;cases e
 | some j=>rw[q]at e;exact r.get e
theorem cp{K:PySem.W.Frag}{cl:ClW}{xe:Addr->Hp->Prop}{μ:Mp}{H:Hp}{S:Sto}{α:Type}{o:Option α}{G:α->Sto->Mp->Hp->Prop}(p:Post K cl xe μ H (Y1 o S) G):∃a,o=some a/\∀μ' H',Lat μ H μ' H'->Rep K cl μ' S H'->G a S μ' H':=by
 cases o with
 | none=>exact p.elim
 | some a=>exact⟨a,rfl,p⟩
theorem Y5{K:PySem.W.Frag}{μ:Mp}{H:Hp}{k:Key}{d:D}:∀{a:List (Key×D)} {f:List (Key×V)},KvsAt K μ H a f->X7 a k=some d->∃v,M2 f k=some v/\RD K μ H d v
 | _,_,.nil,e=>by simp[X7]at e
 | p::r,q::j,.cons ⟨c,i⟩ t,e=>by
  unfold X7 at e;rw[Ik]at e;by_cases b:p.1=k
  ·simp only[b,decide_true]at e;cases e;exact⟨q.2,P9 (c▸b),i⟩
  ·simp only[b,decide_false]at e;obtain⟨v,g,h⟩:=Y5 t e;exact⟨v,by rw[P2 (c▸b)];exact g,h⟩
theorem F9{K:PySem.W.Frag}{μ:Mp}{H:Hp}{y:D}{v:V}{k:Key}(r:RD K μ H y v)(e:A6 y=some k):v=kV k:=by
 cases r <;> simp only[A6]at e <;> first | (cases e;rfl) | cases e
section
variable {X:Cx}{cl:ClW}{xe:Addr->Hp->Prop}
theorem vE(o:X.A.units+1<cLine):IxR X (λx y H Q=>∃a v,x=.ref a/\DGet H a y (some v)/\Q v H):=by
 intro d c pins s σ H x y v u Q I m n h hs;obtain⟨a,w,rfl,g,q⟩:=h;cases m;have k:=ek I g;have i:wpAny (model X.prog X.w) X.A (getItem (.ref a) u) (EP X pins σ Q) X.xe s:=mP o I g n λw' p l j=>⟨w,H,l,j,q⟩;refine Gx ?_;rw[getitemInPython_of_ne k.not_modules];refine Gx (LF k PySem.F.slot_dict_getitem.lookup ?_);have e:wpAny (model X.prog X.w) X.A (subscripted c false (.ref a) u) (λr b=>wpAny (model X.prog X.w) X.A (letTemporaryGo d (.ref a) r >>= λ_=>pure r) (EP X pins σ Q) X.xe b) X.xe s:=by
  rw[hs];exact wpAny_operating (Hy i (λr b f=>Gx (wpAny_letTemporaryGo (Gy f))) λ_ _ x=>x)
 first
  | exact Gy (Gx e)
  | exact Gx (Gy (Gx e))
  | exact Gx e
theorem Ei(hu:X.A.units+1<cLine):IxR X (rP2 X.K cl xe ixD):=by
 intro value slice pins s σ H x y v u Q I rx ry ⟨μ,S,d,e,rd,re,rp,p⟩ hs;have sq:∀{a:Addr}{xs:List V}{ds:List D}{i:Int},(SqL X.K H a xs\/SqT X.K H a xs)->RDs X.K μ H ds xs->x=.ref a->e=.int i->Post X.K cl xe μ H (Y1 (atI ds i) S) (λr _ μ' H'=>∀v,RD X.K μ' H' r v->Q v H') ->
   wpAny (model X.prog X.w) X.A (subscriptTail value slice v u) (EP X pins σ Q) X.xe s:=λ{a xs ds i} hq r hx he q=>by
  clear p;subst hx he;cases re;obtain⟨z,e1,q⟩:=cp q;obtain⟨w,e2,rw'⟩:=zV r e1;rcases hq with hq | hq
  ·exact tu value slice pins s σ H _ _ v u Q I rx ry ⟨a,xs,i,w,rfl,rfl,hq,e2,q μ H (Lat.refl _ _) rp _ rw'⟩ hs
  ·exact AZ value slice pins s σ H _ _ v u Q I rx ry ⟨a,xs,i,w,rfl,rfl,hq,e2,q μ H (Lat.refl _ _) rp _ rw'⟩ hs
 cases rd with
 | tup h r=>
  cases e <;> first | exact False.elim p | exact sq (.inr h.sq) r rfl rfl p
 | lst h r=>
  cases e <;> first | exact False.elim p | exact sq (.inl h.sq) r rfl rfl p
 | scr h r=>
  cases e <;> first | exact False.elim p | exact sq (.inl h.sq) r rfl rfl p
 | ref h=>
  rename_i n a;simp only[ixD]at p;cases q1:S[n]? with
  | none=>rw[q1]at p;exact p.elim
  | some o=>
   rw[q1]at p;cases o with
   | lst ds=>
    obtain⟨xs,h1,h2⟩:=rp.ats n _ a q1 h;cases e <;> first | exact False.elim p | exact sq (.inl (.inl (.inl h1))) h2 rfl rfl p
   | dct kvs=>
    obtain⟨ks,h1,h2⟩:=rp.ats n _ a q1 h;obtain⟨z,e1,p⟩:=cp p;cases e2:A6 e with
    | none=>rw[e2]at e1;cases e1
    | some k=>
     rw[e2]at e1;obtain⟨w,e3,r3⟩:=Y5 h2 e1;have hy:=F9 re e2;subst hy;exact vE hu value slice pins s σ H _ _ v u Q I rx ry ⟨a,w,rfl,by rw[<- e3];exact DGet.k h1,p μ H (Lat.refl _ _) rp _ r3⟩ hs
   | exc _ _=>exact p.elim
   | dcT _=>exact p.elim
 | _=>cases e <;> exact False.elim p
def B6(ds:List D)(lo a:Option Int):List D:=(ds.drop (HT.sIx ds.length 0 lo)).take (HT.sIx ds.length ds.length a-HT.sIx ds.length 0 lo)
theorem qQ{K:PySem.W.Frag}{μ:Mp}{H:Hp}{ds:List D}{xs:List V}(r:RDs K μ H ds xs)(lo a:Option Int):RDs K μ H (B6 ds lo a) (mQ xs lo a):=by
 unfold B6 mQ;rw[<- r.length];exact(r.drop _).take _
def slD(x:D)(lo a:Option Int):M D:=match x with
 | .tup ds=>ret (.tup (B6 ds lo a))
 | x=>bind (match x with
  | .scr ds=>ret ds
  | x=>lstOf x) λds=>ret (.lst (B6 ds lo a))
end
def noStar:Expr->Bool
 | .Starred ..=>false
 | _=>true
def n9:Expr->Bool
 | .ListComp ..=>false
 | .SetComp ..=>false
 | .DictComp ..=>false
 | _=>true
def t9:Expr->Bool
 | .Slice ..=>false
 | _=>true
def j8:Expr->Bool
 | .Set ..=>false
 | _=>true
def u3:Expr->Bool
 | .Call (.Name _ _) [] [] _=>false
 | _=>true
def C8:Expr->Bool
 | .UnaryOp .Not _ _=>false
 | .BoolOp ..=>false
 | .IfExp ..=>false
 | .Compare ..=>false
 | _=>true
theorem h9(h:noStar e=true):starEach (e::es) env=(false,eval e env)::starEach es env:=by
 cases e <;> first | rfl | (exact absurd h (by simp[noStar]))
theorem m9:∀{es:List Expr}{a:PySem.Env}{pos:Pos},es.all noStar=true->(backTo pos (starEach es a)).any (·.1)=false
 | [],_,_,_=>rfl
 | e::es,a,pos,h=>by
  rw[Ib,Gz]at h;rw[h9 h.1];show(false||(backTo pos (starEach es a)).any (·.1))=false;rw[m9 h.2];rfl
theorem bI:∀{es:List Expr}{a:PySem.Env}{pos:Pos},es.all noStar=true->(backTo pos (starEach es a)).all (λx=>!x.1)=true
 | [],_,_,_=>rfl
 | e::es,a,pos,h=>by
  rw[Ib,Gz]at h;rw[h9 h.1];show(!false&&(backTo pos (starEach es a)).all (λx=>!x.1))=true;rw[bI h.2];rfl
theorem C9(h:n9 e=true):swapsWith e t n env=pure false:=by
 cases e <;> first | rfl | (exact absurd h (by simp[n9]))
theorem N7(h:t9 e=true):dP e:=by
 intro o i;cases e <;> first | rfl | (exact absurd h (by simp[t9]))
theorem bc{e:Expr}(h:j8 e=true):behindInMarks op e=false:=by
 cases e <;> first | rfl | (exact absurd h (by simp[j8]))
theorem j3(h:j8 e=true):∀x,foldedSetIterable e env x=pure x:=by
 intro x;cases e <;> first | rfl | (exact absurd h (by simp[j8]))
theorem D8(h:u3 o=true):attributeBase o f env (eval o env)=eval o env:=by
 unfold attributeBase;split
 ·exact absurd h (by simp[u3])
 ·rfl
theorem test_of(h:C8 e=true):∀a,isTrue e env a=(do let v <- a;standAt e.pos;holding [v] (truthy v)):=by
 intro a;cases e <;> first
  | rfl
  | (rename_i op _ _;cases op <;> first | rfl | (exact absurd h (by simp[C8])))
  | (exact absurd h (by simp[C8]))
section
variable {X:Cx}{cl:ClW}{xe:Addr->Hp->Prop}{e:Expr}{es:List Expr}{pos:Pos}{f:Env->M D}{fs:Env->M (List D)}
theorem wI:PA X [] (tDs X.K cl xe λ_=>ret []):=PA.imp ax λσ H Q ⟨μ,S,ρ,b,a,p⟩=>p.ret μ H (Lat.refl _ _) a [] .nil
theorem oR(h:PE X e (tD X.K cl xe f))(hs:PA X es (tDs X.K cl xe fs))(m:noStar e=true):PA X (e::es) (tDs X.K cl xe λρ=>bind (f ρ) λd=>bind (fs ρ) λds=>ret (d::ds)):=
 PA.imp (y0 h hs (h9 m)) λσ H Q ⟨μ,S,ρ,c,l,p⟩=>
  ⟨μ,S,ρ,c,l,p.bind.imp λd S1 b s q r i v g=>⟨b,S1,ρ,c.later q,r,i.bind.imp λds S2 μ2 j o n k vs a=>k.ret μ2 j (Lat.refl _ _) n _ (.cons (g.later o) a)⟩⟩
def zk(ds:List D):M D:=if ds.length<=sizeLine then ret (.tup ds)else bad
def zw(ds:List D):M D:=if ds.length<=sizeLine then ret (.lst ds)else bad
theorem za(h:PA X es (tDs X.K cl xe fs)):PE X (.Tuple es k pos) (tD X.K cl xe λρ=>bind (fs ρ) zk):=PE.imp (Ac h) λσ H Q ⟨μ,S,ρ,i,g,p⟩=>
 ⟨μ,S,ρ,i,g,p.bind.imp λds S1 e m n j c vs a=>by
  obtain⟨f,c⟩:=Post.guard c;refine⟨by rw[<- a.length];exact f,λz hz=>?_⟩;obtain⟨l,b,d⟩:=E1 j a hz;exact c e _ l b _ d⟩
theorem yq(h:PA X es (tDs X.K cl xe fs)):PE X (.List es pos) (tD X.K cl xe λρ=>bind (fs ρ) zw):=PE.imp (pU h) λσ H Q ⟨μ,S,ρ,i,g,p⟩=>
 ⟨μ,S,ρ,i,g,p.bind.imp λds S1 e k m j c vs a=>by
  obtain⟨f,c⟩:=Post.guard c;refine⟨by rw[<- a.length];exact f,λz hz=>?_⟩;obtain⟨l,b,d⟩:=L5 j a hz;exact c e _ l b _ d⟩
def newL(ds:List D):M D:=λS=>if ds.length<=sizeLine then .ok (.ref S.length) (S++[.lst ds])else .bad
theorem wv(h:PA X es (tDs X.K cl xe fs)):PE X (.List es pos) (tD X.K cl xe λρ=>bind (fs ρ) newL):=PE.imp (pU h) λσ H Q ⟨μ,S,ρ,i,g,p⟩=>
 ⟨μ,S,ρ,i,g,p.bind.imp λds S1 f k m j a vs b=>by
  unfold newL at a;by_cases e:ds.length<=sizeLine
  ·rw[if_pos e]at a;refine⟨by rw[<- b.length];exact e,λz hz=>?_⟩;obtain⟨l,c,d⟩:=lY j b hz;exact a _ _ l c _ d
  ·rw[if_neg e]at a;exact a.elim⟩
def nD(E:XK):Addr->Hp->Prop:=λa H=>E (.ref a) none H
def spD(K:PySem.W.Frag)(cl:ClW)(n:Nat)(run:List D->M D):Sp:=λvs H Q E=>vs.length=n/\∃μ S ds,RDs K μ H ds vs/\Rep K cl μ S H/\Post K cl (nD E0) μ H (run ds S) λd _ μ' H'=>∀v,RD K μ' H' d v->Q v H'
theorem mn{id:String}{x:Str}{p:Pos}(d:p0 X (.builtin id) (rPs X.K cl xe g))(o:Gl X x)(k:X.mg x=none)(h:bootBuiltins x=some (.builtin id))(m:PA X (e::es) (tDs X.K cl xe fs))(j:x ≠ "__name__") (c:(x==("__debug__" : Str))=false) (hs:(e::es).all noStar=true) :
  PE X (.Call (.Name x p) (e::es) [] pos) (tD X.K cl xe λρ=>bind (fs ρ) g):=by
 rw[Ib,Gz]at hs;exact PE.imp (dy d o k h m j c (h9 hs.1) (m9 hs.2)) λσ H Q ⟨μ,S,ρ,l,i,p⟩=>⟨μ,S,ρ,l,i,p.bind.imp λds S1 b q r n f vs a=>⟨b,S1,ds,a,n,f⟩⟩
theorem oh{T:String}{x:Str}{p:Pos}(d:p0 X (.type T) (rPs X.K cl xe g))(o:Gl X x)(k:X.mg x=none)(h:bootBuiltins x=some (.type T))(m:PA X (e::es) (tDs X.K cl xe fs))(j:x ≠ "__name__") (c:(x==("__debug__" : Str))=false) (hs:(e::es).all noStar=true) :
  PE X (.Call (.Name x p) (e::es) [] pos) (tD X.K cl xe λρ=>bind (fs ρ) g):=by
 rw[Ib,Gz]at hs;exact PE.imp (lv d o k h m j c (h9 hs.1) (m9 hs.2)) λσ H Q ⟨μ,S,ρ,l,i,p⟩=>⟨μ,S,ρ,l,i,p.bind.imp λds S1 b q r n f vs a=>⟨b,S1,ds,a,n,f⟩⟩
end
def one(g:D->M D)(ds:List D):M D:=match ds with
 | [d]=>g d
 | _=>bad
def J0(d:D):M D:=match d with
 | .str x=>if x.length<=sizeLine then ret (.int x.length)else bad
 | .ref n=>λS=>match S[n]? with
  | some (.lst ds)=>.ok (.int ds.length) S
  | some (.dct a)=>.ok (.int a.length) S
  | _=>.bad
 | d=>bind (aI d) λds=>ret (.int ds.length)
def O6(d:D):M D:=match d with
 | .tup ds=>ret (.tup ds)
 | d=>bind (aI d) λds=>ret (.tup ds)
instance (p:PyData):Decidable (Shows p):=decidable_of_iff (p.showable=true/\p.hasDict=false/\p.depth<=60/\p.shown.length<=sizeLine) ⟨λ⟨a,b,c,d⟩=>⟨a,b,c,d⟩,λ⟨a,b,c,d⟩=>⟨a,b,c,d⟩⟩
theorem nn{K:PySem.W.Frag}{μ:Mp}{H:Hp}{d:D}{vs:List V}(r:RDs K μ H [d] vs):∃v,vs=[v]/\RD K μ H d v:=by
 cases r with
 | cons h t=>cases t;exact⟨_,rfl,h⟩
section
variable {X:Cx}{cl:ClW}{xe:Addr->Hp->Prop}
theorem dj(h:∀(pins:List (Addr×Obj)) (s:Shared) (σ:L2.St) (H:Hp) (μ:Mp) (S:Sto) (d:D) (v:V) (us:List Value) (Q:VK),L2.Inv X pins σ H s->Vals [v] us->RD X.K μ H d v->Rep X.K cl μ S H->Post X.K cl xe μ H (g d S) (λr _ μ' H'=>∀v,RD X.K μ' H' r v->Q v H') ->
  wpAny (model X.prog X.w) X.A (call f us) (EP X pins σ Q) X.xe s):p0 X f (rPs X.K cl xe (one g)):=by
 intro pins s σ H xs us Q I r ⟨μ,S,ds,a,c,p⟩
 match ds,p with
 | [d],p=>
  obtain⟨v,rfl,b⟩:=nn a;exact h pins s σ H μ S d v us Q I r b c p
 | [],p=>exact p.elim
 | _::_::_,p=>exact p.elim
theorem DT:p0 X (.builtin "len") (rPs X.K cl xe (one J0)):=dj λpins s σ H μ S d v us Q I r rd rp p=>by
 have sq:∀{a:Addr}{xs:List V}{ds:List D},(SqL X.K H a xs\/SqT X.K H a xs)->RDs X.K μ H ds xs->v=.ref a->(∀μ' H',Lat μ H μ' H'->Rep X.K cl μ' S H'->∀w,RD X.K μ' H' (.int ds.length) w->Q w H')->wpAny (model X.prog X.w) X.A (call (.builtin "len") us) (EP X pins σ Q) X.xe s:=λ{a xs ds} hq r2 hv q=>by
  subst hv;exact df pins s σ H _ us Q I r ⟨a,xs,rfl,hq,by rw[<- r2.length];exact q μ H (Lat.refl _ _) rp _ (.int _)⟩
 cases rd with
 | str x=>
  obtain⟨hl,p⟩:=Post.guard p;exact dA pins s σ H _ us Q I r ⟨x,rfl,hl,p μ H (Lat.refl _ _) rp _ (.int _)⟩
 | tup h r2=>exact sq (.inr h.sq) r2 rfl p
 | lst h r2=>exact sq (.inl h.sq) r2 rfl p
 | scr h r2=>exact sq (.inl h.sq) r2 rfl p
 | ref h=>
  rename_i n a;simp only[J0]at p;cases q1:S[n]? with
  | none=>rw[q1]at p;exact p.elim
  | some o=>
   rw[q1]at p;cases o with
   | lst ds=>
    obtain⟨xs,h1,h2⟩:=rp.ats n _ a q1 h;exact sq (.inl (.inl (.inl h1))) h2 rfl p
   | dct kvs=>
    obtain⟨ks,h1,h2⟩:=rp.ats n _ a q1 h;have hl:=Paired.length h2;exact mF pins s σ H _ us Q I r ⟨a,ks,rfl,h1,by rw[<- hl];exact p μ H (Lat.refl _ _) rp _ (.int _)⟩
   | exc _ _=>exact p.elim
   | dcT _=>exact p.elim
 | _=>exact False.elim p
theorem vO:p0 X (.type "tuple") (rPs X.K cl xe (one O6)):=dj λpins s σ H μ S d v us Q I r rd rp p=>by
 have sq:∀{a:Addr}{xs:List V}{ds:List D},SqL X.K H a xs->RDs X.K μ H ds xs->v=.ref a->(∀μ' H',Lat μ H μ' H'->Rep X.K cl μ' S H'->∀w,RD X.K μ' H' (.tup ds) w->Q w H')->wpAny (model X.prog X.w) X.A (call (.type "tuple") us) (EP X pins σ Q) X.xe s:=λ{a xs ds} hq r2 hv q=>by
  subst hv;refine N1 pins s σ H _ us Q I r ⟨a,xs,rfl,.inl ⟨hq,λz hz=>?_⟩⟩;obtain⟨l,rp2,rd2⟩:=E1 rp r2 hz;exact q μ _ l rp2 _ rd2
 cases rd with
 | tup h r2=>exact N1 pins s σ H _ us Q I r ⟨_,_,rfl,.inr ⟨h.sq,p μ H (Lat.refl _ _) rp _ (.tup h r2)⟩⟩
 | lst h r2=>exact sq h.sq r2 rfl p
 | scr h r2=>exact sq h.sq r2 rfl p
 | ref h=>
  rename_i n a0;have p2:=p;obtain⟨a,xs,ds,e1,h1,h2,e2⟩:=k7 (.ref h) rp p2.bind;exact sq (.inl (.inl h1)) h2 e1 (p2.ok_bind e2)
 | _=>exact False.elim p
end
def Mp.free(μ:Mp):Mp:=⟨μ.pl,μ.rs.tail⟩
section
variable {K:PySem.W.Frag}{cl:ClW}{xe:Addr->Hp->Prop}{μ μ2:Mp}{S S2:Sto}{H H2:Hp}{p:Addr}{o:HO}
theorem we(i:Rep K cl μ S H)(h:H p=none):(∀{d:D}{v:V},RD K μ H d v->RD K (μ.hold p) (upd H p o) d v)/\∀{ds:List D}{vs:List V},RDs K μ H ds vs->RDs K (μ.hold p) (upd H p o) ds vs:=by
 have c:∀a u,H a=some u->a∉μ.pl->a∉μ.rs->upd H p o a=some u/\a∉(μ.hold p).pl/\a∉(μ.hold p).rs:=λa u e f g=>by
  have b:=c6 e h;exact⟨by rw[a9 b];exact e,f,λz=>(Ho.mp z).elim b g⟩
 exact⟨λr=>r.move (μ:=μ) (μ':=μ.hold p) (λ_ _ e=>e) c,λr=>r.move (μ:=μ) (μ':=μ.hold p) (λ_ _ e=>e) c⟩
theorem aB(c:Rep K cl μ S H)(b:H p=none):Rep K cl (μ.hold p) S (upd H p o):=by
 have j:∀a u,H a=some u->a∉μ.pl->a∉μ.rs->upd H p o a=some u/\a∉(μ.hold p).pl/\a∉(μ.hold p).rs:=λa u e g h=>by
  have d:=c6 e b;exact⟨by rw[a9 d];exact e,g,λz=>(Ho.mp z).elim d h⟩
 refine c.move (λa m=>?_) rfl (λa m=>a9 λz=>c.notin b (z▸m)) (λa u e=>by rw[a9 (c6 e b)];exact e) j;rcases Ho.mp (m)with rfl | m
 ·exact⟨c.notin b,o,b9⟩
 ·obtain⟨i,u,f⟩:=c.res a m;exact⟨i,u,by rw[a9 (c6 f b)];exact f⟩
theorem aa(b:Rep K cl μ S H)(c:H p=none)(a:EnvOk K μ H ρ σ):EnvOk K (μ.hold p) (upd H p o) ρ σ:=⟨a.1,λi d e=>let ⟨v,q,r⟩:=a.2 i d e;⟨v,q,(we b c).1 r⟩⟩
theorem eN(r:RDs K μ H ds vs):RDs K μ.free H ds vs:=r.move (μ:=μ) (μ':=μ.free) (λ_ _ e=>e) λa u e b c=>⟨e,b,λz=>c (Kz z)⟩
theorem bM(b:Rep K cl μ S H):Rep K cl μ.free S H:=b.move (λa m=>b.res a (Kz m)) rfl (λ_ _=>rfl) (λ_ _ e=>e) λa u e c d=>⟨e,c,λz=>d (Kz z)⟩
theorem cW(e:μ.rs=p::rs)(r:RDs K μ H ds vs):RDs K μ (upd H p o) ds vs:=r.move (λ_ _ e=>e) λa u q c b=>⟨by rw[a9 (λz=>b (by rw[e,z];exact Hf))];exact q,c,b⟩
theorem rZ(e:μ.rs=p::rs)(r:RD K μ H d v):RD K μ (upd H p o) d v:=r.move (λ_ _ e=>e) λa u q c b=>⟨by rw[a9 (λz=>b (by rw[e,z];exact Hf))];exact q,c,b⟩
theorem cK(e:μ.rs=p::rs)(h:H p=some (.lst xs))(b:Rep K cl μ S H):Rep K cl μ S (upd H p o):=by
 have g:=(b.res p (by rw[e];exact Hf)).1;refine b.move (λa m=>?_) rfl (λa m=>a9 λz=>g (z▸m)) (λa u q=>by rw[a9 (kY q h (by intro z;cases z))];exact q) λa u q f c=>⟨by rw[a9 (λz=>c (by rw[e,z];exact Hf))];exact q,f,c⟩;obtain⟨d,u,i⟩:=b.res a m;by_cases z:a=p
 ·subst z;exact⟨d,o,b9⟩
 ·exact⟨d,u,by rw[a9 z];exact i⟩
end
inductive Fl where
 | nx (ρ:Env) | rt (d:D) | bk (ρ:Env) | ct (ρ:Env)
def FlOk(K:PySem.W.Frag)(D:Ends)(a:Fl)(μ:Mp)(H:Hp):Prop:=match a with
 | .nx ρ=>∀σ,EnvOk K μ H ρ σ->D.nx σ H
 | .rt d=>∀v,RD K μ H d v->D.rt v H
 | .bk ρ=>∀σ,EnvOk K μ H ρ σ->D.bk σ H
 | .ct ρ=>∀σ,EnvOk K μ H ρ σ->D.ct σ H
def sD(K:PySem.W.Frag)(cl:ClW)(xe:Addr->Hp->Prop)(f:Env->M Fl):TS:=λD σ H=>∃μ S ρ,EnvOk K μ H ρ σ/\Rep K cl μ S H/\Post K cl xe μ H (f ρ S) λfl _ μ' H'=>FlOk K D fl μ' H'
def DO(f g:Env->M Fl)(ρ:Env):M Fl:=bind (f ρ) λa=>match a with
 | .nx b=>g b
 | a=>ret a
section
variable {X:Cx}{cl:ClW}{xe:Addr->Hp->Prop}{e:Expr}{st:Stmt}{sts:List Stmt}{pos:Pos}{f:Env->M D}{g h:Env->M Fl}
theorem O1:PS X st (sD X.K cl xe λ_=>bad):=λ_ _ _ _ _ _ ⟨_,_,_,_,_,p⟩=>p.elim
theorem oK:PSs X [] (sD X.K cl xe λρ=>ret (.nx ρ)):=PSs.imp tR λD σ H ⟨μ,S,ρ,b,a,p⟩=>p.ret μ H (Lat.refl _ _) a σ b
theorem wl(h1:PS X st (sD X.K cl xe g))(h2:PSs X sts (sD X.K cl xe h)):PSs X (st::sts) (sD X.K cl xe (DO g h)):=PSs.imp (Q8 h1 h2) λD σ H ⟨μ,S,ρ,eo,rp,p⟩=>
 ⟨μ,S,ρ,eo,rp,p.bind.imp λfl S1 μ1 H1 l1 r1 p1=>by
  cases fl with
  | nx ρ1=>exact λσ1 eo1=>⟨μ1,S1,ρ1,eo1,r1,p1⟩
  | rt d=>exact p1.ret μ1 H1 (Lat.refl _ _) r1
  | bk ρ1=>exact p1.ret μ1 H1 (Lat.refl _ _) r1
  | ct ρ1=>exact p1.ret μ1 H1 (Lat.refl _ _) r1⟩
theorem sI(c:PE X e (tD X.K cl xe f))(k:n9 e=true):PS X (.Expr e pos) (sD X.K cl xe λρ=>bind (f ρ) λ_=>ret (.nx ρ)):=PS.imp (Z8 c (C9 k)) λD σ H ⟨μ,S,ρ,b,l,p⟩=>
 ⟨μ,S,ρ,b,l,p.bind.imp λd S1 a i h j g v m=>g.ret a i (Lat.refl _ _) j σ (b.later h)⟩
theorem kZ(c:PE X e (tD X.K cl xe f)):PS X (.Return (some e) pos) (sD X.K cl xe λρ=>bind (f ρ) λd=>ret (.rt d)):=PS.imp (BV c) λD σ H ⟨μ,S,ρ,i,k,p⟩=>
 ⟨μ,S,ρ,i,k,p.bind.imp λd S1 a h l j g v b=>g.ret a h (Lat.refl _ _) j v b⟩
theorem yt(k:PT X c (tBo X.K cl xe t))(m:PSs X a (sD X.K cl xe g))(l:PSs X b (sD X.K cl xe h)):PS X (.If c a b pos) (sD X.K cl xe λρ=>bind (t ρ) λq=>if q=true then g ρ else h ρ):=PS.imp (L2.ps_if k m l) λD σ H ⟨μ,S,ρ,e,n,p⟩=>
 ⟨μ,S,ρ,e,n,p.bind.imp λq S1 d o i j f=>by
  cases q with
  | true=>exact⟨d,S1,ρ,e.later i,j,f⟩
  | false=>exact⟨d,S1,ρ,e.later i,j,f⟩⟩
theorem tX(q:X.N.Nodup)(g:X.N[i]?=some x)(n:Loc X.env.scope x)(j:PE X e (tD X.K cl xe f))(o:n9 e=true)(s:X.fn x=true\/X.env.scope.names.lookup x=some .local) :
  PS X (.Assign [.Name x pos'] e pos) (sD X.K cl xe λρ=>bind (f ρ) λd=>ret (.nx (ρ.set i (some d)))):=PS.imp (nL q g n j (C9 o) s) λD σ H ⟨μ,S,ρ,b,r,p⟩=>
 ⟨μ,S,ρ,b,r,p.bind.imp λd S1 a l k m h v c=>h.ret a l (Lat.refl _ _) m _ ((b.later k).set c i)⟩
def vG(K:PySem.W.Frag)(cl:ClW)(tg:D->Env->Option Env):TG:=λv σ H Q=>∃μ S ρ d ρ',EnvOk K μ H ρ σ/\Rep K cl μ S H/\RD K μ H d v/\tg d ρ=some ρ'/\∀σ',EnvOk K μ H ρ' σ'->Q σ' H
theorem PG.imp(h:PG X t u)(k:∀v σ H Q,u' v σ H Q->u v σ H Q):PG X t u':=λpins s σ H v w Q I r q=>h pins s σ H v w Q I r (k v σ H Q q)
theorem sM(h:X.N.Nodup)(a:X.N[i]?=some x)(f:Loc X.env.scope x)(j:X.fn x=true\/X.env.scope.names.lookup x=some .local):PG X (.Name x pos') (vG X.K cl λd ρ=>some (ρ.set i (some d))):=
 PG.imp (L9 h a f j) λv σ H Q ⟨μ,S,ρ,d,g,c,k,b,e,q⟩=>by
  cases e;exact q _ (c.set b i)
def bE:List Nat->List D->Env->Option Env
 | [],[],ρ=>some ρ
 | i::a,d::ds,ρ=>bE a ds (ρ.set i (some d))
 | _,_,_=>none
def B2(a:List Nat)(d:D)(ρ:Env):Option Env:=match d with
 | .tup ds=>bE a ds ρ
 | _=>none
inductive NamesAt(X:Cx):List Expr->List Nat->Prop where
 | nil:NamesAt X [] []
 | cons {x:Str} {p:Pos} {i:Nat} {ts:List Expr} {is:List Nat}:X.N[i]?=some x->Loc X.env.scope x->(X.fn x=true\/X.env.scope.names.lookup x=some .local)->NamesAt X ts is->NamesAt X (.Name x p::ts) (i::is)
theorem mN(hN:X.N.Nodup)  {ts:List Expr}{is:List Nat}(h:NamesAt X ts is):PGs X ts (λvs σ H Q=>∃μ ds ρ ρ',EnvOk X.K μ H ρ σ/\RDs X.K μ H ds vs/\bE is ds ρ=some ρ'/\∀σ',EnvOk X.K μ H ρ' σ'->Q σ' H):=by
 induction h with
 | nil=>
  intro pins s σ H vs us Q I r ⟨μ,ds,ρ,ρ',eo,rd,e,q⟩;cases ds with
  | nil=>
   cases rd;cases e;exact jt pins s σ H [] us Q I r ⟨rfl,q σ eo⟩
  | cons d ds=>cases e
 | @cons x p i ts is h1 h2 h3 h4 ih=>
  intro pins s σ H vs us Q I r ⟨μ,ds,ρ,ρ',eo,rd,e,q⟩;cases ds with
  | nil=>cases e
  | cons d ds=>
   cases rd with
   | cons r1 r2=>exact ab (L9 (i:=i) hN h1 h2 h3) ih rfl pins s σ H _ us Q I r ⟨_,_,rfl,μ,ds,_,ρ',eo.set r1 i,r2,e,q⟩
theorem Q5{ts:List Expr}{is:List Nat}(h:NamesAt X ts is):(assignEach ts X.env).length=is.length/\(assignEach ts X.env).findIdx? (·.1)=none:=by
 induction h with
 | nil=>exact⟨rfl,rfl⟩
 | @cons x p i ts is h1 h2 h3 h4 ih=>
  refine⟨by show(assignEach ts X.env).length+1=_;rw[ih.1];rfl,?_⟩;show((false,assign (.Name x p) X.env)::assignEach ts X.env).findIdx? (·.1)=none;rw[List.findIdx?_cons];simp[ih.2]
theorem aw:∀{b:List Nat}{ds:List D}{ρ a:Env},bE b ds ρ=some a->ds.length=b.length
 | [],[],_,_,_=>rfl
 | _::_,_::_,_,_,e=>by simp[aw (by simpa [bE] using e)]
 | [],_::_,_,_,e=>by cases e
 | _::_,[],_,_,e=>by cases e
theorem kc(hc:X.calm=true)(hN:X.N.Nodup)(h:NamesAt X ts is):PG X (.Tuple ts k pos') (vG X.K cl (B2 is)):=
 PG.imp (qV hc (mN hN h) (Q5 h).1 (Q5 h).2) λv σ H Q ⟨μ,S,ρ,d,ρ',eo,rp,rd,e,q⟩=>by
  cases rd with
  | tup h1 h2=>exact⟨_,_,rfl,h1.sq,by rw[<- h2.length];exact aw e,μ,_,ρ,ρ',eo,h2,e,q⟩
  | _=>cases e
def mo:Expr->Bool
 | .Tuple ..=>false
 | _=>true
def aR(tg:D->Env->Option Env)(d:D)(ρ:Env):M Fl:=match tg d ρ with
 | some a=>ret (.nx a)
 | none=>bad
theorem uT(n:X.calm=true)(t:X.N.Nodup)(h:NamesAt X ts is)(o:PE X e (tD X.K cl xe f))(s:n9 e=true)(i:mo e=true):PS X (.Assign [.Tuple ts k pos'] e pos) (sD X.K cl xe λρ=>bind (f ρ) λd=>aR (B2 is) d ρ):=
 PS.imp (gq o (kc n t h) (by unfold swapsWithSole;exact C9 s) (by cases e <;> first | rfl | (exact absurd i (by simp[mo]))) rfl) λD σ H ⟨μ,S,ρ,j,u,p⟩=>
  ⟨μ,S,ρ,j,u,p.bind.imp λd S1 a r q l b v m=>by
   cases c:B2 is d ρ with
   | none=>simp only[aR,c]at b;exact b.elim
   | some g=>simp only[aR,c]at b;exact⟨a,S1,ρ,d,g,j.later q,l,m,c,b.ret a r (Lat.refl _ _) l⟩⟩
end
structure LatR(μ:Mp)(H:Hp)(μ':Mp)(H':Hp):Prop where
 pre:∀(n:Nat)(a:Addr),μ.pl[n]?=some a->μ'.pl[n]?=some a
 oth:∀a o,H a=some o->a∉μ.pl->H' a=some o
 new:∀a,a∈μ'.pl->a∈μ.pl\/H a=none
 rsw:∀a,a∈μ'.rs->a∈μ.rs\/H a=none
theorem Lat.r{H H':Hp}(l:Lat μ H μ' H'):LatR μ H μ' H':=⟨l.pre,l.oth,l.new,λa m=>.inl (by rw[l.rsv]at m;exact m)⟩
structure LatU(μ:Mp)(H:Hp)(μ':Mp)(H':Hp):Prop where
 pre:∀(n:Nat)(a:Addr),μ.pl[n]?=some a->μ'.pl[n]?=some a
 oth:∀a o,H a=some o->a∉μ.pl->a∉μ.rs->H' a=some o
 new:∀a,a∈μ'.pl->a∈μ.pl\/H a=none
 rsw:∀a,a∈μ'.rs->a∈μ.rs\/H a=none
theorem LatR.u{H H':Hp}(l:LatR μ H μ' H'):LatU μ H μ' H':=⟨l.pre,λa o e n _=>l.oth a o e n,l.new,l.rsw⟩
theorem LatU.out{H H':Hp}(l:LatU μ H μ' H')(a:Addr)(u:HO)(e:H a=some u)(c:a∉μ.pl)(b:a∉μ.rs):H' a=some u/\a∉μ'.pl/\a∉μ'.rs:=by
 refine⟨l.oth a u e c b,λz=>?_,λz=>?_⟩
 ·rcases l.new a z with q | q
  ·exact c q
  ·rw[e]at q;cases q
 ·rcases l.rsw a z with q | q
  ·exact b q
  ·rw[e]at q;cases q
theorem RD.laterU{K:PySem.W.Frag}{μ μ':Mp}{H H':Hp}(l:LatU μ H μ' H'){d:D}{v:V}(r:RD K μ H d v):RD K μ' H' d v:=r.move l.pre l.out
theorem RDs.laterU{K:PySem.W.Frag}{μ μ':Mp}{H H':Hp}(l:LatU μ H μ' H'){ds:List D}{vs:List V}(r:RDs K μ H ds vs):RDs K μ' H' ds vs:=r.move l.pre l.out
abbrev Src:=Nat->Sto->Option (Option D)
def bY(K:PySem.W.Frag)(cl:ClW)(J:It)(i:Nat)(μ2:Mp)(H2:Hp)(S2:Sto)(o:Option (Option D)):Prop:=match o with
 | some (some d)=>J.go i H2/\∀x H3,J.yld i H2 x H3->Lat μ2 H2 μ2 H3/\Rep K cl μ2 S2 H3/\RD K μ2 H3 d x
 | some none=>J.stop i H2
 | none=>True
def Yl(K:PySem.W.Frag)(cl:ClW)(J:It)(μ:Mp)(H:Hp)(src:Src):Prop:=∀(i:Nat)(μ2:Mp)(H2:Hp)(S2:Sto),LatU μ H μ2 H2->Rep K cl μ2 S2 H2->bY K cl J i μ2 H2 S2 (src i S2)
def tIt(K:PySem.W.Frag)(cl:ClW)(xe:Addr->Hp->Prop)(f:Env->M (Src×Nat)):TI:=λσ H R=>∃μ S ρ,EnvOk K μ H ρ σ/\Rep K cl μ S H/\Post K cl xe μ H (f ρ S) λp _ μ' H'=>∀J,Yl K cl J μ' H' p.1->R J H'
theorem PI.imp(h:PI X tg it t)(k:∀σ H R,t' σ H R->t σ H R):PI X tg it t':=λpins s σ H R I q=>h pins s σ H R I (k σ H R q)
theorem zz{tg l:Expr}{m:TE}(r:PE X l m):PI X tg l (λσ H R=>m σ H λx d=>∃a,x=.ref a/\(((∃xs,SqL X.K d a xs)/\R (Itl X.K a) d)\/((∃xs,SqT X.K d a xs)/\R (Itt X.K a) d))):=by
 intro pins s σ H R I h;refine thn (r pins s σ H _ I h) λv f ⟨x,d,c,n,j⟩=>?_;obtain⟨a,e,j⟩:=j;subst e;cases n;rcases j with ⟨⟨xs,g⟩,q⟩ | ⟨⟨xs,g⟩,q⟩
 ·obtain⟨k,t,p,hz⟩:=c.list g;refine KU p.isList ?_;refine⟨f.heap.objs.size,[f.heap.objs.size],_,_,d,rfl,c.kept λb o e=>Ha _ e,lP a _,⟨_,Hr _ rfl,rfl,rfl⟩,λb i=>?_,q⟩;have e:b=f.heap.objs.size:=by simpa using i
  subst e;exact c.fpOk (Hd _) (c.hok.fresh (Hd _))
 ·obtain⟨k,t,p,hz⟩:=c.tuple g;refine JA (p) ?_;refine⟨f.heap.objs.size,[f.heap.objs.size],_,_,d,rfl,c.kept λb o e=>Ha _ e,gf a _,⟨_,Hr _ rfl,rfl,rfl⟩,λb i=>?_,q⟩;have e:b=f.heap.objs.size:=by simpa using i
  subst e;exact c.fpOk (Hd _) (c.hok.fresh (Hd _))
def B9(ds:List D):Src:=λi _=>some ds[i]?
def O8(n:Nat):Src:=λi S=>match S[n]? with
 | some (.lst es)=>some es[i]?
 | _=>none
def iA(lo:Int)(n:Nat):Src:=λi _=>some (if i<n then some (.int (lo+i))else none)
section
variable {K:PySem.W.Frag}{cl:ClW}{μ:Mp}{H:Hp}
theorem AO(h:TupAt K μ H a xs)(r:RDs K μ H ds xs):Yl K cl (Itt K a) μ H (B9 ds):=λi μ2 g S2 l y=>by
 have b:SqT K g a xs:=by
  rcases h with ⟨q,n1,n2⟩ | q
  ·rcases q with q | ⟨o,q⟩
   ·exact .inl (.inl (l.oth _ _ q n1 n2))
   ·exact .inl (.inr ⟨o,l.oth _ _ q n1 n2⟩)
  ·obtain⟨o,c,n,u,j,w,m,t,_⟩:=q;exact .inr ⟨o,c,n,u,j,w,m,t⟩
 have k:=r.laterU l;show bY K cl (Itt K a) i μ2 g S2 (some ds[i]?);cases e:ds[i]? with
 | none=>exact⟨xs,b,by rw[<- r.length];exact Jh.mp e⟩
 | some d=>
  obtain⟨v,f,p⟩:=k.get e;exact⟨⟨xs,v,b,f⟩,λx z ⟨s,q⟩=>by subst s;have:=q xs b;rw[f]at this;cases this;exact⟨Lat.refl _ _,y,p⟩⟩
theorem nh(h:LstAt μ H a xs\/ScrAt K μ H a xs)(r:RDs K μ H ds xs):Yl K cl (Itl K a) μ H (B9 ds):=λi μ2 f S2 l m=>by
 have b:SqL K f a xs:=by
  rcases h with ⟨q,n1,n2⟩ | ⟨q,n1,n2⟩ | q
  ·exact .inl (.inl (l.oth _ _ q n1 n2))
  ·rcases q with q | ⟨o,q⟩
   ·exact .inl (.inl (l.oth _ _ q n1 n2))
   ·exact .inl (.inr ⟨o,l.oth _ _ q n1 n2⟩)
  ·exact .inr q
 have g:=r.laterU l;show bY K cl (Itl K a) i μ2 f S2 (some ds[i]?);cases e:ds[i]? with
 | none=>exact⟨xs,b,by rw[<- r.length];exact Jh.mp e⟩
 | some d=>
  obtain⟨v,c,j⟩:=g.get e;exact⟨⟨xs,v,b,c⟩,λx n ⟨k,q⟩=>by subst k;have:=q xs b;rw[c]at this;cases this;exact⟨Lat.refl _ _,m,j⟩⟩
theorem AE{n:Nat}(h:μ.pl[n]?=some a):Yl K cl (Itl K a) μ H (O8 n):=λi μ2 H2 S2 l rp=>by
 show bY K cl (Itl K a) i μ2 H2 S2 (match S2[n]? with
  | some (.lst es)=>some es[i]?
  | _=>none)
 cases q1:S2[n]? with
 | none=>exact True.intro
 | some o=>
  cases o with
  | dcT _=>exact True.intro
  | dct _=>exact True.intro
  | exc _ _=>exact True.intro
  | lst es=>
   obtain⟨xs,h1,h2⟩:=rp.ats n _ a q1 (l.pre _ _ h);have hq:SqL K H2 a xs:=.inl (.inl h1);show bY K cl (Itl K a) i μ2 H2 S2 (some es[i]?);cases e:es[i]? with
   | none=>exact⟨xs,hq,by rw[<- h2.length];exact Jh.mp e⟩
   | some d=>
    obtain⟨v,e1,r1⟩:=h2.get e;exact⟨⟨xs,v,hq,e1⟩,λx H3 ⟨e3,q⟩=>by subst e3;have:=q xs hq;rw[e1]at this;cases this;exact⟨Lat.refl _ _,rp,r1⟩⟩
theorem pN{lo:Int}{n:Nat}:Yl K cl (Itr lo n) μ H (iA lo n):=λi μ2 d S2 l e=>by
 show bY K cl (Itr lo n) i μ2 d S2 (some (if i<n then some (.int (lo+i))else none));by_cases a:i<n
 ·rw[if_pos a];exact⟨a,λx f ⟨c,b⟩=>by subst c b;exact⟨Lat.refl _ _,e,.int _⟩⟩
 ·rw[if_neg a];exact Jv a
end
def k4(d:D):M (Src×Nat):=match d with
 | .tup ds=>ret (B9 ds,ds.length+1)
 | .lst ds=>ret (B9 ds,ds.length+1)
 | .scr ds=>ret (B9 ds,ds.length+1)
 | .ref n=>λS=>match S[n]? with
  | some (.lst ds)=>.ok (O8 n,ds.length+1) S
  | _=>.bad
 | _=>bad
def u7(ds:List D):M (Src×Nat):=match ds with
 | [.int j]=>if -(2 ^ 62)<=j/\j<2 ^ 62 then ret (iA 0 j.toNat,j.toNat+1)else bad
 | [.int i,.int j]=>if -(2 ^ 62)<=i/\i<2 ^ 62/\-(2 ^ 62)<=j/\j<2 ^ 62 then ret (iA i (j-i).toNat,(j-i).toNat+1)else bad
 | _=>bad
section
variable {X:Cx}{cl:ClW}{xe:Addr->Hp->Prop}{e:Expr}{tg:Expr}{pos:Pos}{f:Env->M D}
theorem jg{tg e:Expr}:PI X tg e (tIt X.K cl xe λ_=>bad):=λ_ _ _ _ _ _ ⟨_,_,_,_,_,p⟩=>p.elim
theorem tV(h:PE X e (tD X.K cl xe f)):PI X tg e (tIt X.K cl xe λρ=>bind (f ρ) k4):=PI.imp (zz h) λσ H R ⟨μ,S,ρ,eo,rp,p⟩=>
 ⟨μ,S,ρ,eo,rp,p.bind.imp λd S1 μ1 H1 l1 r1 p1 v rv=>by
  cases rv with
  | tup h r=>exact⟨_,rfl,.inr ⟨⟨_,h.sq⟩,p1.ret μ1 H1 (Lat.refl _ _) r1 _ (AO h r)⟩⟩
  | lst h r=>exact⟨_,rfl,.inl ⟨⟨_,h.sq⟩,p1.ret μ1 H1 (Lat.refl _ _) r1 _ (nh (.inl h) r)⟩⟩
  | scr h r=>exact⟨_,rfl,.inl ⟨⟨_,h.sq⟩,p1.ret μ1 H1 (Lat.refl _ _) r1 _ (nh (.inr h) r)⟩⟩
  | ref h=>
   rename_i n a;simp only[k4]at p1;cases q1:S1[n]? with
   | none=>rw[q1]at p1;exact p1.elim
   | some o=>
    rw[q1]at p1;cases o with
    | lst ds=>
     obtain⟨xs,h1,h2⟩:=r1.ats n _ a q1 h;exact⟨_,rfl,.inl ⟨⟨xs,.inl (.inl h1)⟩,p1 μ1 H1 (Lat.refl _ _) r1 _ (AE h)⟩⟩
    | dct _=>exact p1.elim
    | exc _ _=>exact p1.elim
    | dcT _=>exact p1.elim
  | _=>exact False.elim p1⟩
theorem gr(hg:Gl X "range") (hm:X.mg "range" = none) (ha:PA X [a] (tDs X.K cl xe fs)) (hs:noStar a=true):PI X tg (.Call (.Name "range" p) [a] [] pos) (tIt X.K cl xe λρ=>bind (fs ρ) λds=>if ds.length=1 then u7 ds else bad):=
 PI.imp (kg hg hm ha (h9 hs)) λσ H R ⟨μ,S,ρ,eo,rp,p⟩=>⟨μ,S,ρ,eo,rp,p.bind.imp λds S1 μ1 H1 l1 r1 p1 vs rvs=>by
  cases rvs with
  | nil=>exact False.elim p1
  | cons h t=>
   cases t with
   | cons _ t=>rw[if_neg (by simp)]at p1;exact p1.elim
   | nil=>
    rename_i d0 v0;rw[if_pos (show([d0]:List D).length=1 from rfl)]at p1;cases h with
    | int j=>
     obtain⟨⟨h1,h2⟩,p1⟩:=Post.guard p1;exact⟨j,rfl,h1,h2,p1 μ1 H1 (Lat.refl _ _) r1 _ pN⟩
    | _=>exact False.elim p1⟩
end
def u4(src:Src)(tg:D->Env->Option Env)(body:Env->M Fl):Nat->Nat->Env->M Fl
 | 0,_,_=>bad
 | m+1,i,ρ=>λS=>match src i S with
  | none=>.bad
  | some none=>.ok (.nx ρ) S
  | some (some d)=>match tg d ρ with
   | none=>.bad
   | some b=>bind (body b) (λc=>match c with
    | .nx a=>u4 src tg body m (i+1) a
    | .ct a=>u4 src tg body m (i+1) a
    | .bk a=>ret (.nx a)
    | .rt d=>ret (.rt d)) S
section
variable {X:Cx}{cl:ClW}{xe:Addr->Hp->Prop}{iter tgt:Expr}{pos:Pos}{fi:Env->M (Src×Nat)}{tg:D->Env->Option Env}{g:Env->M Fl}{body:List Stmt}
theorem wM(Y:PassesOwn (model X.prog X.w) X.A X.env X.xe)(hc:X.calm=true)(hi:PI X tgt iter (tIt X.K cl xe fi))(hg:PG X tgt (vG X.K cl tg))(hb:PSs X body (sD X.K cl xe g))(hn:j8 iter=true) :
  PS X (.For tgt iter body [] pos) (sD X.K cl xe λρ=>bind (fi ρ) λp=>u4 p.1 tg g p.2 0 ρ):=PS.imp (Az Y hc hi hg hb (j3 hn)) λD σ H ⟨μ,S,ρ,T,rp,p⟩=>by
 refine⟨μ,S,ρ,T,rp,p.bind.imp λsm S1 f A l1 r1 p1 J yl=>?_⟩;obtain⟨src,m⟩:=sm;refine⟨λi m σ H=>∃μ2 S2 h,LatR f A μ2 H/\EnvOk X.K μ2 H h σ/\Rep X.K cl μ2 S2 H/\Post X.K cl xe μ2 H (u4 src tg g m i h S2) (λw _ μ' H'=>FlOk X.K D w μ' H'),⟨m,f,S1,ρ,(Lat.refl _ _).r,T.later l1,r1,p1⟩,?_⟩;rintro i m F I ⟨μ2,S2,h,s,u,U,j⟩;cases m with
 | zero=>exact j.elim
 | succ m=>
  have y:bY X.K cl J i μ2 I S2 (src i S2):=yl i μ2 I S2 s.u U;simp only[u4]at j;cases O:src i S2 with
  | none=>rw[O]at j;exact j.elim
  | some o=>
   rw[O]at j y;cases o with
   | none=>exact .inl ⟨y,j μ2 I (Lat.refl _ _) U F u⟩
   | some d=>
    obtain⟨y1,Z⟩:=y;cases L:tg d h with
    | none=>simp only[L]at j;exact j.elim
    | some t=>
     simp only[L]at j;refine .inr ⟨y1,λv H'=>∃l P b,LatR f A l H'/\EnvOk X.K l H' b v/\Rep X.K cl l P H'/\Post X.K cl xe l H' (u4 src tg g m (i+1) b P) (λw _ μ' H'=>FlOk X.K D w μ' H'),λv H' q=>⟨m,HS _,q⟩,λx H3 hy=>?_⟩;obtain⟨M,V,E⟩:=Z x H3 hy;refine⟨μ2,S2,h,d,t,u.later M,V,E,L,λσ3 K=>?_⟩;refine⟨μ2,S2,t,K,V,(Post.later j M).bind.imp λw W c N l4 B C=>?_⟩;have R:LatR f A c N:=by
      have k:=M.trans l4;refine⟨λn a e=>k.pre n a (s.pre n a e),λa o e n=>k.oth a o (s.oth a o e n) (λz=>(s.new a z).elim n (λq=>by rw[e]at q;cases q)),λa m=>(k.new a m).elim (λz=>s.new a z) (λz=>?_),λa m=>s.rsw a (by rw[<- k.rsv];exact m)⟩;by_cases Q:a∈f.pl
      ·exact .inl Q
      ·right
       cases e:A a with
       | none=>rfl
       | some o=>rw[s.oth a o e Q]at z;cases z
     cases w with
     | nx b=>exact λG r=>⟨c,W,b,R,r,B,C⟩
     | ct b=>exact λG r=>⟨c,W,b,R,r,B,C⟩
     | bk b=>exact C.ret c N (Lat.refl _ _) B
     | rt d=>exact C.ret c N (Lat.refl _ _) B
end
structure HLat(μ:Mp)(H:Hp)(p:Addr)(μ2:Mp)(H2:Hp):Prop where
 r:LatR μ H μ2 H2
 rs:μ2.rs=p::μ.rs
theorem HLat.lat{H c H':Hp}{p:Addr}(h:HLat μ H p μ2 c)(l:Lat μ2 c μ' H'):Lat μ H μ'.free H':=by
 refine⟨λn a e=>l.pre n a (h.r.pre n a e),λa o e n=>?_,λa m=>?_,by show μ'.rs.tail=μ.rs;rw[l.rsv,h.rs];rfl⟩
 ·have d:=λz=>(h.r.new a z).elim n λq=>by rw[e]at q;cases q
  exact l.oth a o (h.r.oth a o e n) d
 ·rcases l.new a m with q | q
  ·exact h.r.new a q
  ·by_cases b:a∈μ.pl
   ·exact .inl b
   ·right
    cases e:H a with
    | none=>rfl
    | some o=>rw[h.r.oth a o e b]at q;cases q
theorem HLat.step{H c b:Hp}{p:Addr}(h:HLat μ H p μ2 c)(l:Lat μ2 c μ3 b):HLat μ H p μ3 b:=by
 have k:=h.lat l;refine⟨⟨k.pre,k.oth,k.new,λa m=>h.r.rsw a (by rw[<- l.rsv];exact m)⟩,by rw[l.rsv];exact h.rs⟩
section
variable {K:PySem.W.Frag}{cl:ClW}{xe:Addr->Hp->Prop}{α β:Type}{μ μ2:Mp}{H H2:Hp}{p:Addr}{S:Sto}
theorem Post.at{k:α->M β}{G:β->Sto->Mp->Hp->Prop}(h:Post K cl xe μ H (L3.bind m k S) G)(l:HLat μ H p μ2 H2):Post K cl xe μ2 H2 (m S) (λa S' _ _=>Post K cl xe μ H (k a S') G):=by
 unfold L3.bind at h;cases e:m S with
 | ok a S1=>rw[e]at h;exact λ_ _ _ _=>h
 | exn n S1=>rw[e]at h;exact λμ' H' a k r q=>h μ'.free H' a (l.lat k) (bM r) q
 | bad=>rw[e]at h;exact h
end
def J6(src:Src)(t:Env->M Bool)(f:Env->M D)(mk:D->Env):Nat->Nat->List D->M (List D)
 | 0,_,_=>bad
 | m+1,i,es=>λS=>match src i S with
  | none=>.bad
  | some none=>.ok es S
  | some (some d)=>bind (t (mk d)) (λb=>if b=true then bind (f (mk d)) (λy=>if es.length<sizeLine then J6 src t f mk m (i+1) (es++[y])else bad)else J6 src t f mk m (i+1) es) S
def A4(caps:List Nat)(ρ:Env):Env:=caps.map λi=>(ρ[i]?).join
theorem kb{K:PySem.W.Frag}{μ:Mp}{H:Hp}{ρ:Env}{σ:L2.St}{caps:List Nat}{d:D}{x:V}(eo:EnvOk K μ H ρ σ)(r:RD K μ H d x):EnvOk K μ H (some d::A4 caps ρ) (some x::A3 caps σ):=by
 refine⟨by simp[A4,A3],λi e he=>?_⟩;cases i with
 | zero=>simp at he;subst he;exact⟨x,rfl,r⟩
 | succ j=>
  have he:(A4 caps ρ)[j]?=some (some e):=he;unfold A4 at he;rw[HK]at he;cases q:caps[j]? with
  | none=>rw[q]at he;cases he
  | some i=>
   rw[q]at he;have h':(ρ[i]?).join=some e:=HH he;have h2:ρ[i]?=some (some e):=by
    cases q2:ρ[i]? with
    | none=>rw[q2]at h';cases h'
    | some o=>rw[q2]at h';exact congrArg some h'
   obtain⟨v,e1,r1⟩:=eo.2 i e h2;refine⟨v,?_,r1⟩;show(A3 caps σ)[j]?=_;unfold A3;rw[HK,q];show some (σ[i]?).join=_;rw[e1];rfl
def jb(caps:List Nat)(b:Env->M (Src×Nat))(t:Env->M Bool)(f:Env->M D)(ρ:Env):M (List D):=bind (b ρ) λa=>J6 a.1 t f (λd=>some d::A4 caps ρ) a.2 0 []
section
variable {X:Cx}{cl:ClW}{xe:Addr->Hp->Prop}{elt iter:Expr}{x:Str}{px pos:Pos}{ifs:List Expr}{scope:Scope}{N':List Str}{caps:List Nat}{fi:Env->M (Src×Nat)}{t:Env->M Bool}{f:Env->M D}
theorem ke{X:Cx}:PTL X [] (tBo X.K cl xe λ_=>ret true):=λpins s σ H Q I ⟨μ,S,ρ,b,a,p⟩=>vn pins s σ H Q I (p μ H (Lat.refl _ _) a)
end
def eM(K:PySem.W.Frag)(cl:ClW)(xe:Addr->Hp->Prop)(fs:Env->M (List D)):TE:=λσ H Q=>∃μ S ρ,EnvOk K μ H ρ σ/\Rep K cl μ S H/\Post K cl xe μ H (fs ρ S) λds _ μ' H'=>∀acc ys,LstAt μ' H' acc ys->RDs K μ' H' ds ys->Q (.ref acc) H'
theorem M5(m:M α)(k:α->M β)(k2:β->M γ):bind (bind m k) k2=bind m λa=>bind (k a) k2:=by
 funext S;unfold bind;cases m S <;> rfl
theorem cH{k:α->M β}{S:Sto}(h:m S=m' S):bind m k S=bind m' k S:=by
 unfold bind;rw[h]
def O0(src:Src)(t:Env->M Bool)(c:Env->M (Src×Nat))(e:Env->M Bool)(f:Env->M D)(a:Env):Nat->Nat->List D->M (List D)
 | 0,_,_=>bad
 | m+1,i,es=>λS=>match src i S with
  | none=>.bad
  | some none=>.ok es S
  | some (some d)=>bind (t (some d::none::a)) (λb=>if b=true then bind (c (some d::none::a)) (λg=>bind (J6 g.1 e f (λh=>some d::some h::a) g.2 0 es) (λes'=>O0 src t c e f a m (i+1) es'))else O0 src t c e f a m (i+1) es) S
def cc(caps:List Nat)(c:Env->M (Src×Nat))(t:Env->M Bool)(a:Env->M (Src×Nat))(d:Env->M Bool)(f:Env->M D)(ρ:Env):M (List D):=bind (c ρ) λb=>O0 b.1 t a d f (A4 caps ρ) b.2 0 []
end L3
namespace L2
open PySem PySem.Spec PyProof.Rows
section
variable {prog:Program}{w:World}{A:Around}{E:Value->Shared->Prop}{s:Shared}
theorem T6{items}{x:Value}{Q:Value->Shared->Prop}(a:s.heap.IsTupleIter it l i)
  (h:s.heap.IsTuple l items) (e:items[i]?=some x)
  (g:∀h',h'.IsTupleIter it l (i+1)->Heap.SameBut it s.heap h'->Q x { s with heap:=h' }) :
  wpAny (model prog w) A (Builtin.SmallTypes.nextOf (.ref it)) Q E s:=by
 obtain⟨o,b,f,hd⟩:=id a;obtain⟨j,c,_,k,d⟩:=h;refine Gx (Iq a.typeIs F.slot_tuple_iterator_next
  (ID F.slot_tuple_iterator_next a.typeIs F.entry_tuple_iterator_next ?_ (F.args_tuple_iterator_next_1 _)))
 show wpAny _ _ (field (.ref it) 0 >>= _) _ _ s;refine Gx (Iw b hd (x:=.ref l) rfl ?_);rw[if_neg (show ¬ ((Value.ref l==Value.none)=true) from He)];refine Gx (Iw b hd rfl ?_);refine Gx (wpAny_seqItems c d ?_);simp only[JE,e];refine Gx (Jx b hd (by simp) (Gy ⟨x,rfl,Gy (g _ ?_ (IR ..))⟩));exact⟨_,HZ _ b (Obj.isFreed_of_fields (Obj.data_mapFields hd _)),(Obj.cls_mapFields ..).trans f,by
  rw[Obj.data_mapFields hd];simp[rawInt]⟩
theorem U9{items}{Q:Value->Shared->Prop}(f:A.handled=none)
  (a:s.heap.IsTupleIter it l i) (j:s.heap.IsTuple l items) (g:items[i]?=none)
  (h:∀h' e,Heap.ExtBut it s.heap h'->(∃o,h'.get? e=some o/\o.cls=.type "StopIteration")->E (.ref e) { s with heap:=h' }) :
  wpAny (model prog w) A (Builtin.SmallTypes.nextOf (.ref it)) Q E s:=by
 obtain⟨o,c,k,hd⟩:=id a;obtain⟨m,b,_,n,d⟩:=j;refine Gx (Iq a.typeIs F.slot_tuple_iterator_next
  (ID F.slot_tuple_iterator_next a.typeIs F.entry_tuple_iterator_next ?_ (F.args_tuple_iterator_next_1 _)))
 show wpAny _ _ (field (.ref it) 0 >>= _) _ _ s;refine Gx (Iw c hd (x:=.ref l) rfl ?_);rw[if_neg (show ¬ ((Value.ref l==Value.none)=true) from He)];refine Gx (Iw c hd rfl ?_);refine Gx (wpAny_seqItems b d ?_);simp only[JE,g];refine Gx (Lw (Gx (Jx c hd (by simp) ?_)));refine Gx ?_;refine Gx (HF ?_ (by size_fits));refine Gx (Ky (by first | rfl | (simp;rfl)) ?_);refine HF ?_ (by size_fits);refine Gx (wpAny_handled ?_);first | rw[f] | rw[f]
 refine Gx (Gy (wpAny_throw ?_));exact h _ _ (((IR ..).extBut.push _).push _) ⟨_,Hr _ rfl,rfl⟩
end
theorem pB{h h':Heap}{a:Addr}{items:Array Value}(x:h.IsTuple a items)(k:∀o,h.get? a=some o->h'.get? a=some o):h'.IsTuple a items:=let ⟨o,b,r⟩:=x;⟨o,k o b,r⟩
theorem rm(k:A.handled=none)(it l:Addr)(c:l≠it)(items:Array Value) :
  Draws prog w A it [it,l] items.size (λi v=>items[i]?=some v) (λi h=>h.IsTupleIter it l i/\h.IsTuple l items) where
 live:=λ_ _ st=>let ⟨o,b,_⟩:=st.1;⟨o,b⟩
 frame:=λ_ _ _ st f=>⟨(let ⟨o,b,r⟩:=st.1;⟨o,f it (by simp) o b,r⟩),pB st.2 λo e=>f l (by simp) o e⟩
 item:=λi s Q E d st g=>by
  refine T6 st.1 st.2 (x:=items[i]) (by simp[d]) λh' a hs'=>?_;exact g _ h' s.toks (by simp[d]) ⟨a,st.2.extBut hs'.extBut c⟩ hs'
 done:=λs Q E st j=>U9 k st.1 st.2 (by simp) j
theorem eR(l:Addr)(items:Array Value)(n:Nat)(b:Option Addr)(i:Array (Option Value)) :
  Meets (Builtin.«enumerate.__new__» ⟨[.type "enumerate",.ref l],[]⟩) (λ_ R s=>s.heap.get? l=some { cls:=.type "tuple",dict:=b,data:=.seq items n,slots:=i } /\
   R (.ok (.ret (.ref (s.heap.push { cls:=.type "tuple_iterator",data:=.fields #[.ref l,.int 0 0] }).objs.size)))
    { s with heap:=(s.heap.push { cls:=.type "tuple_iterator",data:=.fields #[.ref l,.int 0 0] }).push { cls:=.type "enumerate",data:=.fields #[.none,.bool false,.ref s.heap.objs.size,rawInt 0,.none,.none] } }):=
 .of_wp λprog w A R s h=>by
  obtain⟨j,g,d,k,m⟩:=s;obtain⟨a,h⟩:=h;have f:=sub_enumerate;have e:Heap.IsTuple (Shared.heap ⟨j,g,d,k,m⟩) l items:=⟨_,a,rfl,n,rfl⟩
  wp_walk using AutoSeq1.wpAny_loadPart' a
  refine wpAny_stack_any λst=>Gy ?_;split
  ·rename_i c _ _ _ _ _;cases (c==Value.type "enumerate")
   ·wp_walk using AutoSeq1.wpAny_loadPart' a,JA e
    exact⟨_,rfl,h⟩
   ·wp_walk using AutoSeq1.wpAny_loadPart' a,JA e
    exact⟨_,rfl,h⟩
  ·wp_walk using AutoSeq1.wpAny_loadPart' a,JA e
   exact⟨_,rfl,h⟩
section
variable {prog:Program}{w:World}{A:Around}{E:Value->Shared->Prop}{s:Shared}
theorem gk(i:s.heap.IsTuple l items)
  (h:∀h',IsEnum h' (s.heap.objs.size+1) s.heap.objs.size 0 .none->h'.IsTupleIter s.heap.objs.size l 0->h'.objs.size=s.heap.objs.size+2 ->
   (∀b o,s.heap.get? b=some o->h'.get? b=some o)->Q (.ref (s.heap.objs.size+1)) { s with heap:=h' }) :
  wpAny (model prog w) A (call (.type "enumerate") [.ref l]) Q E s:=by
 obtain⟨⟨c,d,j,g⟩,k,a,n,hd⟩:=i
 replace a:c=.type "tuple":=a
 replace hd:j=.seq items n:=hd
 subst a hd;refine callType_new F.called_enumerate (by decide) (F.typeCall_enumerate_1 _) (F.newCall_enumerate_1 _) (λe=>F.args_object_init_2 e _) F.entry_enumerate_new
  (eR l items n d g) ⟨k,?_⟩
 have hz:(s.heap.push { cls:=.type "tuple_iterator",data:=.fields #[.ref l,.int 0 0] }).objs.size=s.heap.objs.size+1:=IA ..;rw[hz];have f:IsEnum ((s.heap.push { cls:=.type "tuple_iterator",data:=.fields #[.ref l,.int 0 0] }).push
   { cls:=.type "enumerate",data:=.fields #[.none,.bool false,.ref s.heap.objs.size,rawInt 0,.none,.none] }) (s.heap.objs.size+1) s.heap.objs.size 0 .none:=by
  have:=Hr (s.heap.push { cls:=.type "tuple_iterator",data:=.fields #[.ref l,.int 0 0] })
   (o:={ cls:=.type "enumerate",data:=.fields #[.none,.bool false,.ref s.heap.objs.size,rawInt 0,.none,.none] }) rfl
  rw[hz]at this;exact this
 refine⟨⟨_,f,rfl⟩,h _ f ⟨_,Ha _ (Hr _ rfl),rfl,rfl⟩ (by rw[IA,hz]) λb o x=>Ha _ (Ha _ x)⟩
end
section
variable {X:Cx}{pins:List (Addr×Obj)}{σ:St}{H:Hp}{s:Shared}{h':Heap}
theorem Inv.turned2{t':Nat}{e it:Addr}(I:Inv X pins σ H s)(k:∀b o,b≠e->b≠it->s.heap.get? b=some o->h'.get? b=some o)(f:C6 X pins H e)(g:C6 X pins H it):Inv X pins σ H { s with heap:=h',toks:=t' }:=by
 obtain⟨a0,a1,a2,a3,a4,a5⟩:=f;obtain⟨b0,b1,b2,b3,b4,b5⟩:=g;have nit:∀b u,H b=some u->b≠e/\b≠it:=λb u q=>⟨λz=>(by rw[z,a0]at q;cases q),λz=>(by rw[z,b0]at q;cases q)⟩;have kk:∀b o,b∉[e,it]->s.heap.get? b=some o->h'.get? b=some o:=λb o hb q=>k b o (λz=>hb (by simp[z])) (λz=>hb (by simp[z])) q;refine I.step (g':=s.gens) (d':=s.drawn) (ch:=[e,it]) (λb hb=>?_) (λb o _ _ hc q _=>kk b o hc q) (λb o _ _ hc q _=>⟨o.slots,kk b o hc q⟩) (λ_ _ _ _ n=>n)
  (λb o hc q=>⟨o,kk b o hc q⟩) (λ_ _ q=>q) (λ_ _ _ q=>q) (λb ps q=>⟨#[],by rw[q];simp⟩) (λm hm=>?_) (λb u q=>?_) I.bare
 ·have z:b=e\/b=it:=by simpa using hb
  rcases z with rfl | rfl
  ·exact⟨a3,a1,a4,a5⟩
  ·exact⟨b3,b1,b4,b5⟩
 ·obtain⟨o,es,ep,ho,r⟩:=hm;exact⟨o,es,ep,k _ o (Ne.symm a1) (Ne.symm b1) ho,r⟩
 ·refine(I.hok b u q).stay (λc v hc r=>?_) (λ_ r=>r) λ_ _ r=>r;rcases hc with z | z
  ·rw[z]at r ⊢;exact k b v (nit b u q).1 (nit b u q).2 r
  ·exact k c v (nit c _ z).1 (nit c _ z).2 r
end
def M6(a:Hp->List V->Prop):It:=
 ⟨λi H=>∃xs x,a H xs/\xs[i]?=some x,λi H x H'=>∃p y,x=.ref p/\H p=none/\H'=upd H p (.tup [.int (i:Int),y])/\∀xs,a H xs->xs[i]?=some y,λi H=>∃xs,a H xs/\xs.length=i⟩
section
variable {P:Program}{w:World}{K:PySem.W.Frag}{elts:List Expr}{x1:Nat}{tp:Pos}
theorem bn{σ:St}{H:Hp}{s:Shared}{E:Value->Shared->Prop}{e it:Addr}{G:List Addr}{n i:Nat}{A:Nat->Value->Prop}{m:Nat->Heap->Prop}{j:Value}{y:V}{J:It}{tn:Nat->Heap->Prop}
  (I:Inv X pins σ H s) (g:∀b∈[e,it],C6 X pins H b) (D:Draws X.prog X.w X.A.in1 it G n A m) (B:IsEnum s.heap e it i j) (c:m i s.heap) (k:i<n) (v:e≠it) (f:e∉G)
  (R:∀u,A i u->RelV y u) (S:∀h',(∃o,IsEnum h' e it ((i:Int)+1) o)->m (i+1) h'->tn (i+1) h') (M:∀p,H p=none->J.yld i H (.ref p) (upd H p (.tup [.int (i:Int),y]))) :
  wpAny (model X.prog X.w) X.A (pyNext (.ref e)) (λr Z=>∃u,r=some u /\
   wpAny (model X.prog X.w) X.A (letOwnedTupleGo (.Tuple elts x1 tp) (.ref e) u) (λ_ F=>∃x H',Inv X pins σ H' F/\RelV x u/\J.yld i H x H'/\tn (i+1) F.heap/\∀b∈[e,it],H' b=none) E Z) E s:=by
 refine wpAny_pyNext_enum_itemD D B c k v f λu h' d O T hs' Q hsz hk=>?_;have C:=Hk B;have w:it<s.heap.objs.size:=by obtain⟨_,z⟩:=D.live _ _ c;exact Hk z
 refine⟨_,rfl,wpAny_letOwnedTupleGo_enum T λh2 t a=>?_⟩;have fr:=I.hok.fresh (Hd _);have I1:Inv X pins σ (upd H s.heap.objs.size (.tup [.int (i:Int),y])) { s with heap:=s.heap.push { cls:=.type "tuple",data:=.seq #[.int i d,u] },toks:=d }:=
  I.laid (λb q z=>Ha _ z) (Hd _) ⟨by rw[HB];show 2<=16777216;omega,[.int i d,u],.cons ⟨d,rfl⟩ (.cons (R u O) .nil),⟨_,Hr _ rfl,rfl,_,rfl,rfl⟩⟩
 have K:∀b,C6 X pins H b->b<s.heap.objs.size->C6 X pins (upd H s.heap.objs.size (.tup [.int (i:Int),y])) b:=λb ⟨c0,Y,W,c3,U,c5⟩ N=>⟨by rw[a9 (Hq N)];exact c0,Y,W,c3,U,c5⟩;have P:=I1.turned2 (t':=d+1) (λb o h L z=>by
  have:=Heap.get?_push_cases z;rcases this with ⟨rfl,rfl⟩ | z1
  ·exact(a.2 _ h).trans Q
  ·exact(a.2 b h).trans (hk b o h L z1)) (K e (g e (by simp)) C) (K it (g it (by simp)) w)
 refine⟨.ref s.heap.objs.size,_,P,rfl,M _ fr,S _ ⟨_,t⟩ (D.frame _ _ _ hs' λb l o z=>(a.2 b λq=>f (q▸l)).trans z),λb l=>?_⟩;have z:b=e\/b=it:=by simpa using l
 rcases z with rfl | rfl
 ·rw[a9 (Hq C)];exact(g _ (by simp)).1
 ·rw[a9 (Hq w)];exact(g _ (by simp)).1
end
section
variable {P:Program}{w:World}{K:PySem.W.Frag}{elts:List Expr}{x1:Nat}{tp:Pos}
theorem bx{h:Heap}{e it:Addr}{i:Int}{old:Value}(z:IsEnum h e it i old):∃o,h.get? e=some o/\∀v,o.data≠.cell v:=⟨_,z,λv q=>by
 have q':Data.fields _=Data.cell v:=q;cases q'⟩
theorem ip{H:Hp}{p:Addr}{y:V}(h:H p=none)(k:∀xs,Sq H xs->xs[i]?=some y):(M6 Sq).yld i H (.ref p) (upd H p (.tup [.int (i:Int),y])):=by
 show ∃p' y',V.ref p=.ref p'/\H p'=none/\upd H p (.tup [.int (i:Int),y])=upd H p' (.tup [.int (i:Int),y'])/\∀xs,Sq H xs->xs[i]?=some y';exact⟨p,y,rfl,h,rfl,k⟩
theorem ig(a e it:Addr)(hne:e≠it):Turn P w K (.Tuple elts x1 tp) (M6 λH xs=>SqL K H a xs) [e,it] e (λi h=>(∃old,IsEnum h e it ((i:Nat):Int) old)/\h.IsListIter it a i) where
 mem:=by simp
 obj:=λi h st b hb=>by
  have z:b=e\/b=it:=by simpa using hb
  rcases z with rfl | rfl
  ·obtain⟨old,q⟩:=st.1;exact bx q
  ·obtain⟨o,q,c,d⟩:=st.2;exact⟨o,q,λv z=>by rw[d]at z;cases z⟩
 keep:=λi h h' st k=>⟨(let ⟨old,q⟩:=st.1;⟨old,k e (by simp) _ q⟩),st.2.at λo q=>k it (by simp) o q⟩
 item:=by
  intro X hP hw hK hc i pins s σ H E I hf st hg;subst hP hw hK;obtain⟨xs,x,hq,hx⟩:=hg;obtain⟨its,rv,p,hz⟩:=I.list hq;obtain⟨u,hu,ru⟩:=rv.get hx;obtain⟨⟨old,he⟩,hit⟩:=st;have nit:a≠it:=λz=>by
   obtain⟨o,q,c,_⟩:=hit;obtain⟨o2,q2,c2,_⟩:=p.isList;rw[z,q]at q2;cases q2;rw[c]at c2;exact absurd c2 (by decide)
  have nea:e≠a:=λz=>by
   obtain⟨o2,q2,c2,_⟩:=p.isList;rw[<- z,he]at q2;cases q2;exact absurd (show Value.type "enumerate" = Value.type "list" from c2) (by decide)
  have hlt:i<its.toArray.size:=by
   have:=(Hb.mp hu).1;simpa using this
  refine bn (y:=x) (J:=M6 λH xs=>SqL X.K H a xs) (tn:=λi h=>(∃old,IsEnum h e it ((i:Nat):Int) old)/\h.IsListIter it a i) I hf (Draws.list (show X.A.in1.handled=none from I.ok.hd hc) it a nit its.toArray) he ⟨hit,p.isList⟩ hlt hne (by simp[hne,nea]) (λv hv=>?_) (λh' ho hs=>⟨?_,hs.1⟩) λq hq2=>ip hq2 (λys hy=>by rw[I.list_inj hy hq];exact hx)
  ·have hv':its[i]?=some v:=by simpa using hv
   rw[hu]at hv';cases hv';exact ru
  ·obtain⟨o,q⟩:=ho;exact⟨o,by rw[show((i+1:Nat):Int)=(i:Int)+1 from rfl];exact q⟩
 done:=by
  intro X hP hw hK hc i pins s σ H E I hf st hg;subst hP hw hK;obtain⟨xs,hq,hx⟩:=hg;obtain⟨its,rv,p,hz⟩:=I.list hq;obtain⟨⟨old,he⟩,hit⟩:=st;have hl:=rv.length;have nit:a≠it:=λz=>by
   obtain⟨o,q,c,_⟩:=hit;obtain⟨o2,q2,c2,_⟩:=p.isList;rw[z,q]at q2;cases q2;rw[c]at c2;exact absurd c2 (by decide)
  have en:i=its.toArray.size:=by simp;omega
  obtain⟨f0,f1,f2,f3,f4,f5⟩:=hf it (by simp);exact wpAny_pyNext_enum_endD (Draws.list (show X.A.in1.handled=none from I.ok.hd hc) it a nit its.toArray) he ⟨en▸hit,p.isList⟩ λh' eb=>⟨rfl,I.turned (t':=s.toks) (λb o hb q=>eb b o hb q) f0 f1 f3 f4 f5⟩
 self:=λ_ _ _ _ _ st h=>by
  obtain⟨⟨old,he⟩,_⟩:=st;exact Ko he h
theorem gU(a e it:Addr)(hne:e≠it):Turn P w K (.Tuple elts x1 tp) (M6 λH xs=>SqT K H a xs) [e,it] e (λi h=>(∃old,IsEnum h e it ((i:Nat):Int) old)/\h.IsTupleIter it a i) where
 mem:=by simp
 obj:=λi h st b hb=>by
  have z:b=e\/b=it:=by simpa using hb
  rcases z with rfl | rfl
  ·obtain⟨old,q⟩:=st.1;exact bx q
  ·obtain⟨o,q,c,d⟩:=st.2;exact⟨o,q,λv z=>by rw[d]at z;cases z⟩
 keep:=λi h h' st k=>⟨(let ⟨old,q⟩:=st.1;⟨old,k e (by simp) _ q⟩),st.2.at λo q=>k it (by simp) o q⟩
 item:=by
  intro X hP hw hK hc i pins s σ H E I hf st hg;subst hP hw hK;obtain⟨xs,x,hq,hx⟩:=hg;obtain⟨its,rv,p,hz⟩:=I.tuple hq;have pt:=p;obtain⟨u,hu,ru⟩:=rv.get hx;obtain⟨⟨old,he⟩,hit⟩:=st;have nit:a≠it:=λz=>by
   obtain⟨o,q,c,_⟩:=hit;obtain⟨o2,q2,c2,_⟩:=pt;rw[z,q]at q2;cases q2;rw[c]at c2;exact absurd c2 (by decide)
  have nea:e≠a:=λz=>by
   obtain⟨o2,q2,c2,_⟩:=pt;rw[<- z,he]at q2;cases q2;exact absurd (show Value.type "enumerate" = Value.type "tuple" from c2) (by decide)
  have hlt:i<its.toArray.size:=by
   have:=(Hb.mp hu).1;simpa using this
  refine bn (tn:=λi h=>(∃old,IsEnum h e it ((i:Nat):Int) old)/\h.IsTupleIter it a i) I hf (rm (show X.A.in1.handled=none from I.ok.hd hc) it a nit its.toArray) he ⟨hit,pt⟩ hlt hne (by simp[hne,nea]) (λv hv=>?_) (λh' ho hs=>⟨?_,hs.1⟩) λq hq2=>ip hq2 (λys hy=>by rw[I.tuple_inj hy hq];exact hx)
  ·have hv':its[i]?=some v:=by simpa using hv
   rw[hu]at hv';cases hv';exact ru
  ·obtain⟨o,q⟩:=ho;exact⟨o,by rw[show((i+1:Nat):Int)=(i:Int)+1 from rfl];exact q⟩
 done:=by
  intro X hP hw hK hc i pins s σ H E I hf st hg;subst hP hw hK;obtain⟨xs,hq,hx⟩:=hg;obtain⟨its,rv,p,hz⟩:=I.tuple hq;have pt:=p;obtain⟨⟨old,he⟩,hit⟩:=st;have hl:=rv.length;have nit:a≠it:=λz=>by
   obtain⟨o,q,c,_⟩:=hit;obtain⟨o2,q2,c2,_⟩:=pt;rw[z,q]at q2;cases q2;rw[c]at c2;exact absurd c2 (by decide)
  have en:i=its.toArray.size:=by simp;omega
  obtain⟨f0,f1,f2,f3,f4,f5⟩:=hf it (by simp);exact wpAny_pyNext_enum_endD (rm (show X.A.in1.handled=none from I.ok.hd hc) it a nit its.toArray) he ⟨en▸hit,pt⟩ λh' eb=>⟨rfl,I.turned (λb o hb q=>eb b o hb q) f0 f1 f3 f4 f5⟩
 self:=λ_ _ _ _ _ st h=>by
  obtain⟨⟨old,he⟩,_⟩:=st;exact Ko he h
end
section
variable {X:Cx}{elts:List Expr}{x1:Nat}{tp:Pos}
theorem lJ:bootBuiltins "enumerate" = some (.type "enumerate"):=by decide +kernel
theorem sy(u:Gl X "enumerate") (x:X.mg "enumerate" = none) (w:PA X [l] ta) (hs:starEach [l] X.env=[(false,eval l X.env)]) :
  PI X (.Tuple elts x1 tp) (.Call (.Name "enumerate" p) [l] [] pos) (λσ H R=>ta σ H λvs f=>∃a,vs=[.ref a]/\(((∃xs,SqL X.K f a xs)/\R (M6 λH xs=>SqL X.K H a xs) f)\/((∃xs,SqT X.K f a xs)/\R (M6 λH xs=>SqT X.K H a xs) f))):=by
 intro pins s σ H R I h;refine Call_ (B7 I u x lJ (Io (thn (w pos pins s σ H _ I h) λus c ⟨vs,f,d,A,n⟩=>?_) hs rfl));obtain⟨a,e,n⟩:=n;subst e;cases A with
 | cons r y=>
  cases y;cases r;have o:∀h':Heap,h'.objs.size=c.heap.objs.size+2->∀b∈[c.heap.objs.size+1,c.heap.objs.size],C6 X pins f b:=λh' _ b v=>by
   have z:b=c.heap.objs.size+1\/b=c.heap.objs.size:=by simpa using v
   rcases z with rfl | rfl
   ·exact d.fpOk (Ir _) (d.hok.fresh (Ir _))
   ·exact d.fpOk (Hd _) (d.hok.fresh (Hd _))
  rcases n with ⟨⟨xs,k⟩,q⟩ | ⟨⟨xs,k⟩,q⟩
  ·obtain⟨m,t,p,hz⟩:=d.list k;refine call_enumerate_list p.isList λh' g j hsz i=>?_;exact Ko g ⟨_,[c.heap.objs.size+1,c.heap.objs.size],_,_,f,rfl,d.kept i,ig a _ _ (Kw _),⟨⟨_,g⟩,j⟩,o h' hsz,q⟩
  ·obtain⟨m,t,p,hz⟩:=d.tuple k;refine gk (p) λh' g j hsz i=>?_;exact Ko g ⟨_,[c.heap.objs.size+1,c.heap.objs.size],_,_,f,rfl,d.kept i,gU a _ _ (Kw _),⟨⟨_,g⟩,j⟩,o h' hsz,q⟩
end
end L2
namespace L3
open PySem PySem.Spec PyProof.Rows L2
def F6(ds:List D):Src:=λi _=>match ds[i]? with
 | some d=>some (some (.tup [.int (i:Int),d]))
 | none=>if i=ds.length then some none else none
def bi(d:D):M (Src×Nat):=match d with
 | .tup ds=>ret (F6 ds,ds.length+1)
 | .lst ds=>ret (F6 ds,ds.length+1)
 | .scr ds=>ret (F6 ds,ds.length+1)
 | _=>bad
section
variable {K:PySem.W.Frag}{cl:ClW}{μ:Mp}{H:Hp}
theorem yF{ds:List D}(j:∀μ2 a S2,LatU μ H μ2 a->Rep K cl μ2 S2 a->Sq a xs)(r:RDs K μ H ds xs):Yl K cl (M6 Sq) μ H (F6 ds):=λi μ2 a S2 l f=>by
 have b:=j μ2 a S2 l f;have h:=r.laterU l;show bY K cl (M6 Sq) i μ2 a S2 (match ds[i]? with
  | some d=>some (some (.tup [.int (i:Int),d]))
  | none=>if i=ds.length then some none else none)
 cases e:ds[i]? with
 | none=>
  by_cases q:i=ds.length
  ·rw[if_pos q];exact⟨xs,b,by rw[<- r.length];exact q.symm⟩
  ·rw[if_neg q];exact trivial
 | some d=>
  obtain⟨v,c,k⟩:=h.get e;refine⟨⟨xs,v,b,c⟩,λx m z=>?_⟩;obtain⟨p,y,rfl,g,rfl,q⟩:=z;have:=q xs b;rw[c]at this;cases this;exact E1 f (.cons (.int _) (.cons k .nil)) g
theorem BR(h:TupAt K μ H a xs)(r:RDs K μ H ds xs):Yl K cl (M6 λH xs=>SqT K H a xs) μ H (F6 ds):=yF (λμ2 i S2 l j=>by
 rcases h with ⟨q,n1,n2⟩ | q
 ·rcases q with q | ⟨o,q⟩
  ·exact .inl (.inl (l.oth _ _ q n1 n2))
  ·exact .inl (.inr ⟨o,l.oth _ _ q n1 n2⟩)
 ·obtain⟨o,b,n,f,g,c,d,e,_⟩:=q;exact .inr ⟨o,b,n,f,g,c,d,e⟩) r
theorem sW(h:LstAt μ H a xs\/ScrAt K μ H a xs)(r:RDs K μ H ds xs):Yl K cl (M6 λH xs=>SqL K H a xs) μ H (F6 ds):=yF (λμ2 c S2 l b=>by
 rcases h with ⟨q,n1,n2⟩ | ⟨q,n1,n2⟩ | q
 ·exact .inl (.inl (l.oth _ _ q n1 n2))
 ·rcases q with q | ⟨o,q⟩
  ·exact .inl (.inl (l.oth _ _ q n1 n2))
  ·exact .inl (.inr ⟨o,l.oth _ _ q n1 n2⟩)
 ·exact .inr q) r
end
section
variable {X:Cx}{cl:ClW}{xe:Addr->Hp->Prop}{elts:List Expr}{x1:Nat}{tp p pos:Pos}
theorem oz(hg:Gl X "enumerate") (hm:X.mg "enumerate" = none) (ha:PA X [a] (tDs X.K cl xe fs)) (hs:noStar a=true) :
  PI X (.Tuple elts x1 tp) (.Call (.Name "enumerate" p) [a] [] pos) (tIt X.K cl xe λρ=>bind (fs ρ) λds=>match ds with
   | [d]=>bi d
   | _=>bad):=
 PI.imp (sy hg hm ha (h9 hs)) λσ H R ⟨μ,S,ρ,eo,rp,P⟩=>⟨μ,S,ρ,eo,rp,P.bind.imp λds S1 μ1 H1 l1 r1 p1 vs rvs=>by
  cases rvs with
  | nil=>exact False.elim p1
  | cons h t=>
   cases t with
   | cons _ _=>exact False.elim p1
   | nil=>
    cases h with
    | tup h r=>exact⟨_,rfl,.inr ⟨⟨_,h.sq⟩,p1.ret μ1 H1 (Lat.refl _ _) r1 _ (BR h r)⟩⟩
    | lst h r=>exact⟨_,rfl,.inl ⟨⟨_,h.sq⟩,p1.ret μ1 H1 (Lat.refl _ _) r1 _ (sW (.inl h) r)⟩⟩
    | scr h r=>exact⟨_,rfl,.inl ⟨⟨_,h.sq⟩,p1.ret μ1 H1 (Lat.refl _ _) r1 _ (sW (.inr h) r)⟩⟩
    | _=>exact False.elim p1⟩
end
end L3
namespace L2
open PySem PySem.Spec PyProof.Rows
section
variable {prog:Program}{w:World}{A:Around}{s:Shared}{R:Result->Shared->Prop}
theorem dk{B b y:Expr}{ifs:List Expr}{p:Scope}{pos:Pos}{it C:Value}{a:PySem.Env}(I:Nat->Shared->Prop)
  (D:∀n s,I n s->wpAny (model prog w) A (pyNext it) (λr f=>match r with
   | none=>R (.ok .next) f
   | some v=>wpAny (model prog w) A (letOwnedTupleGo b it v) (λ_ g=>wpAny (model prog w) A (assign b a v) (λ_ j=>
     wpAny (model prog w) A (forIn ifs true λc r=>if r=true then do let t <- isTrue c a (eval c a);pure (ForInStep.yield t)else pure (ForInStep.yield r)) (λt d=>
      if t=true then wpAny (model prog w) A (eval B a) (λx i=>
       wpAny (model prog w) A (call (.builtin "list.append") [C,x]) (λ_ l=>∃m,m<n/\I m l) (notedBy (model prog w) A a λe s'=>R (.error e) s') i) (notedBy (model prog w) A a λe s'=>R (.error e) s') d
      else ∃m,m<n/\I m d) (notedBy (model prog w) A a λe s'=>R (.error e) s') j) (notedBy (model prog w) A a λe s'=>R (.error e) s') g) (notedBy (model prog w) A a λe s'=>R (.error e) s') f) (notedBy (model prog w) A a λe s'=>R (.error e) s') s)
  (n:Nat) (h:I n s):codeAny (model prog w) A (.compLoop (.ListComp B [⟨b,y,ifs,0⟩] p pos) 0 it C a) R s:=by
 refine Lx rfl I (λn s E=>?_) n h;refine LL ?_;rw[compTurn_list];refine Gx (Iz (Gx (Hy (D n s E) (λr f o=>?_) λ_ _ h'=>h')));cases r with
 | none=>exact Gy o
 | some v=>
  refine Gx (Hy o (λ_ g h₀=>?_) λ_ _ h'=>h');refine Gx (Hy h₀ (λ_ j u=>Gx (Hy u (λt d k=>?_) λ_ _ h'=>h')) λ_ _ h'=>h');cases t with
  | false=>exact Gy ⟨rfl,k⟩
  | true=>
   exact Gx (Gx (Hy k (λx i q=>Gx (Hy q (λ_ l z=>Gy (Gy ⟨rfl,z⟩)) λ_ _ h'=>h')) λ_ _ h'=>h'))
end
def mx(k:Nat)(caps:List Nat)(n:TI)(f:TG)(p:TT)(te:TE):TE:=λσ H Q=>n σ H λJ g=>∀a,g a=none->∃W:Nat->Nat->List V->Hp->Prop,(∃m,W 0 m [] (upd g a (.lst []))) /\
 ∀i m ys e,W i m ys e->e a=some (.lst ys)/\((J.stop i e/\Q (.ref a) e)\/(J.go i e/\∀x l,J.yld i e x l->f x (List.replicate k none++A3 caps σ) l λd o=>∃c:List (Option V),c.length=k/\d=c++A3 caps σ/\p d o λb h=>
  if b=true then te d h λy j=>j a=some (.lst ys)/\ys.length<sizeLine/\∃m',m'<m/\W (i+1) m' (ys++[y]) (upd j a (.lst (ys++[y])))
  else ∃m',m'<m/\W (i+1) m' ys h))
theorem my{X:Cx}{elt iter tg:Expr}{k:Nat}{tgp:TG}{ifs:List Expr}{scope:Scope}{pos:Pos}{N':List Str}{caps:List Nat}{wi:TI}{tc:TT}{te:TE}
  (T:CompText X.N X.env N' k caps scope) (hc:X.calm=true) (hg:∀pins C fp s H,PG (b6 X pins N' scope C fp s H) tg tgp) (hi:PI X tg iter wi)
  (ht:∀pins C fp s H,PTL (b6 X pins N' scope C fp s H) ifs tc) (he:∀pins C fp s H,PE (b6 X pins N' scope C fp s H) elt te)
  (hs:∀x,foldedSetIterable iter X.env x=pure x:=by intro _;rfl):PE X (.ListComp elt [⟨tg,iter,ifs,0⟩] scope pos) (mx k caps wi tgp tc te):=by
 intro pins s σ H Q I h;have fr:∀x∈scope.names,x.2=NameKind.free->∃c,X.env.cells.lookup x.1=some c:=λx hx hk=>I.ok.has x.1 (T.free x hx hk).2;rw[eval_ListComp];refine Jo (use:=none) rfl hs (v6 fr) T.kind T.loc ?_;refine thn (hi pins s σ H _ I h) λv s1 h1=>thn h1 λitv s2 h2=>?_;obtain⟨it,fp,tn,J,H2,rfl,I2,Tn,st2,f2,h2⟩:=h2;obtain⟨W,⟨m0,w0⟩,turn⟩:=h2 s2.heap.objs.size (I2.hok.fresh (Hd _));have hlt:∀b∈fp,b<s2.heap.objs.size:=λb hb=>let ⟨o,e,_⟩:=Tn.obj _ _ st2 b hb;Hk e
 refine HF (JJ T.cell (by intro y hy;simp at hy) (λh₁ hns₁ hsb₁=>?_) T.kind);dsimp only at hns₁ hsb₁ ⊢;have hC:(s2.heap.push { cls:=.type "list",dict:=none,data:=.seq ([]:List Value).toArray }).objs.size=s2.heap.objs.size+1:=IA ..;rw[hC]at hns₁ hsb₁;have old:∀b o,s2.heap.get? b=some o->h₁.get? b=some o:=λb o e=>hsb₁.extBut b o (Hq (Ig (Hk e))) (Ha _ (Ha _ e));have hacc:h₁.get? s2.heap.objs.size=some { cls:=.type "list",data:=.seq #[] }:=hsb₁.extBut _ _ (Hq (HS _)) (Ha _ (Hr _ rfl));have hst₁:tn 0 h₁:=Tn.keep _ _ _ st2 λb _ o e=>old b o e;have I3:=P0 (t:=s2.toks+([]:List (Str×Value)).length) T I2 f2 hlt hns₁ old hacc;have stat:∀{H':Hp},(∀b∈fp,H' b=none)->∀b∈fp,C6 (b6 X pins N' scope (s2.heap.objs.size+1) fp s2 H2) [] H' b:=λhn b hb=>by
  refine⟨hn b hb,(I3.ok.exf b hb).1,I3.ok.exfs b hb,.inl hb,(I3.ok.exf b hb).2,λp hp=>?_⟩;have hp':p∈X.pn++pins:=by
   have:p∈(X.pn++pins)++[]:=hp;rwa [HU]at this
  exact(f2 b hb).2.2.2.2.2 p hp'
 have loop:∀s3:Shared,s3={ s2 with heap:=h₁,toks:=s2.toks+([]:List (Str×Value)).length } ->
   codeAny (model X.prog X.w) X.A (.compLoop (.ListComp elt [⟨tg,iter,ifs,0⟩] scope pos) 0 (.ref it) (.ref s2.heap.objs.size) (compEnvC scope (O9 X.env.cells scope.names) (s2.heap.objs.size+1) X.env))
    (compPost (model X.prog X.w) X.A X.xe none (EP X pins σ Q) (.ref s2.heap.objs.size) (s2.heap.objs.size+1)) s3:=by
  rintro s3 rfl;refine dk (λn s'=>∃i ys H',Inv (b6 X pins N' scope (s2.heap.objs.size+1) fp s2 H2) [] (List.replicate k none++A3 caps σ) H' s'/\tn i s'.heap/\(∀b∈fp,H' b=none)/\W i n ys H') ?_ m0
   ⟨0,[],_,I3,hst₁,λb hb=>by rw[a9 (Hq (hlt b hb))];exact(f2 b hb).1,w0⟩
  rintro n s4 ⟨i,ys,H4,I4,st4,fr4,w4⟩;obtain⟨hacc4,turn4⟩:=turn i n ys H4 w4;refine i6 ?_;rcases turn4 with ⟨stop,q⟩ | ⟨go,step⟩
  ·refine thn (Tn.done (b6 X pins N' scope (s2.heap.objs.size+1) fp s2 H2) rfl rfl rfl hc i [] s4 _ H4 (λ_ _=>False) I4 (stat fr4) st4 stop) λr s5 ⟨hr,I5⟩=>?_;subst hr;obtain⟨m5,hn5,_⟩:=id I5.loc;refine⟨m5,hn5,λh' hs'=>?_⟩;refine⟨.ref s2.heap.objs.size,H4,?_,rfl,q⟩;refine I2.call' (ch:=fp) (s':={ s5 with heap:=h' }) I5.os (Un.sameBut I5.base hs' (Ir _)) (I5.hok.sameBut I5.free hs') I5.bare λb hb=>?_;have:=f2 b hb;exact⟨this.2.2.2.1,this.2.1,this.2.2.2.2.1,this.2.2.2.2.2⟩
  ·refine thn (Tn.item (b6 X pins N' scope (s2.heap.objs.size+1) fp s2 H2) rfl rfl rfl hc i [] s4 _ H4 (λ_ _=>False) I4 (stat fr4) st4 go) λr s5 ⟨u,hr,h5⟩=>?_;subst hr;dsimp only;refine i6 (thn h5 λ_ s6 ⟨xv,H6,I6,r6,y6,st6,fr6⟩=>?_);have I6':=I6.pinned (stat fr6) (Tn.obj _ _ st6);refine i6 (thn (hg pins _ fp s2 H2 _ s6 _ H6 xv u _ I6' r6 (step xv _ y6)) λ_ s7 ⟨σ7,H7,I7,vals,hv,e7,q7⟩=>?_);subst e7;have back:∀{σ8:St}{H8:Hp}{s8:Shared},Inv (b6 X pins N' scope (s2.heap.objs.size+1) fp s2 H2) ([]++J8 fp s6.heap) σ8 H8 s8->tn (i+1) s8.heap/\∀b∈fp,H8 b=none:=λ{σ8 H8 s8} I8=>by
    refine⟨Tn.keep _ _ _ st6 λb hb o e=>(I8.pin (b,o) (HI _ (HI _ (v1 hb e)))).1,λb hb=>?_⟩;obtain⟨o,e,d⟩:=Tn.obj _ _ st6 b hb;exact(I8.pin (b,o) (HI _ (HI _ (v1 hb e)))).2.1
   refine i6 (thn (ht pins _ fp s2 H2 _ s7 _ _ _ I7 q7) λb s8 ⟨H8,I8,q8⟩=>?_);have wk:∀{H9:Hp}{s9:Shared},Inv (b6 X pins N' scope (s2.heap.objs.size+1) fp s2 H2) ([]++J8 fp s6.heap) (vals++A3 caps σ) H9 s9->Inv (b6 X pins N' scope (s2.heap.objs.size+1) fp s2 H2) [] (List.replicate k none++A3 caps σ) H9 s9:=λ{H9 s9} I9=>
    I9.unpinned.weak (by simp[hv]) λj v e=>by
     by_cases hj:j<k
     ·rw[Hj (by simpa using hj),Ip,if_pos hj]at e;cases e
     ·rw[HC (by simpa using hj)]at e;rw[HC (by omega),hv];simpa using e
   cases b with
   | false=>
    obtain⟨m',hm,w'⟩:=q8;exact⟨m',hm,i+1,ys,H8,wk I8,(back I8).1,(back I8).2,w'⟩
   | true=>
    refine i6 (thn (he pins _ fp s2 H2 _ s8 _ H8 _ I8 q8) λz s9 ⟨y,H9,I9,r9,hacc9,hl9,m',hm,w'⟩=>?_);refine i6 (thn (V3 (X:=b6 X pins N' scope (s2.heap.objs.size+1) fp s2 H2) _ s9 _ H9 (.ref s2.heap.objs.size) [y] (.ref s2.heap.objs.size) [z] (λ_ H'=>H'=upd H9 s2.heap.objs.size (.lst (ys++[y]))) I9 rfl (.cons r9 .nil) ⟨_,ys,y,rfl,rfl,hacc9,hl9,rfl⟩) λ_ s10 ⟨_,H10,I10,_,e10⟩=>?_);subst e10;exact⟨m',hm,i+1,ys++[y],_,wk I10,(back I10).1,(back I10).2,w'⟩
 have fin:=Kq (loop _ rfl) (Tn.self _ 0 _ _ _ hst₁ (loop _ rfl));rw[<- hC]at fin;exact fin
end L2
namespace L3
open PySem PySem.Spec PyProof.Rows L2
def mk2(c:Env)(d:D):Env:=match d with
 | .tup [a,b]=>some a::some b::c
 | _=>[]
def tF(t:Env->M Bool)(ρ:Env):M Bool:=match ρ with
 | []=>bad
 | o::ρ=>t (o::ρ)
def cZ(caps:List Nat)(b:Env->M (Src×Nat))(t:Env->M Bool)(f:Env->M D)(ρ:Env):M (List D):=bind (b ρ) λa=>J6 a.1 (tF t) f (mk2 (A4 caps ρ)) a.2 0 []
theorem oI{K:PySem.W.Frag}{μ:Mp}{H:Hp}{ρ:Env}{σ:L2.St}{d:D}{x:V}(eo:EnvOk K μ H ρ σ)(r:RD K μ H d x):EnvOk K μ H (some d::ρ) (some x::σ):=by
 refine⟨by simp[eo.1],λi e he=>?_⟩;cases i with
 | zero=>simp at he;subst he;exact⟨x,rfl,r⟩
 | succ j=>exact eo.2 j e he
def GV:TGs:=nz (aK 0) (nz (aK 1) gNil)
theorem fW{K:PySem.W.Frag}{cl:ClW}{xe:Addr->Hp->Prop}{caps:List Nat}{fi:Env->M (Src×Nat)}{t:Env->M Bool}{f:Env->M D}{σ:L2.St}{H:Hp}{μ:Mp}{S:Sto}{ρ:Env}{Q:VK}(eo:EnvOk K μ H ρ σ)(rp:Rep K cl μ S H)
  (p:Post K cl xe μ H (cZ caps fi t f ρ S) λds _ μ' H'=>∀acc ys,LstAt μ' H' acc ys->RDs K μ' H' ds ys->Q (.ref acc) H'):mx 2 caps (tIt K cl xe fi) (FK K 2 GV) (tBo K cl xe t) (tD K cl xe f) σ H Q:=by
 refine⟨μ,S,ρ,eo,rp,p.bind.imp λsm S1 μ1 H1 l1 r1 p1 J yl acc hacc=>?_⟩;obtain⟨src,m0⟩:=sm;have nrs:=r1.notrs hacc;refine⟨λi m ys H2=>∃μ2 S2 es,HLat μ1 H1 acc μ2 H2/\acc∉μ2.pl/\H2 acc=some (.lst ys)/\EnvOk K μ2 H2 ρ σ/\Rep K cl μ2 S2 H2/\RDs K μ2 H2 es ys/\Post K cl xe μ1 H1 (J6 src (tF t) f (mk2 (A4 caps ρ)) m i es S2) (λds _ μ' H'=>∀acc ys,LstAt μ' H' acc ys->RDs K μ' H' ds ys->Q (.ref acc) H'),⟨m0,μ1.hold acc,S1,[],?_,r1.notin hacc,b9,aa r1 hacc (eo.later l1),aB r1 hacc,.nil,p1⟩,?_⟩
 ·refine⟨⟨λ_ _ e=>e,λa o e _=>by rw[a9 (c6 e hacc)];exact e,λa m=>.inl m,λa m=>?_⟩,rfl⟩;rcases Ho.mp (m)with rfl | m
  ·exact .inr hacc
  ·exact .inl m
 rintro i m ys H2 ⟨μ2,S2,es,hl,npl,e2,eo2,r2,rds2,p2⟩;refine⟨e2,?_⟩;cases m with
 | zero=>exact p2.elim
 | succ m=>
  have y:bY K cl J i μ2 H2 S2 (src i S2):=yl i μ2 H2 S2 hl.r.u r2;simp only[J6]at p2;cases e1:src i S2 with
  | none=>rw[e1]at p2;exact p2.elim
  | some o=>
   rw[e1]at p2 y;cases o with
   | none=>
    refine .inl ⟨y,p2 μ2.free H2 (hl.lat (Lat.refl _ _)) (bM r2) acc ys ⟨e2,npl,?_⟩ (eN rds2)⟩;show acc∉μ2.rs.tail;rw[hl.rs];exact nrs
   | some d=>
    obtain⟨y1,y2⟩:=y;refine .inr ⟨y1,λx H3 hy=>?_⟩;obtain⟨l3,r3,rd3⟩:=y2 x H3 hy;have h3:=hl.step l3;cases rd3 with
    | tup ht rs=>
     cases rs with
     | nil=>exact False.elim p2
     | cons ra rs=>
      cases rs with
      | nil=>exact False.elim p2
      | cons rb rs=>
       cases rs with
       | cons _ _=>exact False.elim p2
       | nil=>
        rename_i da va db vb;refine⟨_,_,rfl,ht.sq,rfl,va,[vb],rfl,vb,[],rfl,rfl,[some va,some vb],rfl,rfl,?_⟩;have ev:=oI (kb (caps:=caps) (eo2.later l3) rb) ra;refine⟨μ2,S2,some da::some db::A4 caps ρ,ev,r3,(Post.at p2 h3).imp λb S5 μ5 H5 l5 r5 p5=>?_⟩;have h5:=h3.step l5;have l35:=l3.trans l5;have a5:=l35.oth _ _ e2 npl;have n5:=l35.out e2 npl;cases b with
        | false=>exact⟨m,HS _,μ5,S5,es,h5,n5,a5,eo2.later l35,r5,rds2.later l35,p5⟩
        | true=>
         refine uR ?_;rw[if_pos rfl]at p5;refine⟨μ5,S5,some da::some db::A4 caps ρ,ev.later l5,r5,(Post.at p5 h5).imp λyv S6 μ6 H6 l6 r6 p6 v rv=>?_⟩;have h6:=h5.step l6;have l36:=l35.trans l6;have a6:=l6.oth _ _ a5 n5;have n6:=l6.out a5 n5;by_cases hz:es.length<sizeLine
         ·rw[if_pos hz]at p6;have er:=h6.rs;refine⟨a6,by rw[<- rds2.length];exact hz,m,HS _,μ6,S6,es++[yv],?_,n6,b9,?_,cK er a6 r6,cW er ((rds2.later l36).append (.cons rv .nil)),p6⟩
          ·refine⟨⟨h6.r.pre,λa o e n=>?_,h6.r.new,h6.r.rsw⟩,er⟩;rw[a9 (c6 e hacc)];exact h6.r.oth a o e n
          ·have eo6:=eo2.later l36;exact⟨eo6.1,λj e he=>let ⟨w,q,r⟩:=eo6.2 j e he;⟨w,q,rZ er r⟩⟩
         ·rw[if_neg hz]at p6;exact p6.elim
    | _=>exact False.elim p2
section
variable {X:Cx}{cl:ClW}{xe:Addr->Hp->Prop}{elt iter:Expr}{x y:Str}{px py tp pos:Pos}{kk:Nat}{ifs:List Expr}{scope:Scope}{N':List Str}{caps:List Nat}{fi:Env->M (Src×Nat)}{t:Env->M Bool}{f:Env->M D}
theorem lU(T:CompText X.N X.env N' 2 caps scope)(h:X.calm=true)(g:N'.Nodup)(d:N'[0]?=some x)(e:N'[1]?=some y)(c:scope.names.lookup x=some .local)(a:scope.names.lookup y=some .local)(j:PI X (.Tuple [.Name x px,.Name y py] kk tp) iter (tIt X.K cl xe fi))
  (n:∀pins C b s H,PTL (b6 X pins N' scope C b s H) ifs (tBo X.K cl xe t)) (m:∀pins C b s H,PE (b6 X pins N' scope C b s H) elt (tD X.K cl xe f)) (i:j8 iter=true) :
  PE X (.ListComp elt [⟨.Tuple [.Name x px,.Name y py] kk tp,iter,ifs,0⟩] scope pos) (eM X.K cl xe (cZ caps fi t f)):=
 PE.imp (my T h (λpins C b s H=>qV (X:=b6 X pins N' scope C b s H) h (ab (L9 g d (.inl (IK c)) (.inr (IK c))) (ab (L9 g e (.inl (IK a)) (.inr (IK a))) jt))) j n m (j3 i)) λσ H Q ⟨μ,S,ρ,l,k,p⟩=>fW l k p
end
def j0(d:D):M Bool:=match d with
 | .non=>ret false
 | .bl b=>ret b
 | .int i=>ret (i != 0)
 | .str x=>if x.length<=sizeLine then ret ((x.length:Int) != 0)else bad
 | .ref n=>λS=>match S[n]? with
  | some (.lst ds)=>.ok (!ds.isEmpty) S
  | some (.dct a)=>.ok (!a.isEmpty) S
  | _=>.bad
 | d=>bind (aI d) λds=>ret (!ds.isEmpty)
section
variable {K:PySem.W.Frag}{cl:ClW}{xe:Addr->Hp->Prop}{μ:Mp}{H:Hp}{S:Sto}
theorem L8(r:RDs K μ H ds vs):ds.isEmpty=vs.isEmpty:=by cases r <;> rfl
theorem Z1(rd:RD K μ H d v)(rp:Rep K cl μ S H)(p:Post K cl xe μ H (j0 d S) G):∃k,lj K v H k/\G k S μ H:=by
 cases rd with
 | non=>exact⟨_,rfl,p μ H (Lat.refl _ _) rp⟩
 | bl b=>exact⟨_,rfl,p μ H (Lat.refl _ _) rp⟩
 | int i=>exact⟨_,rfl,p μ H (Lat.refl _ _) rp⟩
 | str x=>
  obtain⟨hl,p⟩:=Post.guard p;exact⟨_,⟨hl,rfl⟩,p μ H (Lat.refl _ _) rp⟩
 | tup h r=>exact⟨_,.inr (.inl ⟨_,h.sq,by rw[<- L8 r]⟩),p μ H (Lat.refl _ _) rp⟩
 | lst h r=>exact⟨_,.inl ⟨_,h.sq,by rw[<- L8 r]⟩,p μ H (Lat.refl _ _) rp⟩
 | scr h r=>exact⟨_,.inl ⟨_,h.sq,by rw[<- L8 r]⟩,p μ H (Lat.refl _ _) rp⟩
 | ref h=>
  rename_i n a;simp only[j0]at p;cases q1:S[n]? with
  | none=>rw[q1]at p;exact p.elim
  | some o=>
   rw[q1]at p;cases o with
   | lst ds=>
    obtain⟨xs,h1,h2⟩:=rp.ats n _ a q1 h;exact⟨_,.inl ⟨xs,.inl (.inl h1),by rw[<- L8 h2]⟩,p μ H (Lat.refl _ _) rp⟩
   | dct kvs=>
    obtain⟨ks,h1,h2⟩:=rp.ats n _ a q1 h;refine⟨_,.inr (.inr ⟨ks,h1,rfl⟩),?_⟩;have e:kvs.isEmpty=ks.isEmpty:=by cases h2 <;> rfl
    rw[<- e];exact p μ H (Lat.refl _ _) rp
   | exc _ _=>exact p.elim
   | dcT _=>exact p.elim
end
section
variable {X:Cx}{cl:ClW}{xe:Addr->Hp->Prop}{a b e:Expr}{es rest:List Expr}{pos:Pos}{f g:Env->M D}
theorem rf(h:PE X a (tD X.K cl xe f))(i:C8 a=true):PT X a (tBo X.K cl xe λρ=>bind (f ρ) j0):=PT.imp (nw h (test_of i)) λσ H Q ⟨μ,S,ρ,b,k,p⟩=>
 ⟨μ,S,ρ,b,k,p.bind.imp λd S1 j l m e g v c=>Z1 c e g⟩
theorem AS(h:PE X a (tD X.K cl xe f)):PE X (.UnaryOp .Not a pos) (tD X.K cl xe λρ=>bind (f ρ) λd=>bind (j0 d) λk=>ret (.bl (!k))):=by
 intro pins s σ H Q I ⟨μ,S,ρ,j,t,p⟩;refine UnaryOp_ (thn (h pins s σ H (λv b=>∃k,lj X.K v b k/\Q (.bl (!k)) b) I ⟨μ,S,ρ,j,t,p.bind.imp λd S1 e b B i r v m=>let ⟨k,g,q⟩:=Z1 m i r.bind;⟨k,g,q e b (Lat.refl _ _) i _ (.bl _)⟩⟩) λv z ⟨x,b,y,l,k,g,q⟩=>?_);exact not_of (thn (dX pins z σ b x v (λo H'=>o=k/\H'=b) y l ⟨k,g,rfl,rfl⟩) λc C ⟨A,w,u,n⟩=>by
  subst u n;exact⟨.bl (!c),A,w,rfl,q⟩)
theorem oO(h:PE X a (tD X.K cl xe f)):PE X (.BoolOp op [a] pos) (tD X.K cl xe f):=BO h
theorem Ax(h:PE X a (tD X.K cl xe f))(k:PE X (.BoolOp .And (b::rest) pos) (tD X.K cl xe g)):PE X (.BoolOp .And (a::b::rest) pos) (tD X.K cl xe λρ=>bind (f ρ) λd=>bind (j0 d) λq=>if q=true then g ρ else ret d):=by
 intro pins s σ H Q I ⟨μ,S,ρ,m,A,p⟩;refine BoolOp_and (thn (h pins s σ H (λv e=>∃c,lj X.K v e c/\if c=true then tD X.K cl xe g σ e Q else Q v e) I ⟨μ,S,ρ,m,A,p.bind.imp λd S1 i e F j w v n=>?_⟩) λv z ⟨x,e,E,t,c,l,q⟩=>?_)
 ·obtain⟨c,l,q⟩:=Z1 n j w.bind;refine⟨c,l,?_⟩;cases c with
  | true=>exact⟨i,S1,ρ,m.later F,j,q⟩
  | false=>exact q i e (Lat.refl _ _) j _ n
 ·refine thn (dX pins z σ e x v (λB H'=>B=c/\H'=e) E t ⟨c,l,rfl,rfl⟩) λC D ⟨r,o,y,u⟩=>?_;subst y u;cases C with
  | true=>exact k pins D σ r Q o q
  | false=>exact⟨x,r,o,t,q⟩
theorem CD(h:PE X a (tD X.K cl xe f))(k:PE X (.BoolOp .Or (b::rest) pos) (tD X.K cl xe g)):PE X (.BoolOp .Or (a::b::rest) pos) (tD X.K cl xe λρ=>bind (f ρ) λd=>bind (j0 d) λq=>if q=true then ret d else g ρ):=by
 intro pins s σ H Q I ⟨μ,S,ρ,m,A,p⟩;refine BoolOp_or (thn (h pins s σ H (λv e=>∃c,lj X.K v e c/\if c=true then Q v e else tD X.K cl xe g σ e Q) I ⟨μ,S,ρ,m,A,p.bind.imp λd S1 i e F j w v n=>?_⟩) λv z ⟨x,e,E,t,c,l,q⟩=>?_)
 ·obtain⟨c,l,q⟩:=Z1 n j w.bind;refine⟨c,l,?_⟩;cases c with
  | true=>exact q i e (Lat.refl _ _) j _ n
  | false=>exact⟨i,S1,ρ,m.later F,j,q⟩
 ·refine thn (dX pins z σ e x v (λB H'=>B=c/\H'=e) E t ⟨c,l,rfl,rfl⟩) λC D ⟨r,o,y,u⟩=>?_;subst y u;cases C with
  | true=>exact⟨x,r,o,t,q⟩
  | false=>exact k pins D σ r Q o q
def tPt(K:PySem.W.Frag)(cl:ClW)(xe:Addr->Hp->Prop)(fp:Env->M (Option Int)):TO:=λσ H Q=>∃μ S ρ,EnvOk K μ H ρ σ/\Rep K cl μ S H/\Post K cl xe μ H (fp ρ S) λo _ _ H'=>Q o H'
def U2(d:D):M (Option Int):=match d with
 | .int i=>ret (some i)
 | _=>bad
theorem PO.imp{e:Option Expr}{t t':TO}(h:PO X e t)(k:∀σ H Q,t' σ H Q->t σ H Q):PO X e t':=λpins s σ H Q I q=>h pins s σ H Q I (k σ H Q q)
theorem uN:PO X none (tPt X.K cl xe λ_=>ret none):=PO.imp tJ λσ H Q ⟨μ,S,ρ,b,a,p⟩=>p μ H (Lat.refl _ _) a
theorem si(h:PE X e (tD X.K cl xe f)):PO X (some e) (tPt X.K cl xe λρ=>bind (f ρ) U2):=PO.imp (uG h) λσ H Q ⟨μ,S,ρ,eo,rp,p⟩=>
 ⟨μ,S,ρ,eo,rp,p.bind.imp λd S1 μ1 H1 l1 r1 p1 v rv=>by
  cases rv with
  | int i=>exact⟨i,rfl,p1 μ1 H1 (Lat.refl _ _) r1⟩
  | _=>exact False.elim p1⟩
theorem M4{s:Shared}{t e:Addr}{items:Array Value}{k i:Value}{lo c:Option Int}{Q:Value->Shared->Prop}(a:IsTup s.heap t items)(hs:s.heap.IsSliceOf e k i .none)(pl:IsPart k lo)(l:IsPart i c)
  (j:HT.sIx items.size 0 lo=0/\HT.sIx items.size items.size c=items.size) (h:Q (.ref t) s):wpAny (model prog w) A (getItem (.ref t) (.ref e)) Q E s:=by
 obtain⟨m,g,d,hds⟩:=id hs;have f:s.TypeIs (.ref e) "slice":=⟨m,g,d⟩;unfold getItem;try with_reducible refine HX ?_
 first | refine Gx (Gy ?_) | skip
 refine Gx (KR a.typeIs (by decide) ?_);refine Gx (Iq a.typeIs Ie
  (ID Ie a.typeIs KE ?_ (KL _ _)))
 show wpAny _ _ (Builtin.Tuple.tupleItemsOf (.ref t) >>= _) _ _ s;refine Gx (KZ a ?_);refine Gx (KF f ?_);rw[if_pos (by decide)];refine Gx (HT.sliceApplied_gen hs pl l ?_);have b:(((HT.sIx items.size 0 lo:Nat):Int)==0&&(1:Int)==1&&(HT.sIx items.size items.size c-HT.sIx items.size 0 lo)==items.size)=true:=by
  rw[j.1,j.2];simp
 show wpAny _ _ (if (((HT.sIx items.size 0 lo:Nat):Int)==0&&(1:Int)==1&&(HT.sIx items.size items.size c-HT.sIx items.size 0 lo)==items.size)=true then _ else _) _ _ s;rw[if_pos b];refine Gx ?_;refine Gx (KF a.typeIs (Gy ?_));rw[if_pos (by decide)];refine Gx (Lw ?_);exact Gy ⟨_,rfl,Gy h⟩
theorem uL:SlR X (λx lo e H Q=>∃a xs,x=.ref a/\SqT X.K H a xs/\(HT.sIx xs.length 0 lo=0/\HT.sIx xs.length xs.length e=xs.length)/\Q (.ref a) H):=by
 intro pins s σ H x v m k lo e l Q I f hs pl j h;obtain⟨a,xs,rfl,g,i,q⟩:=h;cases f;obtain⟨c,r,d,hz⟩:=I.tuple g;have b:c.toArray.size=xs.length:=by rw[Hg];exact r.length.symm
 exact⟨"tuple",_,PyProof.Rows.slot_tuple_getitem.lookup,d.typeIs,M4 d hs pl j (by rw[b];exact i) ⟨.ref a,H,I,rfl,q⟩⟩
theorem Gd:SlR X (λx lo hi H Q=>∃μ S d,RD X.K μ H d x/\Rep X.K cl μ S H/\Post X.K cl xe μ H (slD d lo hi S) λr _ μ' H'=>∀v,RD X.K μ' H' r v->Q v H'):=by
 intro pins s σ H x v vl vu lo hi sl Q I rx hs pl pu ⟨μ,S,d,rd,rp,p⟩;have sq:∀{a:Addr}{xs:List V}{ds:List D},SqL X.K H a xs->RDs X.K μ H ds xs->x=.ref a->(∀μ' H',Lat μ H μ' H'->Rep X.K cl μ' S H'->∀w,RD X.K μ' H' (.lst (B6 ds lo hi)) w->Q w H') ->
   ∃T id,typeLookup (.type T) "__getitem__" = pure (some (.builtin id))/\s.TypeIs v T/\wpAny (model X.prog X.w) X.A (getItem v (.ref sl)) (EP X pins σ Q) X.xe s:=λ{a xs ds} hq r2 hv q=>by
  subst hv;refine vk pins s σ H _ v vl vu lo hi sl Q I rx hs pl pu ⟨a,xs,rfl,hq,λz hz=>?_⟩;obtain⟨l,rp2,rd2⟩:=L5 rp (qQ r2 lo hi) hz;exact q μ _ l rp2 _ rd2
 cases rd with
 | tup h r=>
  rename_i a xs ds;by_cases hw:HT.sIx xs.length 0 lo=0/\HT.sIx xs.length xs.length hi=xs.length
  ·refine uL pins s σ H _ v vl vu lo hi sl Q I rx hs pl pu ⟨a,xs,rfl,h.sq,hw,?_⟩;have e:B6 ds lo hi=ds:=by
    unfold B6;rw[r.length,hw.1,hw.2,Il,Nat.sub_zero];exact IV (by rw[r.length];exact Hd _)
   exact p μ H (Lat.refl _ _) rp _ (by rw[e];exact .tup h r)
  ·refine Ak pins s σ H _ v vl vu lo hi sl Q I rx hs pl pu ⟨a,xs,rfl,h.sq,hw,λz hz=>?_⟩;obtain⟨l,rp2,rd2⟩:=E1 rp (qQ r lo hi) hz;exact p μ _ l rp2 _ rd2
 | lst h r=>exact sq h.sq r rfl p
 | scr h r=>exact sq h.sq r rfl p
 | ref h=>
  rename_i n a0;have p2:=p;obtain⟨a,xs,ds,e1,h1,h2,e2⟩:=k7 (.ref h) rp p2.bind;exact sq (.inl (.inl h1)) h2 e1 (p2.ok_bind e2)
 | _=>exact False.elim p
theorem Bv{lo k:Option Expr}{c:Pos}{j m:Env->M (Option Int)}(h:PE X e (tD X.K cl xe f))(t:PO X lo (tPt X.K cl xe j))(B:PO X k (tPt X.K cl xe m)) :
  PE X (.Subscript e (.Slice lo k none c) pos) (tD X.K cl xe λρ=>bind (f ρ) λd=>bind (j ρ) λl=>bind (m ρ) λu=>slD d l u):=PE.imp (oA Gd h t B) λσ H Q ⟨μ,S,ρ,a,s,p⟩=>
 ⟨μ,S,ρ,a,s,p.bind.imp λd S1 g C n o q v x=>⟨g,S1,ρ,a.later n,o,q.bind.imp λl S2 μ2 E i A c=>⟨μ2,S2,ρ,(a.later n).later i,A,c.bind.imp λu z b D y r w=>⟨b,z,d,(x.later i).later y,r,w⟩⟩⟩⟩
end
def S9(x k v:D):M D:=match x with
 | .ref n=>λS=>match S[n]? with
  | some (.lst ds)=>match k with
   | .int i=>match ixN ds.length i with
    | some j=>.ok .non (S.set n (.lst (ds.set j v)))
    | none=>.bad
   | _=>.bad
  | some (.dct a)=>match A6 k with
   | some b=>if a.length<sizeLine then .ok .non (S.set n (.dct (ly a b v)))else .bad
   | none=>.bad
  | _=>.bad
 | _=>bad
theorem jA{K:PySem.W.Frag}{μ:Mp}{H:Hp}{k:Key}:∀{a:List (Key×D)} {c:List (Key×V)},KvsAt K μ H a c->(a.any λb=>decide (b.1=k))=c.any λb=>decide (b.1=k)
 | _,_,.nil=>rfl
 | _,_,.cons ⟨d,e⟩ t=>by simp only[IW,d,jA t]
theorem jj{K:PySem.W.Frag}{μ:Mp}{H:Hp}{k:Key}{d:D}{v:V}(r:RD K μ H d v):∀{kvs:List (Key×D)} {ks:List (Key×V)},KvsAt K μ H kvs ks->KvsAt K μ H (kvs.map λkv=>if kv.1=k then (kv.1,d)else kv) (ks.map λkv=>if kv.1=k then (kv.1,v)else kv)
 | _,_,.nil=>.nil
 | _,_,.cons (b:=b) ⟨h1,h2⟩ t=>by
  simp only[List.map_cons];refine .cons ?_ (jj r t);by_cases hk:b.1=k
  ·rw[if_pos hk,if_pos (h1.trans hk)];exact⟨h1,r⟩
  ·rw[if_neg hk,if_neg (by rw[h1];exact hk)];exact⟨h1,h2⟩
theorem Paired.app:∀{xs a:List α}{ys b:List β},Paired P xs ys->Paired P a b->Paired P (xs++a) (ys++b)
 | _,_,_,_,.nil,s=>s
 | _,_,_,_,.cons r t,s=>.cons r (Paired.app t s)
theorem jH{K:PySem.W.Frag}{μ:Mp}{H:Hp}{k:Key}{d:D}{v:V}{a:List (Key×D)}{b:List (Key×V)}(h:KvsAt K μ H a b)(r:RD K μ H d v):KvsAt K μ H (ly a k d) (w5 b k v):=by
 unfold ly w5;rw[jA h];split
 ·exact jj r h
 ·exact Paired.app h (.cons ⟨rfl,r⟩ .nil)
theorem KvsAt.later{K:PySem.W.Frag}{μ μ':Mp}{H H':Hp}{a:List (Key×D)}{b:List (Key×V)}(h:KvsAt K μ H a b)(l:Lat μ H μ' H'):KvsAt K μ' H' a b:=Paired.mono (λ_ _ ⟨z,w⟩=>⟨z,w.later l⟩) h
section
variable {X:Cx}{cl:ClW}{xe:Addr->Hp->Prop}{a b e:Expr}{es rest:List Expr}{pos:Pos}{f g k:Env->M D}
theorem CL(hu:X.A.units+1<cLine):zM X (λo i v H Q=>∃μ S x y z,RD X.K μ H x o/\RD X.K μ H y i/\RD X.K μ H z v/\Rep X.K cl μ S H/\Post X.K cl xe μ H (S9 x y z S) λ_ _ _ H'=>Q H'):=by
 intro pins s σ H o i v ov iv u Q I ro ri rv ⟨μ,S,x,y,z,rx,ry,rz,rp,p⟩;cases rx with
 | ref h=>
  rename_i n a;have m:=HE h;simp only[S9]at p;cases q1:S[n]? with
  | none=>rw[q1]at p;exact p.elim
  | some ob=>
   rw[q1]at p;cases ob with
   | lst ds=>
    obtain⟨xs,h1,h2⟩:=rp.ats n _ a q1 h;cases ry with
    | int j=>
     simp only at p;cases q2:ixN ds.length j with
     | none=>rw[q2]at p;exact p.elim
     | some t=>
      rw[q2]at p;refine rh pins s σ H _ _ v ov iv u Q I ro ri rv ⟨a,xs,j,t,rfl,rfl,h1,by rw[<- h2.length];exact q2,?_⟩;exact p μ _ (Lat.wrote m) (rp.wrote h ⟨_,b9,(h2.set rz t).later (Lat.wrote m)⟩)
    | _=>exact False.elim p
   | dct kvs=>
    obtain⟨ks,h1,h2⟩:=rp.ats n _ a q1 h;cases q2:A6 y with
    | none=>rw[q2]at p;exact p.elim
    | some key=>
     rw[q2]at p;by_cases hl:kvs.length<sizeLine
     ·simp only[if_pos hl]at p;have hy:=F9 ry q2;subst hy;cases ro;have hl2:ks.length<sizeLine:=by rw[<- Paired.length h2];exact hl
      refine mT hu I (DPut.k h1 hl2) ri rv λs' I'=>⟨_,I',?_⟩;exact p μ _ (Lat.wrote m) (rp.wrote h ⟨_,b9,(jH h2 rz).later (Lat.wrote m)⟩)
     ·simp only[if_neg hl]at p;exact p.elim
   | exc _ _=>exact p.elim
   | dcT _=>exact p.elim
 | _=>exact False.elim p
theorem lg(h:t9 b=true):∀v,assign (.Subscript a b p2) env v=(do
   let c <- holding [v] (eval a env)
   let d <- holding [v,c] (eval b env)
   standAt p2
   holding [v,c,d] (setItem c d v)
   release [v,c,d] []):=by
 intro v;cases b <;> first | rfl | (exact absurd h (by simp[t9]))
theorem sZ(o:X.A.units+1<cLine)(L:PE X e (tD X.K cl xe f))(J:PE X a (tD X.K cl xe g))(I:PE X b (tD X.K cl xe k))(s:n9 e=true)(u:t9 b=true) :
  PS X (.Assign [.Subscript a b n] e pos) (sD X.K cl xe λρ=>bind (f ρ) λv=>bind (g ρ) λx=>bind (k ρ) λy=>bind (S9 x y v) λ_=>ret (.nx ρ)):=
 PS.imp (gq L (zE J I (CL o) (lg u)) (by unfold swapsWithSole;exact C9 s) rfl rfl) λD σ H ⟨μ,S,ρ,c,z,p⟩=>
  ⟨μ,S,ρ,c,z,p.bind.imp λv S1 j P m r t vv F=>⟨j,S1,ρ,c.later m,r,t.bind.imp λx S2 μ2 T d N n R K=>⟨μ2,S2,ρ,(c.later m).later d,N,n.bind.imp λy M i Q l w E O q=>
   ⟨i,M,x,y,v,K.later l,q,(F.later d).later l,w,E.bind.imp λ_ U h B G C A=>A.ret h B (Lat.refl _ _) C σ ((((c.later m).later d).later l).later G)⟩⟩⟩⟩
def P7(x:D)(ds:List D):M D:=match x,ds with
 | .ref n,[d]=>λS=>match S[n]? with
  | some (.lst es)=>if es.length<sizeLine then .ok .non (S.set n (.lst (es++[d])))else .bad
  | _=>.bad
 | _,_=>bad
def B0(es:List Expr):Bool:=decide (es.length<30)
theorem gh(b:es.all noStar=true)(a:B0 es=true):((backTo cpos (starEach es X.env)).all (λx=>!x.1)&&(backToKw cpos (keywordEach [] X.env)).all (λx=>x.1.isSome)&&decide (es.length+([]:List Keyword).length+(if ([]:List Keyword).isEmpty then 0 else 1)<30))=true:=by
 rw[bI b];simpa [keywordEach,backToKw] using HR a
theorem lb(ho:PE X a (tD X.K cl xe f))(ha:PA X (e::es) (tDs X.K cl xe fs))(hb:u3 a=true)(hs:(e::es).all noStar=true)(hf:B0 (e::es)=true)(hl:(apos.endLine==cpos.line)=true) :
  PE X (.Call (.Attribute a "append" apos) (e::es) [] cpos) (tD X.K cl xe λρ=>bind (f ρ) λx=>bind (lstOf x) λ_=>bind (fs ρ) λds=>P7 x ds):=by
 have hs2:=hs;rw[Ib,Gz]at hs2;refine PE.imp (yE Kh PySem.F.slot_list_append PySem.F.type_list_append V3 ho ha (D8 hb) (gh hs hf) hl (h9 hs2.1) (m9 hs2.2)) λσ H Q ⟨μ,S,ρ,eo,rp,p⟩=>?_;refine⟨μ,S,ρ,eo,rp,p.bind.imp λx S1 μ1 H1 l1 r1 p1 xv rx=>?_⟩;obtain⟨a0,xs0,ds0,e0,h0,r0,q0⟩:=k7 rx r1 p1.bind;have p1:=p1.ok_bind q0;subst e0;refine⟨.inl ⟨rfl,_,.inl (.inl h0)⟩,μ1,S1,ρ,eo.later l1,r1,p1.bind.imp λds S2 μ2 H2 l2 r2 p2 vs rvs=>?_⟩;have rx2:=rx.later l2;clear p1;cases rx2 with
 | ref h=>
  rename_i n
  match ds,rvs with
  | [],_=>exact False.elim p2
  | _::_::_,_=>exact False.elim p2
  | [d],rvs=>
   obtain⟨v,rfl,rv⟩:=nn rvs;simp only[P7]at p2;cases q1:S2[n]? with
   | none=>rw[q1]at p2;exact p2.elim
   | some o=>
    rw[q1]at p2;cases o with
    | lst es=>
     obtain⟨xs,h1,h2⟩:=r2.ats n _ _ q1 h;by_cases hl:es.length<sizeLine
     ·simp only[if_pos hl]at p2;have m:=HE h;refine⟨_,xs,v,rfl,rfl,h1,by rw[<- h2.length];exact hl,?_⟩;exact p2 μ2 _ (Lat.wrote m) (r2.wrote h ⟨_,b9,(h2.append (.cons rv .nil)).later (Lat.wrote m)⟩) _ .non
     ·simp only[if_neg hl]at p2;exact p2.elim
    | dct _=>exact p2.elim
    | exc _ _=>exact p2.elim
    | dcT _=>exact p2.elim
 | _=>exact False.elim p2
end
def B4:List ((Env->M D)×(Env->M D))->Env->M (List (D×D))
 | [],_=>ret []
 | (f,g)::r,ρ=>bind (f ρ) λx=>bind (g ρ) λy=>bind (B4 r ρ) λps=>ret ((x,y)::ps)
def gS(c a:List (Key×D)):List (Key×D):=a.foldl (λb d=>ly b d.1 d.2) c
def bv(p:D×D):Option (Key×D):=(A6 p.1).map λk=>(k,p.2)
def hR(ps:List (D×D)):M D:=λS=>match e9 bv ps with
 | some a=>if a.length<=15 then .ok (.ref S.length) (S++[.dct (gS [] a)])else .bad
 | none=>.bad
section
variable {K:PySem.W.Frag}{cl:ClW}{xe:Addr->Hp->Prop}{μ:Mp}{H:Hp}{S:Sto}{β:Type}
theorem bq:∀{d:List (Key×D)} {ms:List (Key×V)} {c:List (Key×D)} {e:List (Key×V)},KvsAt K μ H d ms->KvsAt K μ H c e->KvsAt K μ H (gS c d) (N6 e ms)
 | _,_,_,_,.nil,h=>h
 | _,_,c,e,.cons (a:=a) (b:=b) ⟨h1,h2⟩ t,h=>by
  show KvsAt K μ H (gS (ly c a.1 a.2) _) (N6 (w5 e b.1 b.2) _);rw[h1];exact bq t (jH h h2)
abbrev RPs(K:PySem.W.Frag)(μ:Mp)(H:Hp):List (D×D)->List (V×V)->Prop:=Paired λx y=>RD K μ H x.1 y.1/\RD K μ H x.2 y.2
theorem bind_assoc(m:M α)(k:α->M β)(j:β->M γ):bind (bind m k) j=bind m λa=>bind (k a) j:=by
 funext S;unfold bind;cases m S <;> rfl
theorem i3(a:α)(k:α->M β):bind (ret a) k=k a:=rfl
theorem X0{ρ:Env}{σ:L2.St}:∀{fks:List ((Env->M D)×(Env->M D))} {k:List (D×D)->M β} {G:β->Sto->Mp->Hp->Prop} {R:List (V×V)->Hp->Prop} {μ2:Mp} {c:Hp} {S2:Sto},Post K cl xe μ H (bind (B4 fks ρ) k S2) G->HLat μ H p μ2 c->p∉μ2.pl->c p=some o->EnvOk K μ2 c ρ σ->Rep K cl μ2 S2 c ->
  (∀ps d a j ds,HLat μ H p a d->p∉a.pl->d p=some o->Rep K cl a j d->Lat μ2 c a d->RPs K a d ds ps->Post K cl xe μ H (k ds j) G->R ps d)->dI (fks.map λz=>(tD K cl xe z.1,tD K cl xe z.2)) σ c R
 | [],k,G,R,μ2,c,S2,h,l,n,e,i,s,q=>q [] c μ2 S2 [] l n e s (Lat.refl _ _) .nil h
 | (f,g)::r,k,G,R,μ2,c,S2,h,l,n,e,i,s,q=>by
  have S:Post K cl xe μ H (bind (f ρ) (λx=>bind (g ρ) λy=>bind (B4 r ρ) λps=>k ((x,y)::ps)) S2) G:=by
   have:bind (B4 ((f,g)::r) ρ) k=bind (f ρ) (λx=>bind (g ρ) λy=>bind (B4 r ρ) λps=>k ((x,y)::ps)):=by
    show bind (bind (f ρ) λx=>bind (g ρ) λy=>bind (B4 r ρ) λps=>ret ((x,y)::ps)) k=_;simp only[bind_assoc,i3]
   rw[<- this];exact h
  refine⟨μ2,S2,ρ,i,s,(S.at l).imp λx j a d t T C N I=>?_⟩;refine⟨a,j,ρ,i.later t,T,(C.at (l.step t)).imp λy S4 Y Z A P L U F=>?_⟩;have b:=t.trans A;have O:=b.oth _ _ e n;refine X0 L (l.step b) (b.out e n) O (i.later b) P λps E m B ds w W X J u v Q=>?_;exact q ((N,U)::ps) E m B ((x,y)::ds) w W X J (b.trans u) (.cons ⟨(I.later A).later u,F.later u⟩ v) Q
theorem gw{p:Addr}{u:HO}{ob:O}{rs:List Addr}{kz:List (Key×V)}(er:μ.rs=p::rs)(nr:p∉rs)(hp:H p=some (.dK kz))(rp:Rep K cl μ S H)(ho:OAt K cl ⟨μ.pl++[p],rs⟩ (upd H p u) p ob):Rep K cl ⟨μ.pl++[p],rs⟩ (S++[ob]) (upd H p u):=by
 have np:p∉μ.pl:=(rp.res p (by rw[er];exact Hf)).1;have hp':∀(n:Nat)(a:Addr),μ.pl[n]?=some a->(μ.pl++[p])[n]?=some a:=λn a e=>by rw[Hj (Hb.mp e).1];exact e
 have ho':∀a w,H a=some w->a∉μ.pl->a∉μ.rs->upd H p u a=some w/\a∉(⟨μ.pl++[p],rs⟩:Mp).pl/\a∉(⟨μ.pl++[p],rs⟩:Mp).rs:=λa w e n1 n2=>by
  have ne:a≠p:=λz=>n2 (by rw[er,z];exact Hf);refine⟨by rw[a9 ne];exact e,λz=>?_,λz=>n2 (by rw[er];exact Hh _ z)⟩;rcases Hz.mp z with z | z
  ·exact n1 z
  ·exact ne (Hm.mp z)
 refine⟨by simp[rp.len],?_,λn o a e1 e2=>?_,λa m=>?_⟩
 ·show(μ.pl++[p]).Nodup;rw[Kn];exact⟨rp.nd,by simp,λa m b m2=>by rw[Hm.mp m2];rintro rfl;exact np m⟩
 ·have e2:(μ.pl++[p])[n]?=some a:=e2;by_cases hn:n<S.length
  ·rw[Hj hn]at e1;rw[Hj (by rw[rp.len];exact hn)]at e2;have h:=rp.ats n o a e1 e2;have ka:upd H p u a=H a:=a9 λz=>np (z▸HE e2);cases o with
   | lst ds=>obtain⟨xs,e,q⟩:=h;exact⟨xs,by rw[ka];exact e,q.move hp' ho'⟩
   | dct kvs=>obtain⟨xs,e,q⟩:=h;exact⟨xs,by rw[ka];exact e,Paired.mono (λ_ _ ⟨z,w⟩=>⟨z,w.move hp' ho'⟩) q⟩
   | dcT kvs=>obtain⟨es,e,h1,h2,q⟩:=h;exact⟨es,by rw[ka];exact e,h1,h2,Paired.mono (λ_ _ ⟨b,v,z,a1,a2,a3,a4,a5,a6⟩=>⟨b,v,z,a1,a2.move hp' ho',a3,a4,a5,a6.move hp' ho'⟩) q⟩
   | exc c fs=>
    obtain⟨xc,gs,q,fr,h⟩:=h;refine⟨xc,gs,Paired.mono (λ_ _ ⟨z,w⟩=>⟨z,w.move hp' ho'⟩) q,fr,?_⟩;rcases h with ⟨z,e⟩ | ⟨d,h1,h2,e,e3⟩
    ·exact .inl ⟨z,by rw[ka];exact e⟩
    ·have ne:d≠p:=kY e3 hp (by intro z;cases z);refine .inr ⟨d,h1,λz=>?_,by rw[ka];exact e,by rw[a9 ne];exact e3⟩;rcases Hz.mp z with z | z
     ·exact h2 z
     ·exact ne (Hm.mp z)
  ·have hn2:n=S.length:=by
    have:=(Hb.mp e1).1;simp at this;omega
   subst hn2;rw[<- rp.len]at e2;simp at e1 e2;subst e1;subst e2;exact ho
 ·have m:a∈rs:=m;obtain⟨h1,w,h2⟩:=rp.res a (by rw[er];exact Hh _ m);have ne:a≠p:=λz=>nr (z▸m);refine⟨λz=>?_,w,by rw[a9 ne];exact h2⟩;rcases Hz.mp z with z | z
  ·exact h1 z
  ·exact ne (Hm.mp z)
theorem ah:∀{ds:List (D×D)} {ps:List (V×V)} {kvs:List (Key×D)},RPs K μ H ds ps->e9 bv ds=some kvs->∃ks:List (Key×V),KvsAt K μ H kvs ks/\ps=ks.map (λkv=>(kV kv.1,kv.2))
 | _,_,kvs,.nil,e=>by cases e;exact⟨[],.nil,rfl⟩
 | _,_,kvs,.cons (a:=a) (b:=b) ⟨h1,h2⟩ t,e=>by
  simp only[e9]at e;cases e1:bv a with
  | none=>rw[e1]at e;cases e
  | some kv=>
   rename_i as bs;cases e2:e9 bv as with
   | none=>rw[e1,e2]at e;cases e
   | some kvs'=>
    rw[e1,e2]at e;cases e;obtain⟨ks,q1,q2⟩:=ah t e2;unfold bv at e1;cases e3:A6 a.1 with
    | none=>rw[e3]at e1;cases e1
    | some k=>
     rw[e3]at e1;cases e1;have:=F9 h1 e3;obtain⟨b1,b2⟩:=b;subst this;exact⟨(k,b2)::ks,.cons ⟨rfl,h2⟩ q1,by rw[q2];rfl⟩
end
section
variable {X:Cx}{cl:ClW}{xe:Addr->Hp->Prop}{pos:Pos}
theorem sr(h:PPs X pos keys values (fks.map λfg=>(tD X.K cl xe fg.1,tD X.K cl xe fg.2)))(hall:keys.all (·.isSome)=true)(hl:keys.length=values.length)(h0:keys≠[])(h15:keys.length<=15) :
  PE X (.Dict keys values pos) (tD X.K cl xe λρ=>bind (B4 fks ρ) hR):=PE.imp (tt h hall hl h0 h15) λσ H Q ⟨μ,S,ρ,eo,rp,P⟩=>by
 intro p hp;have nrs:=rp.notrs hp;refine X0 (μ2:=μ.hold p) P ?_ (rp.notin hp) b9 (aa rp hp eo) (aB rp hp) λps H3 μ3 S3 ds hl3 n3 e3 r3 l3 rps P3=>?_
 ·refine⟨⟨λ_ _ e=>e,λa o e _=>by rw[a9 (c6 e hp)];exact e,λa m=>.inl m,λa m=>?_⟩,rfl⟩;rcases Ho.mp (m)with rfl | m
  ·exact .inr hp
  ·exact .inl m
 ·simp only[hR]at P3;cases e1:e9 bv ds with
  | none=>rw[e1]at P3;exact P3.elim
  | some kvs=>
   rw[e1]at P3;by_cases h15:kvs.length<=15
   ·simp only[if_pos h15]at P3;obtain⟨ks,q1,q2⟩:=ah rps e1;refine⟨e3,ks,q2,by rw[<- Paired.length q1];exact h15,?_⟩;have np:=n3;have hp':∀(n:Nat)(a:Addr),μ3.pl[n]?=some a->(μ3.pl++[p])[n]?=some a:=λn a e=>by rw[Hj (Hb.mp e).1];exact e
    have mv:∀{u:HO}{d:D}{v:V},RD X.K μ3 H3 d v->RD X.K ⟨μ3.pl++[p],μ.rs⟩ (upd H3 p u) d v:=λr=>r.move hp' λa w e n1 n2=>by
     have ne:a≠p:=λz=>n2 (by rw[hl3.rs,z];exact Hf);refine⟨by rw[a9 ne];exact e,λz=>?_,λz=>n2 (by rw[hl3.rs];exact Hh _ z)⟩;rcases Hz.mp z with z | z
     ·exact n1 z
     ·exact ne (Hm.mp z)
    refine P3 ⟨μ3.pl++[p],μ.rs⟩ _ ?_ (gw hl3.rs nrs e3 r3 ⟨_,b9,bq (Paired.mono (λ_ _ ⟨z,w⟩=>⟨z,mv w⟩) q1) .nil⟩) _ (.ref ?_)
    ·refine⟨λn a e=>hp' n a (hl3.r.pre n a e),λa o e n=>?_,λa m=>?_,rfl⟩
     ·rw[a9 (c6 e hp)];exact hl3.r.oth a o e n
     ·rcases Hz.mp (m)with m | m
      ·exact hl3.r.new a m
      ·exact .inr (by rw[Hm.mp m];exact hp)
    ·show(μ3.pl++[p])[S3.length]?=some p;rw[<- r3.len];simp
   ·simp only[if_neg h15]at P3;exact P3.elim
end
def E6(S:Sto)(d:D):Bool:=match j7 64 S d with
 | some p=>decide (Shows p)&&decide (p.shown.length<=4000)&&(match d with
  | .str x=>decide (x.length<=4000)
  | _=>true)
 | none=>false
def F8(c:Nat)(fs:List Str)(ds:List D):M D:=λS=>if ds.length=fs.length/\ds.all (E6 S)=true then .ok (.ref S.length) (S++[.exc c (fs.zip ds)])else .bad
def oa(c:Nat)(ds:List D):M D:=λS=>match ds with
 | [_]=>.ok (.ref S.length) (S++[.exc c []])
 | _=>.bad
theorem iB{K:PySem.W.Frag}{cl:ClW}{μ:Mp}{H:Hp}{S:Sto}{d:D}{v:V}(rp:Rep K cl μ S H)(r:RD K μ H d v)(h:E6 S d=true):∃p,Hn.Fmt K H v p:=by
 unfold E6 at h;cases e:j7 64 S d with
 | none=>rw[e]at h;cases h
 | some p=>
  rw[e]at h;simp at h;refine⟨p,B1 rp 64 e r,h.1.1,h.1.2,λx ex=>?_⟩;subst ex;cases r with
  | str _=>exact HR h.2
def EA(K:PySem.W.Frag)(H:Hp)(v:V):Prop:=∃x C d,v=.ref x/\XC K C/\H x=some (O3 x C d)
def tDf(K:PySem.W.Frag)(cl:ClW)(xe:Addr->Hp->Prop)(f:Env->M D):TE:=λσ H Q=>∃μ S ρ,EnvOk K μ H ρ σ/\Rep K cl μ S H/\Post K cl xe μ H (f ρ S) λd _ μ' H'=>∀v,RD K μ' H' d v->EA K H' v->Q v H'
theorem PE.unf{X:Cx}{cl:ClW}{xe:Addr->Hp->Prop}{e:Expr}{f:Env->M D}(h:PE X e (tDf X.K cl xe f)):PE X e (tD X.K cl xe f):=PE.imp h λσ H Q ⟨μ,S,ρ,eo,rp,P⟩=>⟨μ,S,ρ,eo,rp,P.imp λd S1 μ1 H1 l1 r1 p1 v rv _=>p1 v rv⟩
section
variable {X:Cx}{cl:ClW}{xe:Addr->Hp->Prop}{e:Expr}{es:List Expr}{pos:Pos}{fs:Env->M (List D)}
theorem jX{K:PySem.W.Frag}{μ:Mp}{H H':Hp}{S:Sto}{c:Nat}{x:Addr}{gs:List (Str×V)}{ds:List (Str×D)}(rp:Rep K cl μ S H)(hx:H x=none)(M:XC K (cl c))(g:Hn.Got (upd H x (O3 x (cl c) none)) x (cl c) gs H')(r:∀{μ':Mp}{H':Hp},Lat μ H μ' H'->ni K μ' H' ds gs) :
  Lat μ H (μ.push x) H'/\Rep K cl (μ.push x) (S++[.exc c ds]) H'/\RD K (μ.push x) H' (.ref S.length) (.ref x):=by
 obtain⟨d,hd,ne,h1,h2,h3⟩:=g;rw[a9 ne]at hd;have k:∀a u,H a=some u->H' a=some u:=λa u e=>by
  have n1:=c6 e hx;have n2:=c6 e hd;rw[h3 a n1 n2,a9 n1];exact e
 have l:=Lat.pushed (μ:=μ) hx k;refine⟨l,rp.pushed hx k ⟨M,gs,r l,none,.inr ⟨d,ne,λz=>?_,h1,h2⟩⟩,.ref ?_⟩
 ·rcases Hz.mp (z)with z | z
  ·exact rp.notin hd z
  ·exact ne (Hm.mp z)
 ·show(μ.pl++[x])[S.length]?=some x;rw[<- rp.len];simp
theorem oH{k:Nat}{f:Addr}{fd:FuncData}{ps:List Str}{E:XK}{CX:CXT}{nm g:Str}{p:Pos}{c:Nat}(M:XC X.K (cl c))(na:z9 X.K (cl c) g)(hi:PySem.W.findIn X.K (.ref (cl c)) "__init__" = some (some (.ref f))) (hf:PySem.W.isFn X.K (.ref f)=true) (F:FnOk X.prog X.w X.K X.mg X.base CX k f fd ps (Hn.sp1 X.K g)) (hr:Room CX.q (k+1) X.A) (hg:Gl X nm) (hm:X.mg nm=some (.ref (cl c))) (hb:Binds X.K fd ps []) (hx:C3 CX X E)
  (ha:PA X (e::es) (tDs X.K cl xe fs)) (hdb:(nm==("__debug__" : Str))=false) (hs:(e::es).all noStar=true):PE X (.Call (.Name nm p) (e::es) [] pos) (tDf X.K cl xe λρ=>bind (fs ρ) (F8 c [g])):=by
 rw[Ib,Gz]at hs;refine PE.imp (aZ M hi hf F hr hg hm hb hx ha hdb (h9 hs.1) (m9 hs.2)) λσ H Q ⟨μ,S,ρ,eo,rp,P⟩=>?_;refine⟨μ,S,ρ,eo,rp,P.bind.imp λds S1 μ1 H1 l1 r1 p1 vs rvs=>?_⟩;unfold F8 at p1;by_cases hc:ds.length=[g].length/\ds.all (E6 S1)=true
 ·rw[if_pos hc]at p1
  match ds,hc,rvs,p1 with
  | [d],hc,rvs,p1=>
   obtain⟨v,rfl,rv⟩:=nn rvs;obtain⟨q,ft⟩:=iB r1 rv (by simpa using hc.2);refine⟨by show 1<=1000;decide,λx hx=>⟨x,v,cl c,q,rfl,M,na,b9,ft.laid hx,λH' got=>⟨rfl,?_⟩⟩⟩;obtain⟨l2,r2,rd2⟩:=jX (c:=c) (ds:=[(g,d)]) r1 hx M got λl=>.cons ⟨rfl,rv.later l⟩ .nil;obtain⟨d0,_,_,g1,_⟩:=id got;exact p1 _ _ l2 r2 _ rd2 ⟨x,cl c,_,rfl,M,g1⟩
  | [],hc,_,_=>exact absurd hc.1 (by simp)
  | _::_::_,hc,_,_=>exact absurd hc.1 (by simp)
 ·rw[if_neg hc]at p1;exact p1.elim
theorem oE{k:Nat}{f:Addr}{fd:FuncData}{ps:List Str}{E:XK}{CX:CXT}{nm g g2:Str}{p:Pos}{c:Nat}(M:XC X.K (cl c))(na:z9 X.K (cl c) g)(nb:z9 X.K (cl c) g2)(hi:PySem.W.findIn X.K (.ref (cl c)) "__init__" = some (some (.ref f))) (hf:PySem.W.isFn X.K (.ref f)=true) (F:FnOk X.prog X.w X.K X.mg X.base CX k f fd ps (Hn.sp2 X.K g g2)) (hr:Room CX.q (k+1) X.A) (hg:Gl X nm) (hm:X.mg nm=some (.ref (cl c))) (hb:Binds X.K fd ps []) (hx:C3 CX X E)
  (ha:PA X (e::es) (tDs X.K cl xe fs)) (hdb:(nm==("__debug__" : Str))=false) (hs:(e::es).all noStar=true):PE X (.Call (.Name nm p) (e::es) [] pos) (tDf X.K cl xe λρ=>bind (fs ρ) (F8 c [g,g2])):=by
 rw[Ib,Gz]at hs;refine PE.imp (aZ M hi hf F hr hg hm hb hx ha hdb (h9 hs.1) (m9 hs.2)) λσ H Q ⟨μ,S,ρ,eo,rp,P⟩=>?_;refine⟨μ,S,ρ,eo,rp,P.bind.imp λds S1 μ1 H1 l1 r1 p1 vs rvs=>?_⟩;unfold F8 at p1;by_cases hc:ds.length=[g,g2].length/\ds.all (E6 S1)=true
 ·rw[if_pos hc]at p1
  match ds,hc,rvs,p1 with
  | [d,d2],hc,rvs,p1=>
   cases rvs with
   | cons rv t=>
    obtain⟨v2,rfl,rv2⟩:=nn t;rename_i v;have hc2:E6 S1 d=true/\E6 S1 d2=true:=by simpa using hc.2
    obtain⟨q,ft⟩:=iB r1 rv hc2.1;obtain⟨q2,ft2⟩:=iB r1 rv2 hc2.2;refine⟨by show 2<=1000;decide,λx hx=>⟨x,v,v2,cl c,q,q2,rfl,M,na,nb,b9,ft.laid hx,ft2.laid hx,λH' got=>⟨rfl,?_⟩⟩⟩;obtain⟨l2,r2,rd2⟩:=jX (c:=c) (ds:=[(g,d),(g2,d2)]) r1 hx M got λl=>.cons ⟨rfl,rv.later l⟩ (.cons ⟨rfl,rv2.later l⟩ .nil);obtain⟨d0,_,_,g1,_⟩:=id got;exact p1 _ _ l2 r2 _ rd2 ⟨x,cl c,_,rfl,M,g1⟩
  | [],hc,_,_=>exact absurd hc.1 (by simp)
  | [_],hc,_,_=>exact absurd hc.1 (by simp)
  | _::_::_::_,hc,_,_=>exact absurd hc.1 (by simp)
 ·rw[if_neg hc]at p1;exact p1.elim
theorem oG{f:Addr}{fd:FuncData}{ps:List Str}{E:XK}{CX:CXT}{j:Str}{p:Pos}{c:Nat}(M:XC X.K (cl c))(B:PySem.W.findIn X.K (.ref (cl c)) "__init__" = some (some (.ref f))) (A:PySem.W.isFn X.K (.ref f)=true) (F:FnOk X.prog X.w X.K X.mg X.base CX k f fd ps (Hn.spHE X.K)) (y:Room CX.q (k+1) X.A) (w:Gl X j) (s:X.mg j=some (.ref (cl c))) (t:Binds X.K fd ps []) (i:C3 CX X E)
  (r:PA X (e::es) (tDs X.K cl xe fs)) (m:(j==("__debug__" : Str))=false) (hs:(e::es).all noStar=true):PE X (.Call (.Name j p) (e::es) [] pos) (tDf X.K cl xe λρ=>bind (fs ρ) (oa c)):=by
 rw[Ib,Gz]at hs;refine PE.imp (aZ M B A F y w s t i r m (h9 hs.1) (m9 hs.2)) λσ H Q ⟨μ,S,ρ,z,q,P⟩=>?_;refine⟨μ,S,ρ,z,q,P.bind.imp λds S1 h o D n b vs g=>?_⟩
 match ds,g,b with
 | [d],g,b=>
  obtain⟨v,rfl,C⟩:=nn g;refine⟨by show 1<=1000;decide,λx i=>⟨x,v,cl c,none,rfl,M,b9,rfl,?_⟩⟩;have k:∀a u,o a=some u->upd o x (O3 x (cl c) none) a=some u:=λa u e=>by rw[a9 (c6 e i)];exact e
  have l:=Lat.pushed (μ:=h) i k;refine b _ _ l (n.pushed i k ⟨M,[],.nil,none,.inl ⟨rfl,b9⟩⟩) _ (.ref ?_) ⟨x,cl c,_,rfl,M,b9⟩;show(h.pl++[x])[S1.length]?=some x;rw[<- n.len];simp
 | [],_,b=>exact b.elim
 | _::_::_,_,b=>exact b.elim
end
def tys:List String:=["NoneType","bool","int","str","tuple","list","dict"]
def subT(t T:String):Bool:=t==T||(t == "bool" && T == "int")
theorem vQ(K:PySem.W.Frag):∀t∈tys,∀T∈tys,PySem.W.kitOne K (.type t) (.type T)=some (subT t T):=by
 intro t a T b;simp only[tys,Ho,IE,KA]at a b;rcases a with rfl | rfl | rfl | rfl | rfl | rfl | rfl <;> rcases b with rfl | rfl | rfl | rfl | rfl | rfl | rfl <;> kernel_rfl
def tyD(S:Sto)(d:D):Option String:=match d with
 | .non=>some "NoneType"
 | .bl _=>some "bool"
 | .int _=>some "int"
 | .str _=>some "str"
 | .tup _=>some "tuple"
 | .lst _=>some "list"
 | .scr _=>some "list"
 | .ref n=>match S[n]? with
  | some (.lst _)=>some "list"
  | some (.dct _)=>some "dict"
  | _=>none
def T0(T:String)(sx:Nat->Bool)(d:D):M D:=λS=>match tyD S d with
 | some t=>.ok (.bl (subT t T)) S
 | none=>match d with
  | .ref n=>match S[n]? with
   | some (.exc c _)=>.ok (.bl (sx c)) S
   | _=>.bad
  | _=>.bad
def lA(sx:Nat->Bool)(d:D):M D:=λS=>match d with
 | .ref n=>match S[n]? with
  | some (.exc c _)=>.ok (.bl (sx c)) S
  | _=>.bad
 | _=>.bad
section
variable {X:Cx}{cl:ClW}{xe:Addr->Hp->Prop}{a:Expr}{pos p q:Pos}{f:Env->M D}
theorem vV{sx:Nat->Bool}(j:En T=some c0)(g:∀c,XC X.K (cl c)->PySem.W.kitOne X.K (.ref (cl c)) c0=some (sx c)){pins:List (Addr×Obj)}{s:Shared}{σ:L2.St}{H:Hp}{us:List Value}{Q:VK}{μ:Mp}{S:Sto}{n:Nat}{b:Addr}{c:Nat}{fs:List (Str×D)}(I:L2.Inv X pins σ H s)(r:Vals [.ref b,T] us)
  (l:Rep X.K cl μ S H) (e:S[n]?=some (.exc c fs)) (h:μ.pl[n]?=some b) (q:Q (.bl (sx c)) H):wpAny (model X.prog X.w) X.A (call (.builtin "isinstance") us) (EP X pins σ Q) X.xe s:=by
 obtain⟨a,gs,p,i,k⟩:=l.ats n _ b e h;rcases k with ⟨z,f⟩ | ⟨d,o,t,f,m⟩
 ·exact cI pins s σ H _ us Q I r ⟨i,b,cl c,none,T,c0,sx c,rfl,a,f,λ_ z=>(nomatch z),j,g c a,q⟩
 ·exact cI pins s σ H _ us Q I r ⟨i,b,cl c,some d,T,c0,sx c,rfl,a,f,λd' z=>by cases z;exact⟨gs,m⟩,j,g c a,q⟩
theorem kl(hT:T∈tys){pins:List (Addr×Obj)}{s:Shared}{σ:L2.St}{H:Hp}{us:List Value}{Q:VK}{μ:Mp}{S:Sto}{d:D}{v:V}{t:String}(I:L2.Inv X pins σ H s)(r:Vals [v,.ty T] us)(rd:RD X.K μ H d v)(rp:Rep X.K cl μ S H)(e:tyD S d=some t)
  (q:Q (.bl (subT t T)) H):wpAny (model X.prog X.w) X.A (call (.builtin "isinstance") us) (EP X pins σ Q) X.xe s:=by
 obtain⟨u,u2,rfl,ru,ru2⟩:=eT r;cases (ru2);have ht:t∈tys:=by
  cases d <;> simp only[tyD]at e <;> first
   | (cases e;decide)
   | (split at e <;> first | (cases e;decide) | cases e)
 have hk:=vQ X.K t ht T hT;have fin:∀tk,EP X pins σ Q (.bool (subT t T)) { s with toks:=tk }:=λtk=>⟨.bl _,H,I.tok _,rfl,q⟩;have tupT:∀{b:Addr}{xs:List V},SqT X.K H b xs->u=.ref b->t = "tuple"->wpAny (model X.prog X.w) X.A (call (.builtin "isinstance") [u,.type T]) (EP X pins σ Q) X.xe s:=λ{b xs} h eu et=>by
  subst eu et;obtain⟨its,_,⟨o,h1,h2,_⟩,_⟩:=I.tuple h;exact IQ PySem.W.kitx_tuple I.kIn ⟨o,h1,h2⟩ hk (λz=>nomatch z) fin
 have lstT:∀{b:Addr}{xs:List V},SqL X.K H b xs->u=.ref b->t = "list"->wpAny (model X.prog X.w) X.A (call (.builtin "isinstance") [u,.type T]) (EP X pins σ Q) X.xe s:=λ{b xs} h eu et=>by
  subst eu et;obtain⟨its,_,⟨o,n,h1,h2,_⟩,_⟩:=I.list h;exact IQ PySem.W.kitx_list I.kIn ⟨o,h1,h2⟩ hk (λz=>nomatch z) fin
 cases rd with
 | non=>cases (ru);cases e;exact IQ PySem.W.kitx_none I.kIn True.intro hk (λz=>nomatch z) fin
 | bl b=>cases (ru);cases e;exact IQ PySem.W.kitx_bool I.kIn True.intro hk (λz=>nomatch z) fin
 | int i=>obtain⟨tk,q⟩:=(ru);cases q;cases e;exact IQ PySem.W.kitx_int I.kIn True.intro hk (λz=>nomatch z) fin
 | str x=>obtain⟨tk,q⟩:=(ru);cases q;cases e;exact IQ PySem.W.kitx_str I.kIn True.intro hk (λz=>nomatch z) fin
 | tup h r=>cases e;exact tupT h.sq ru rfl
 | lst h r=>cases e;exact lstT h.sq ru rfl
 | scr h r=>cases e;exact lstT h.sq ru rfl
 | ref h=>
  rename_i n b;simp only[tyD]at e;cases q1:S[n]? with
  | none=>rw[q1]at e;cases e
  | some o=>
   rw[q1]at e;cases o with
   | lst ds=>
    cases e;obtain⟨xs,h1,h2⟩:=rp.ats n _ b q1 h;exact lstT (.inl (.inl h1)) ru rfl
   | dct kvs=>
    cases e;obtain⟨ks,h1,h2⟩:=rp.ats n _ b q1 h;cases (ru);obtain⟨_,_,vs,_,pp⟩:=(I.hok b _ h1);obtain⟨o,es,ep,g1,g2,_⟩:=pp;exact IQ PySem.W.kitx_dict I.kIn ⟨o,g1,g2.1⟩ hk (λz=>nomatch z) fin
   | exc _ _=>cases e
   | dcT _=>cases e
theorem jE{T:String}{sx:Nat->Bool}(hT:T∈tys\/T = "ValueError") (hk:∀c,XC X.K (cl c)->PySem.W.kitOne X.K (.ref (cl c)) (.type T)=some (sx c)) (h:PE X a (tD X.K cl xe f)) (hg:Gl X "isinstance") (hm:X.mg "isinstance" = none) (hg2:Gl X x) (hm2:X.mg x=none) (hv:bootBuiltins x=some (.type T)) (hn:x ≠ "__name__") (hd:(x==("__debug__" : Str))=false) (hs:noStar a=true) :
  PE X (.Call (.Name "isinstance" p) [a,.Name x q] [] pos) (tD X.K cl xe λρ=>bind (f ρ) λd=>if T∈tys then T0 T sx d else lA sx d):=by
 have key:p0 X (.builtin "isinstance") (λvs H Q=>∃μ S d v,vs=[v,.ty T]/\RD X.K μ H d v/\Rep X.K cl μ S H/\Post X.K cl xe μ H ((if T∈tys then T0 T sx d else lA sx d) S) λr _ μ' H'=>∀v,RD X.K μ' H' r v->Q v H'):=by
  intro pins s σ H xs us Q I r ⟨μ,S,d,v,ev,rd,rp,P⟩;subst ev;have ex:∀{n:Nat} {b:Addr} {c:Nat} {fs:List (Str×D)},v=.ref b->S[n]?=some (.exc c fs)->μ.pl[n]?=some b->Q (.bl (sx c)) H->wpAny (model X.prog X.w) X.A (call (.builtin "isinstance") us) (EP X pins σ Q) X.xe s:=λ{n b c fs} ev e h q=>by
   subst ev;exact vV rfl hk I r rp e h q
  by_cases ht:T∈tys
  ·rw[if_pos ht]at P;unfold T0 at P;cases e:tyD S d with
   | some t=>rw[e]at P;exact kl ht I r rd rp e (P μ H (Lat.refl _ _) rp _ (.bl _))
   | none=>
    rw[e]at P;cases rd with
    | ref h=>
     rename_i n b;simp only at P;cases q1:S[n]? with
     | none=>rw[q1]at P;exact P.elim
     | some o=>
      rw[q1]at P;cases o with
      | dcT _=>exact P.elim
      | exc c fs=>exact ex rfl q1 h (P μ H (Lat.refl _ _) rp _ (.bl _))
      | lst _=>exact P.elim
      | dct _=>exact P.elim
    | _=>exact False.elim P
  ·rw[if_neg ht]at P;unfold lA at P;cases rd with
   | ref h=>
    rename_i n b;simp only at P;cases q1:S[n]? with
    | none=>rw[q1]at P;exact P.elim
    | some o=>
     rw[q1]at P;cases o with
     | dcT _=>exact P.elim
     | exc c fs=>exact ex rfl q1 h (P μ H (Lat.refl _ _) rp _ (.bl _))
     | lst _=>exact P.elim
     | dct _=>exact P.elim
   | _=>exact False.elim P
 have hb:PE X (.Name x q) (tC (.ty T)):=tK hg2 hm2 hv rfl hn hd;refine PE.imp (dy key hg hm (by rfl) (y0 h (y0 hb ax (h9 rfl)) (h9 hs)) (by decide) (by decide) (h9 hs) (m9 rfl)) λσ H Q ⟨μ,S,ρ,eo,rp,P⟩=>?_;exact⟨μ,S,ρ,eo,rp,P.bind.imp λd S1 μ1 H1 l1 r1 p1 v rv=>⟨μ1,S1,d,v,rfl,rv,r1,p1⟩⟩
end
theorem ay(bs:List Bool):(List.range bs.length).map (λi=>bs.getD i false)=bs:=by
 apply List.ext_getElem
 ·simp
 ·intro i h1 h2;simp at h1;simp[h1]
theorem lB(a:List Bool):(List.range a.length).any (λi=>a.getD i false)=a.any id:=by
 conv=>rhs;rw[<- ay a,Ly]
 rfl
theorem mH(a:List Bool):(List.range a.length).all (λi=>a.getD i false)=a.all id:=by
 conv=>rhs;rw[<- ay a,KH]
 rfl
section
variable {X:Cx}
theorem W4{c:List Bool}{d:List Value}(r:Vals (c.map V.bl) d):TruthOf X.prog X.w A (λi v=>d.toArray[i]?=some v) (λi=>c.getD i false):=by
 intro i v s Q E e h;rw[List.getElem?_toArray]at e;have g:i<c.length:=by
  have a:=r.length;rw[Hc]at a;have b:=(Hb.mp e).1;omega
 obtain⟨u,f,j⟩:=Vals.get r (by rw[HK,Hi g];rfl);rw[e]at f;cases f;cases j;have:c.getD i false=c[i]:=by simp[g]
 exact KQ (this▸h)
theorem dz(g:X.calm=true):p0 X (.builtin "any") (λxs H Q=>∃(p:Addr) (a:List Bool),xs=[.ref p]/\SqL X.K H p (a.map V.bl)/\Q (.bl (a.any id)) H):=by
 intro pins s σ H xs us Q I r h;obtain⟨p,a,rfl,w,q⟩:=h;obtain⟨u,rfl,l⟩:=aM r;cases l;obtain⟨c,d,pl,hz⟩:=I.list w;have t:=I.ok.hd g;have m:p<s.heap.objs.size:=by
  obtain⟨o,v,_⟩:=pl.isList;exact Hk v
 have j:c.length=a.length:=by rw[<- d.length,Hc]
 refine call_any_walk (KU pl.isList ⟨s.heap.objs.size,[s.heap.objs.size,p],[s.heap.objs.size],c.toArray.size,_,_,λi=>a.getD i false,rfl,Walks.list (A:=X.A.in1) (t) _ _ (Hq m) c.toArray,⟨?_,?_⟩,W4 d,λh' x k=>?_⟩)
 ·exact⟨_,Hr _ rfl,rfl,rfl⟩
 ·exact pl.isList.push _
 ·have e:(List.range c.toArray.size).any (λi=>a.getD i false)=a.any id:=by
   rw[Hg,j];exact lB a
  rw[e];refine⟨.bl (a.any id),H,I.kept λb o f=>?_,rfl,q⟩;have n:=Hk f;exact k b o (by simp;exact Hq n) (Ha _ f)
theorem fm(g:X.calm=true):p0 X (.builtin "all") (λxs H Q=>∃(p:Addr) (a:List Bool),xs=[.ref p]/\SqL X.K H p (a.map V.bl)/\Q (.bl (a.all id)) H):=by
 intro pins s σ H xs us Q I r h;obtain⟨p,a,rfl,w,q⟩:=h;obtain⟨u,rfl,l⟩:=aM r;cases l;obtain⟨c,d,pl,hz⟩:=I.list w;have t:=I.ok.hd g;have m:p<s.heap.objs.size:=by
  obtain⟨o,v,_⟩:=pl.isList;exact Hk v
 have j:c.length=a.length:=by rw[<- d.length,Hc]
 refine call_all_walk (KU pl.isList ⟨s.heap.objs.size,[s.heap.objs.size,p],[s.heap.objs.size],c.toArray.size,_,_,λi=>a.getD i false,rfl,Walks.list (A:=X.A.in1) (t) _ _ (Hq m) c.toArray,⟨?_,?_⟩,W4 d,λh' x k=>?_⟩)
 ·exact⟨_,Hr _ rfl,rfl,rfl⟩
 ·exact pl.isList.push _
 ·have e:(List.range c.toArray.size).all (λi=>a.getD i false)=a.all id:=by
   rw[Hg,j];exact mH a
  rw[e];refine⟨.bl (a.all id),H,I.kept λb o f=>?_,rfl,q⟩;have n:=Hk f;exact k b o (by simp;exact Hq n) (Ha _ f)
variable {cl:ClW}{xe:Addr->Hp->Prop}
def G7:List D->Option (List Bool)
 | []=>some []
 | .bl b::ds=>(G7 ds).map (b::·)
 | _=>none
theorem iR{K:PySem.W.Frag}{μ:Mp}{H:Hp}:∀{ds:List D}{vs:List V}{a:List Bool},G7 ds=some a->RDs K μ H ds vs->vs=a.map V.bl
 | [],_,a,e,r=>by cases r;cases e;rfl
 | d::ds,_,a,e,r=>by
  cases r with
  | cons h t=>
   cases d <;> try (simp[G7]at e;done)
   case bl b=>
    simp only[G7]at e;cases c:G7 ds with
    | none=>rw[c]at e;cases e
    | some f=>
     rw[c]at e;cases e;cases h;rw[iR c t];rfl
def uI(d:D):M D:=bind (lstOf d) λds=>match G7 ds with
 | some a=>ret (.bl (a.any id))
 | none=>bad
def oW(d:D):M D:=bind (lstOf d) λds=>match G7 ds with
 | some a=>ret (.bl (a.all id))
 | none=>bad
theorem ET(c:X.calm=true):p0 X (.builtin "any") (rPs X.K cl xe (one uI)):=dj λpins s σ H μ S d v us Q I r j b p=>by
 obtain⟨a,xs,ds,rfl,f,g,i⟩:=k7 j b p.bind;have p:=p.ok_bind i;cases e:G7 ds with
 | none=>rw[e]at p;exact p.elim
 | some h=>
  rw[e]at p;have:=iR e g;subst this;exact dz c pins s σ H _ us Q I r ⟨a,h,rfl,.inl (.inl f),p μ H (Lat.refl _ _) b _ (.bl _)⟩
theorem Ch(c:X.calm=true):p0 X (.builtin "all") (rPs X.K cl xe (one oW)):=dj λpins s σ H μ S d v us Q I r j b p=>by
 obtain⟨a,xs,ds,rfl,f,g,i⟩:=k7 j b p.bind;have p:=p.ok_bind i;cases e:G7 ds with
 | none=>rw[e]at p;exact p.elim
 | some h=>
  rw[e]at p;have:=iR e g;subst this;exact fm c pins s σ H _ us Q I r ⟨a,h,rfl,.inl (.inl f),p μ H (Lat.refl _ _) b _ (.bl _)⟩
def B5:List D->Option (List Int)
 | []=>some []
 | .int i::ds=>(B5 ds).map (i::·)
 | _=>none
theorem jP{K:PySem.W.Frag}{μ:Mp}{H:Hp}:∀{ds:List D}{vs:List V}{ns:List Int},B5 ds=some ns->RDs K μ H ds vs->vs=ns.map V.int
 | [],_,ns,e,r=>by cases r;cases e;rfl
 | d::ds,_,ns,e,r=>by
  cases r with
  | cons h t=>
   cases d <;> try (simp[B5]at e;done)
   case int i=>
    simp only[B5]at e;cases a:B5 ds with
    | none=>rw[a]at e;cases e
    | some b=>
     rw[a]at e;cases e;cases h;rw[jP a t];rfl
def ar:List Int->Option Int
 | []=>none
 | n::ns=>some (match ar ns with
  | none=>n
  | some m=>if n<m then m else n)
theorem tN:∀{ns:List Int}{M:Int},M∈ns->(∀a∈ns,a<=M)->ar ns=some M
 | [],_,h,_=>by cases h
 | [n],M,h,_=>by simp at h;subst h;rfl
 | n::k::ns,M,h,q=>by
  obtain⟨t,e⟩:∃t,ar (k::ns)=some t:=⟨_,rfl⟩;have he:ar (n::k::ns)=some (if n<t then t else n):=by rw[ar,e]
  rw[he];have top:∀{l:List Int}{t:Int},ar l=some t->t∈l/\∀a∈l,a<=t:=by
   intro l;induction l with
   | nil=>intro t e;cases e
   | cons x l ih=>
    intro t e;cases h2:ar l with
    | none=>
     cases l with
     | nil=>simp only[ar]at e;cases e;exact⟨Hf ..,λa ha=>by simp at ha;omega⟩
     | cons y l=>simp[ar]at h2
    | some m=>
     obtain⟨m1,m2⟩:=ih h2;simp only[ar,h2]at e;cases e;by_cases hx:x<m
     ·rw[if_pos hx];exact⟨Hh _ m1,λa ha=>by
       rcases Ho.mp ha with z | z
       ·omega
       ·exact m2 a z⟩
     ·rw[if_neg hx];exact⟨Hf ..,λa ha=>by
       rcases Ho.mp ha with z | z
       ·omega
       ·have:=m2 a z;omega⟩
  obtain⟨t1,t2⟩:=top e;congr 1;by_cases hx:n<t
  ·rw[if_pos hx];have a1:=q t (Hh _ t1);rcases Ho.mp h with z | z
   ·omega
   ·have:=t2 M z;omega
  ·rw[if_neg hx];have a1:=q n (Hf ..);rcases Ho.mp h with z | z
   ·omega
   ·have:=t2 M z;omega
theorem D1:∀{ns:List Int}{us:List Value},Vals (ns.map V.int) us->∃xs:List (Int×Tok),us=xs.map (λp=>Value.int p.1 p.2)/\xs.map (·.1)=ns
 | [],_,r=>by cases r;exact⟨[],rfl,rfl⟩
 | n::ns,_,r=>by
  cases r with
  | cons h t=>
   obtain⟨k,rfl⟩:=(h);obtain⟨xs,a,b⟩:=D1 t;exact⟨(n,k)::xs,by rw[a];rfl,by rw[Ht,b]⟩
def mL(d:D):M D:=match d with
 | .int i=>ret (.int (-i))
 | _=>bad
theorem rT:UnR X (unaryOp .USub) (λx H Q=>∃μ S d,RD X.K μ H d x/\Rep X.K cl μ S H/\Post X.K cl xe μ H (mL d S) λr _ μ' H'=>∀v,RD X.K μ' H' r v->Q v H'):=by
 intro pins s σ H x v Q I rx ⟨μ,S,d,rd,rp,p⟩;cases rd with
 | int i=>exact zh pins s σ H _ v Q I rx ⟨i,rfl,p μ H (Lat.refl _ _) rp _ (.int _)⟩
 | _=>exact False.elim p
theorem zo(h:PE X a (tD X.K cl xe f)):PE X (.UnaryOp .USub a pos) (tD X.K cl xe λρ=>bind (f ρ) mL):=
 PE.imp (DX rT h) λσ H Q ⟨μ,S,ρ,c,e,p⟩=>⟨μ,S,ρ,c,e,p.bind.imp λd S1 b k l i g v j=>⟨b,S1,d,j,i,g⟩⟩
end
theorem bF:∀{xs:List V}{us:List Value},Vals xs us->Vals xs.reverse us.reverse
 | _,_,.nil=>.nil
 | _,_,.cons r t=>by
  rw[Kr,Kr];exact(bF t).append (.cons r .nil)
theorem dL{K:PySem.W.Frag}{μ:Mp}{H:Hp}:∀{ds:List D}{vs:List V},RDs K μ H ds vs->RDs K μ H ds.reverse vs.reverse
 | _,_,.nil=>.nil
 | _,_,.cons r t=>by
  rw[Kr,Kr];exact(dL t).append (.cons r .nil)
theorem fm_congr{a c:Type}{f g:a->Option c}:∀{l:List a},(∀x∈l,f x=g x)->l.filterMap f=l.filterMap g
 | [],_=>rfl
 | x::l,h=>by
  rw[Jq,Jq,h x (Hf ..),fm_congr λy b=>h y (Hh _ b)]
theorem qN(a:List Value):slicePick a.toArray none none (some (-1))=a.reverse.toArray:=by
 have f:sliceBounds none none (some (-1)) a.toArray.size=((a.length:Int)-1,-1,-1):=by
  simp[sliceBounds]
 unfold slicePick;rw[f];have g:sliceRange ((a.length:Int)-1) (-1) (-1)=(List.range a.length).map λk=>a.length-1-k:=by
  have e:(if (-1:Int) > 0 then (if (a.length:Int)-1 < -1 then (-1-((a.length:Int)-1) + -1-1) / -1 else 0)else (if (a.length:Int)-1 > -1 then ((a.length:Int)-1 - -1 - -1-1) / (- -1)else 0)).toNat=a.length:=by
   rw[if_neg (by decide)];by_cases h:(a.length:Int)-1 > -1
   ·rw[if_pos h];simp
   ·rw[if_neg h];omega
  show(List.range (if (-1:Int) > 0 then (if (a.length:Int)-1 < -1 then (-1-((a.length:Int)-1) + -1-1) / -1 else 0)else (if (a.length:Int)-1 > -1 then ((a.length:Int)-1 - -1 - -1-1) / (- -1)else 0)).toNat).map (λ(k:Nat)=>((a.length:Int)-1 + -1 * (k:Int)).toNat)=_;rw[e];apply List.map_congr_left;intro k b;omega
 simp only[g];congr 1;rw[Kb];have c:(List.range a.length).filterMap ((λx=>a.toArray[x]?) ∘ λk=>a.length-1-k)=(List.range a.length).filterMap (λk=>a.reverse.toArray[0+k]?):=by
  apply fm_congr;intro k b;have b:=Ij.mp b;simp;rw[List.getElem?_reverse b]
 rw[c];have:=pick_run a.reverse.toArray 0 a.length;rw[Kb]at this;have d:((λx=>a.reverse.toArray[x]?) ∘ λx=>0+x)=λm=>a.reverse.toArray[0+m]?:=rfl;rw[d]at this;rw[this];simp;rw[IV (by simp)]
end L3
namespace HT
open PySem PySem.Spec PyProof.Rows
section
variable {prog:Program}{w:World}{A:Around}{E:Value->Shared->Prop}{s:Shared}
theorem W0{n:Nat}{Q:Int×Int×Nat->Shared->Prop}(hs:s.heap.IsSliceOf sl .none .none (.int (-1) t))
  (h:Q ((n:Int)-1,-1,n) s):wpAny (model prog w) A (Builtin.Slice.sliceApplied (.ref sl) (pure (n:Int))) Q E s:=by
 obtain⟨d,a,c,hds⟩:=id hs;refine Gx (Gx (Iw a hds rfl (Gx (Iw a hds rfl (Gx (Iw a hds rfl (Gy ?_)))))));refine Gx (slicePart_int ?_);rw[if_neg (by decide)];refine Gx (KJ (Gx (KJ (Gx (Gy ?_)))));show wpAny _ _ (pure ((n:Int)-1,(-1:Int),Builtin.Slice.slicePlaces ((n:Int)-1) (-1) (-1))) _ _ s;have e:Builtin.Slice.slicePlaces ((n:Int)-1) (-1) (-1)=n:=by
  unfold Builtin.Slice.slicePlaces;rw[if_neg (by decide)];by_cases b:(n:Int)-1 > -1
  ·rw[if_pos b];simp
  ·rw[if_neg b];omega
 rw[e];exact Gy h
theorem kh(xs:List Value):((List.range xs.length).filterMap λ(m:Nat)=>xs.toArray[((xs.length:Int)-1+(m:Int) * -1).toNat]?).toArray=xs.reverse.toArray:=by
 congr 1;have c:(List.range xs.length).filterMap (λ(m:Nat)=>xs.toArray[((xs.length:Int)-1+(m:Int) * -1).toNat]?)=(List.range xs.length).filterMap (λk=>xs.reverse.toArray[0+k]?):=by
  apply L3.fm_congr;intro k a;have a:=Ij.mp a;have e:((xs.length:Int)-1+(k:Int) * -1).toNat=xs.length-1-k:=by omega
  rw[e];simp;rw[List.getElem?_reverse a]
 rw[c];have:=pick_run xs.reverse.toArray 0 xs.length;rw[Kb]at this;have b:((λx=>xs.reverse.toArray[x]?) ∘ λx=>0+x)=λm=>xs.reverse.toArray[0+m]?:=rfl;rw[b]at this;rw[this];simp;rw[IV (by simp)]
theorem getItem_tuple_rev{a:List Value}{i:Tok}{Q:Value->Shared->Prop}(c:IsTup s.heap t a.toArray)(hs:s.heap.IsSliceOf sl .none .none (.int (-1) i))
  (h:Q (.ref s.heap.objs.size) { s with heap:=s.heap.push { cls:=.type "tuple",data:=.seq a.reverse.toArray } })
  (hsz:a.length<=sizeLine):wpAny (model prog w) A (getItem (.ref t) (.ref sl)) Q E s:=by
 have b:sizeOk (.seq a.reverse.toArray):=by
  show a.reverse.toArray.size<=sizeLine;rw[Hg,JS];exact hsz
 obtain⟨j,g,d,hds⟩:=id hs;have e:s.TypeIs (.ref sl) "slice":=⟨j,g,d⟩;unfold getItem;try with_reducible refine HX ?_
 first | refine Gx (Gy ?_) | skip
 refine Gx (KR c.typeIs (by decide) ?_);refine Gx (Iq c.typeIs Ie
  (ID Ie c.typeIs KE ?_ (KL _ _)))
 show wpAny _ _ (Builtin.Tuple.tupleItemsOf (.ref t) >>= _) _ _ s;refine Gx (KZ c ?_);refine Gx (KF e ?_);rw[if_pos (by decide)];refine Gx (W0 (n:=a.length) hs ?_);have f:¬ ((((a.length:Int)-1)==0&&(-1:Int)==1&&a.length==a.toArray.size)=true):=by
  intro q;rw[Gz,Gz]at q;exact absurd q.1.2 (by decide)
 show wpAny _ _ (if (((a.length:Int)-1)==0&&(-1:Int)==1&&a.length==a.toArray.size)=true then _ else _) _ _ s;rw[if_neg f,kh];first
  | exact Gx (HF (Gy ⟨_,rfl,Gy h⟩) b)
  | exact Gx (HF (Gx (Gy (Gy ⟨_,rfl,Gy h⟩))) b)
  | exact Gx (Gx (HF (Gy (Gy ⟨_,rfl,Gy h⟩)) b))
  | exact Gx (Gx (HF (Gy ⟨_,rfl,Gy h⟩) b))
end
end HT
namespace L3
open PySem PySem.Spec PyProof.Rows L2
section
variable {X:Cx}{e st:Expr}{te ts:TE}{pos p2:Pos}{cl:ClW}{xe:Addr->Hp->Prop}
def Dw(K:PySem.W.Frag)(te d:TE):TE:=λσ H Q=>te σ H λx c=>d σ c λy b=>y=.int (-1)/\∃a xs,x=.ref a/\((SqL K b a xs/\∀p,b p=none->Q (.ref p) (upd b p (.lst xs.reverse)))\/(SqT K b a xs/\∀p,b p=none->Q (.ref p) (upd b p (.tup xs.reverse))))
theorem vK(p:PE X e te)(hs:PE X st ts):PE X (.Subscript e (.Slice none none (some st) p2) pos) (Dw X.K te ts):=by
 intro pins s σ H Q I h;refine Subscript_ (thn (p pins s σ H _ I h) λv l ⟨x,z,w,A,C⟩=>?_);refine wpAny_Slice ?_;rw[LO];refine Gy (Gy ?_);rw[evalPart_some];refine thn (hs pins l σ z _ w C) λu d ⟨y,B,n,m,o,a,xs,D,i⟩=>?_;subst o D;obtain⟨t,rfl⟩:=m;cases A;have f:Inv X pins σ B { d with heap:=d.heap.push { cls:=.type "slice",data:=.fields #[.none,.none,.int (-1) t] } }:=n.kept λb ob q=>Ha _ q;rcases i with ⟨i,q⟩ | ⟨i,q⟩
 ·obtain⟨j,r,g,hz⟩:=f.list i;have c:=r.length;have k:wpAny (model X.prog X.w) X.A (getItem (.ref a) (.ref d.heap.objs.size)) (EP X pins σ Q) X.xe { d with heap:=d.heap.push { cls:=.type "slice",data:=.fields #[.none,.none,.int (-1) t] } }:=by
   refine La g.isList (KM ..) .none .none (.int (-1) t) (by simp) ?_ (by rw[Hg] <;> omega);rw[qN];refine⟨.ref _,_,f.laid (λb ob q=>Ha _ q) (Hd _) ?_,rfl,q _ (f.hok.fresh (Hd _))⟩;exact⟨by rw[JS];exact hz,_,0,bF r,Hr _ rfl⟩
  exact tail_any g.isList.typeIs slot_list_getitem.lookup k (by with_unfolding_all rfl)
 ·obtain⟨j,r,g,hz⟩:=f.tuple i;have c:=r.length;have k:wpAny (model X.prog X.w) X.A (getItem (.ref a) (.ref d.heap.objs.size)) (EP X pins σ Q) X.xe { d with heap:=d.heap.push { cls:=.type "slice",data:=.fields #[.none,.none,.int (-1) t] } }:=by
   refine HT.getItem_tuple_rev g (KM ..) ?_ (by rw[<- c];exact hz);refine⟨.ref _,_,f.laid (λb ob q=>Ha _ q) (Hd _) ?_,rfl,q _ (f.hok.fresh (Hd _))⟩;exact⟨by rw[JS];exact hz,_,bF r,TupN.new _ _⟩
  exact tail_any g.typeIs PyProof.Rows.slot_tuple_getitem.lookup k (by with_unfolding_all rfl)
def pq(d s:D):M D:=match s with
 | .int (-1)=>(match d with
  | .tup ds=>ret (.tup ds.reverse)
  | d=>bind (lstOf d) λds=>ret (.lst ds.reverse))
 | _=>bad
theorem yh(he:PE X e (tD X.K cl xe f))(hs:PE X st (tD X.K cl xe g)):PE X (.Subscript e (.Slice none none (some st) p2) pos) (tD X.K cl xe λρ=>bind (f ρ) λx=>bind (g ρ) λy=>pq x y):=
 PE.imp (vK he hs) λσ H Q ⟨μ,S,ρ,eo,rp,p⟩=>⟨μ,S,ρ,eo,rp,p.bind.imp λx S1 μ1 H1 l1 r1 p1 v rv=>⟨μ1,S1,ρ,eo.later l1,r1,p1.bind.imp λy S2 μ2 H2 l2 r2 p2 u ru=>by
  unfold pq at p2;split at p2
  ·cases ru;refine⟨rfl,?_⟩;have L:Post X.K cl xe μ2 H2 (bind (lstOf x) (λds=>ret (.lst ds.reverse)) S2) (λd _ μ' H'=>∀v,RD X.K μ' H' d v->Q v H')->∃a xs,v=.ref a/\((SqL X.K H2 a xs/\∀p,H2 p=none->Q (.ref p) (upd H2 p (.lst xs.reverse)))\/(SqT X.K H2 a xs/\∀p,H2 p=none->Q (.ref p) (upd H2 p (.tup xs.reverse)))):=λp2=>by
    obtain⟨a,xs,ds,rfl,h1,h2,e2⟩:=k7 (rv.later l2) r2 p2.bind;refine⟨a,xs,rfl,.inl ⟨.inl (.inl h1),λz hz=>?_⟩⟩;obtain⟨l,rp2,rd2⟩:=L5 r2 (dL h2) hz;exact(p2.ok_bind e2) μ2 _ l rp2 _ rd2
   cases rv.later l2 with
   | tup h1 h2=>
    rename_i a xs ds;refine⟨a,xs,rfl,.inr ⟨h1.sq,λz hz=>?_⟩⟩;obtain⟨l,rp2,rd2⟩:=E1 r2 (dL h2) hz;exact p2 μ2 _ l rp2 _ rd2
   | _=>exact L p2
  ·exact p2.elim⟩⟩
end
section
variable {X:Cx}{cl:ClW}{xe:Addr->Hp->Prop}{o e:Expr}{es:List Expr}{f:Env->M D}{fs:Env->M (List D)}{apos cpos:Pos}{name:Str}{T T2 id id2:String}{r r2:V->List V->Hp->VK->Prop}{α:Type}
def Looks(K:PySem.W.Frag)(cl:ClW)(xe:Addr->Hp->Prop)(T:String)(g:D->M α):Prop:=∀(μ:Mp)(S:Sto)(H:Hp)(x:D)(v:V)(G:α->Sto->Mp->Hp->Prop),RD K μ H x v->Rep K cl μ S H->Post K cl xe μ H (g x S) G->tyV K T v H/\∃a,g x S=.ok a S
def zg(K:PySem.W.Frag)(cl:ClW)(xe:Addr->Hp->Prop)(r:V->List V->Hp->VK->Prop)(op:D->List D->M D):Prop:=∀(μ:Mp)(S:Sto)(H:Hp)(x:D)(v:V)(ds:List D)(vs:List V)(Q:VK),RD K μ H x v->RDs K μ H ds vs->Rep K cl μ S H->Post K cl xe μ H (op x ds S) (λd _ μ' H'=>∀w,RD K μ' H' d w->Q w H')->r v vs H Q
theorem kX(B:PlainAttrs T)(c:Slot T name id)(i:typeOf (.builtin id)=pure (.type "method_descriptor")) (s:MtR X id r) (t:Looks X.K cl xe T g) (hd:zg X.K cl xe r op) (F:PE X o (tD X.K cl xe f)) (v:PA X (e::es) (tDs X.K cl xe fs))
  (G:u3 o=true) (hs:(e::es).all noStar=true) (C:B0 (e::es)=true) (E:(apos.endLine==cpos.line)=true) :
  PE X (.Call (.Attribute o name apos) (e::es) [] cpos) (tD X.K cl xe λρ=>bind (f ρ) λx=>bind (g x) λ_=>bind (fs ρ) λds=>op x ds):=by
 have b:=hs;rw[Ib,Gz]at b;refine PE.imp (yE B c i s F v (D8 G) (gh hs C) E (h9 b.1) (m9 b.2)) λσ H Q ⟨μ,S,ρ,l,w,p⟩=>?_;refine⟨μ,S,ρ,l,w,p.bind.imp λx S1 d J u m h n k=>?_⟩;obtain⟨I,a,D⟩:=t d S1 J x n _ k m h.bind;have h:=h.ok_bind D;exact⟨I,d,S1,ρ,l.later u,m,h.bind.imp λds S2 μ2 A q y z vs j=>hd μ2 S2 A x n ds vs Q (k.later q) j y z⟩
theorem aV:Looks X.K cl xe "list" lstOf:=λμ S H x v G b c p=>by
 obtain⟨a,xs,ds,rfl,d,f,e⟩:=k7 b c p;exact⟨.inl ⟨rfl,_,.inl (.inl d)⟩,ds,e⟩
theorem qT(f:X.A.units+1<cLine):MtR X "dict.get" (λx vs H Q=>∃a y z c,x=.ref a/\(vs=[y,z]\/(vs=[y]/\z=.non))/\DGet H a y c/\Q (c.getD z) H):=by
 intro pins s σ H x vs v us Q I k i h;obtain⟨a,y,z,c,rfl,l,g,q⟩:=h;cases k;rcases l with rfl | ⟨rfl,rfl⟩
 ·obtain⟨m,n,rfl,e,j⟩:=eT i;exact yQ f I g e j λw' s' d b=>⟨_,H,d,b,q⟩
 ·cases i with
  | cons e t=>
   cases t;exact BW f I g e λw' s' d b=>⟨_,H,d,b,q⟩
def getDD(x:D)(ds:List D):M D:=match x,ds with
 | .ref n,[k,z]=>λS=>match S[n]? with
  | some (.dct a)=>(match A6 k with
   | some b=>.ok ((X7 a b).getD z) S
   | none=>.bad)
  | _=>.bad
 | .ref n,[k]=>λS=>match S[n]? with
  | some (.dct a)=>(match A6 k with
   | some b=>.ok ((X7 a b).getD .non) S
   | none=>.bad)
  | _=>.bad
 | _,_=>bad
def dctOf(x:D):M Unit:=match x with
 | .ref n=>λS=>match S[n]? with
  | some (.dct _)=>.ok () S
  | _=>.bad
 | _=>bad
theorem ai{K:PySem.W.Frag}{μ:Mp}{H:Hp}{k:Key}:∀{a:List (Key×D)} {c:List (Key×V)},KvsAt K μ H a c->X7 a k=none->M2 c k=none
 | _,_,.nil,_=>rfl
 | p::r,q::f,.cons ⟨d,g⟩ t,e=>by
  unfold X7 at e;unfold M2;rw[Ik]at e ⊢;rw[<- d];cases b:decide (p.1=k) with
  | true=>rw[b]at e;cases e
  | false=>
   rw[b]at e;exact ai t e
theorem iO:Looks X.K cl xe "dict" dctOf:=λμ S H x v G rx rp p=>by
 unfold dctOf at p;cases x with
 | ref n=>
  cases rx with
  | ref e=>
   rename_i a;dsimp only at p;cases q1:S[n]? with
   | none=>rw[q1]at p;exact p.elim
   | some o=>
    rw[q1]at p;cases o with
    | dct kvs=>
     obtain⟨ks,h1,_⟩:=rp.ats n _ a q1 e;exact⟨.inr (.inr (.inl ⟨rfl,.inl ⟨_,h1⟩⟩)),(),by simp only[dctOf,q1]⟩
    | lst _=>exact p.elim
    | exc _ _=>exact p.elim
    | dcT _=>exact p.elim
 | _=>exact p.elim
theorem oP:zg X.K cl xe (λx vs H Q=>∃a y z ov,x=.ref a/\(vs=[y,z]\/(vs=[y]/\z=.non))/\DGet H a y ov/\Q (ov.getD z) H) getDD:=λμ S H x v ds vs Q rx rvs rp p=>by
 unfold getDD at p;split at p
 ·rename_i n k z;cases rvs with
  | cons hk t=>
   cases t with
   | cons hz t2=>
    cases t2;rename_i kv zv;cases rx with
    | ref e=>
     rename_i a;cases q1:S[n]? with
     | none=>rw[q1]at p;exact p.elim
     | some o=>
      rw[q1]at p;cases o with
      | dct kvs=>
       obtain⟨ks,h1,h2⟩:=rp.ats n _ a q1 e;cases q2:A6 k with
       | none=>rw[q2]at p;exact p.elim
       | some key=>
        rw[q2]at p;dsimp only at p;have hy:=F9 hk q2;subst hy;refine⟨a,_,zv,M2 ks key,rfl,.inl rfl,DGet.k h1,?_⟩;cases q3:X7 kvs key with
        | some d=>
         obtain⟨w,e3,r3⟩:=Y5 h2 q3;rw[q3]at p;rw[e3];exact p μ H (Lat.refl _ _) rp _ r3
        | none=>
         rw[q3]at p;rw[ai h2 q3];exact p μ H (Lat.refl _ _) rp _ hz
      | lst _=>exact p.elim
      | exc _ _=>exact p.elim
      | dcT _=>exact p.elim
 ·rename_i n k;cases rvs with
  | cons hk t=>
   cases t;rename_i kv;cases rx with
   | ref e=>
    rename_i a;cases q1:S[n]? with
    | none=>rw[q1]at p;exact p.elim
    | some o=>
     rw[q1]at p;cases o with
     | dct kvs=>
      obtain⟨ks,h1,h2⟩:=rp.ats n _ a q1 e;cases q2:A6 k with
      | none=>rw[q2]at p;exact p.elim
      | some key=>
       rw[q2]at p;dsimp only at p;have hy:=F9 hk q2;subst hy;refine⟨a,_,.non,M2 ks key,rfl,.inr ⟨rfl,rfl⟩,DGet.k h1,?_⟩;cases q3:X7 kvs key with
       | some d=>
        obtain⟨w,e3,r3⟩:=Y5 h2 q3;rw[q3]at p;rw[e3];exact p μ H (Lat.refl _ _) rp _ r3
       | none=>
        rw[q3]at p;rw[ai h2 q3];exact p μ H (Lat.refl _ _) rp _ .non
     | lst _=>exact p.elim
     | exc _ _=>exact p.elim
     | dcT _=>exact p.elim
 ·exact p.elim
end
section
variable {X:Cx}{cl:ClW}{xe:Addr->Hp->Prop}{o e:Expr}{es:List Expr}{f:Env->M D}{p p2 pos pos2:Pos}{te:TE}
def rgL(n:Nat):List Int:=(List.range n).map λ(k:Nat)=>(k:Int)
theorem uJ{n:Nat}(a:acc.length=n)(h:∀(i:Nat)(v:Value),acc[i]?=some v->∃t,v=Value.int (i:Int) t):Vals ((rgL n).map V.int) acc:=by
 have d:∀(k:Nat)(l:List Value)(b:Nat),l.length=k->(∀(i:Nat)(v:Value),l[i]?=some v->∃t,v=Value.int ((b+i:Nat):Int) t)->Vals ((List.range' b k).map λ(j:Nat)=>V.int (j:Int)) l:=by
  intro k;induction k with
  | zero=>intro l b a _;cases l with
   | nil=>exact .nil
   | cons _ _=>simp at a
  | succ k f=>
   intro l b a c;cases l with
   | nil=>simp at a
   | cons v l=>
    rw[List.range'_succ,Ht];refine .cons ?_ (f l (b+1) (by simpa using a) λi w g=>?_)
    ·obtain⟨t,e⟩:=c 0 v rfl;exact⟨t,by rw[e];simp⟩
    ·obtain⟨t,e⟩:=c (i+1) w (by simpa using g);exact⟨t,by rw[e];congr 2;omega⟩
 have:=d n acc 0 a λi v c=>by
  obtain⟨t,e⟩:=h i v c;exact⟨t,by rw[e];simp⟩
 unfold rgL;rw[Jm,List.range_eq_range'];exact this
def sv(te:TE):TE:=λσ H Q=>te σ H λx a=>∃n:Nat,x=.int (n:Int)/\n<100000/\∀q,a q=none->Q (.ref q) (upd a q (.lst ((rgL n).map V.int)))
theorem mR(hc:X.calm=true)(hl:Gl X "list") (ml:X.mg "list" = none) (hr:Gl X "range") (mr:X.mg "range" = none) (he:PE X e te) (hn:noStar e=true):PE X (.Call (.Name "list" p) [.Call (.Name "range" p2) [e] [] pos2] [] pos) (sv te):=by
 intro pins s σ H Q I h;have hh:=I.ok.hd hc;refine Ii (B7 I hl ml (by rfl) ?_ (by decide) (by decide));refine Io ?_ rfl rfl;refine Jc ?_;refine Ii (B7 I hr mr boot_range ?_ (by decide) (by decide));refine Io ?_ (h9 hn) rfl;rw[h9 hn];refine Jc (thn (he pins s σ H _ I h) λu s1 ⟨x,H1,I1,r1,n,e1,hz,q⟩=>?_);subst e1;obtain⟨t,rfl⟩:=r1;refine Jk (call_range_1 (Jk ?_));have rs:Builtin.Range.rangeSize 0 (n:Int) 1=(n:Int):=by rw[rangeSize_one];split <;> omega
 refine call_list_range hh (IsRange.new ..) (small_one (by omega) (by omega) (by omega) (by omega)) rs (by omega) λh' tk acc c hk hS hacc=>?_;have I2:=I1.kept (t':=s1.toks+1+1) (h':=s1.heap.push { cls:=.type "range",data:=.fields #[.int 0 s1.toks,.int (n:Int) t,.int 1 (s1.toks+1)] }) λb ob q=>Ha _ q;refine⟨.ref _,_,Inv.laid I2 hk (Hd _) ?_,rfl,q _ (I2.hok.fresh (Hd _))⟩;refine⟨by rw[Hc];show(rgL n).length<=_;unfold rgL;rw[Hc,Ks,HB];omega,acc.toList,c,uJ (by rw[JP];exact hacc.1) (λi v hv=>?_),?_⟩
 ·obtain⟨t',e⟩:=hacc.2 i v (by rw[<- Kt];exact hv);exact⟨t',by rw[e];simp⟩
 ·rw[Array.toArray_toList];exact hS
def M0(d:D):M D:=match d with
 | .int i=>if 0<=i/\i<100000 then ret (.lst ((rgL i.toNat).map D.int))else bad
 | _=>bad
theorem lH(hc:X.calm=true)(hl:Gl X "list") (ml:X.mg "list" = none) (hr:Gl X "range") (mr:X.mg "range" = none) (he:PE X e (tD X.K cl xe f)) (hn:noStar e=true):PE X (.Call (.Name "list" p) [.Call (.Name "range" p2) [e] [] pos2] [] pos) (tD X.K cl xe λρ=>bind (f ρ) M0):=
 PE.imp (mR hc hl ml hr mr he hn) λσ H Q ⟨μ,S,ρ,eo,rp,p⟩=>⟨μ,S,ρ,eo,rp,p.bind.imp λd S1 μ1 H1 l1 r1 p1 v rv=>by
  cases rv with
  | int i=>
   obtain⟨hi,p1⟩:=Post.guard p1;refine⟨i.toNat,by rw[Int.toNat_of_nonneg hi.1],by omega,λz hz=>?_⟩;obtain⟨l,rp2,rd2⟩:=L5 r1 (RDs.ints (rgL i.toNat)) hz;exact p1 μ1 _ l rp2 _ rd2
  | _=>exact False.elim p1⟩
theorem gx:MtR X "list.extend" (λx vs H Q=>∃l b xs j,x=.ref l/\vs=[.ref b]/\H l=some (.lst xs)/\(SqL X.K H b j\/SqT X.K H b j)/\xs.length+j.length<=sizeLine/\Q .non (upd H l (.lst (xs++j)))):=by
 intro pins s σ H x vs v us Q I A C h;obtain⟨l,b,xs,j,rfl,rfl,y,m,hz,q⟩:=h;cases A;obtain⟨u,rfl,B⟩:=C.one;cases B;obtain⟨z,g,n,r,L,e⟩:=I.lstM y;have p:∀(ob:Obj)(k:Nat)(T:String)(a:List Value),(T = "list"\/T = "tuple")->s.heap.get? b=some ob->ob.cls=.type T->ob.data=.seq a.toArray k->Vals j a->wpAny (model X.prog X.w) X.A (call (.builtin "list.extend") [.ref l,.ref b]) (EP X pins σ Q) X.xe s:=λob k T a J w G E f=>by
  have hsz:g.toArray.size+a.toArray.size<=sizeLine:=by rw[Hg,Hg,<- f.length];omega
  have i:¬ (!g.toArray.isEmpty&&Builtin.List.listTooLong (g.toArray.size+a.toArray.size))=true:=by
   rw[eD hsz,Bool.and_false];exact He
  have D:s.TypeIs (.ref l) "list":=⟨_,e,rfl⟩;refine ID F.slot_list_extend D F.entry_list_extend ?_ (F.args_list_extend_2 _ _);show wpAny _ _ (Builtin.List.listExtendWith (.ref l) (.ref b) .none) _ _ s;refine Gx (KF ⟨ob,w,G⟩ ?_);rw[if_pos (by rcases J with rfl | rfl <;> simp)];refine Gx (KP w E (Gx (KP e rfl ?_)));rw[if_neg i];refine Gx (PyProof.Rows.listUpdate_at e rfl (Gy ?_) (by rw[Hg];omega) (by rw[Array.size_append];omega));refine⟨_,rfl,.non,_,I.lset y e (by simp) (r.append f) ?_,rfl,q⟩;rw[Hu];omega
 rcases m with m | m
 ·obtain⟨a,f,⟨o,k,t,c,K,d⟩,_⟩:=I.list m;exact p o k "list" a (.inl rfl) t c d f
 ·obtain⟨a,f,⟨o,t,c,k,d⟩,_⟩:=I.tuple m;exact p o k "tuple" a (.inr rfl) t c d f
def extD(x:D)(ds:List D):M D:=match x,ds with
 | .ref n,[.tup ys]=>λS=>match S[n]? with
  | some (.lst es)=>if es.length+ys.length<=sizeLine then .ok .non (S.set n (.lst (es++ys)))else .bad
  | _=>.bad
 | .ref n,[.lst ys]=>λS=>match S[n]? with
  | some (.lst es)=>if es.length+ys.length<=sizeLine then .ok .non (S.set n (.lst (es++ys)))else .bad
  | _=>.bad
 | _,_=>bad
theorem qU:zg X.K cl xe (λx vs H Q=>∃l b xs zs,x=.ref l/\vs=[.ref b]/\H l=some (.lst xs)/\(SqL X.K H b zs\/SqT X.K H b zs)/\xs.length+zs.length<=sizeLine/\Q .non (upd H l (.lst (xs++zs)))) extD:=λμ S H x v ds vs Q rx rvs rp p=>by
 have gen:∀(n:Nat)(a b:Addr)(ys:List D)(zs:List V),μ.pl[n]?=some a->(SqL X.K H b zs\/SqT X.K H b zs)->RDs X.K μ H ys zs->Post X.K cl xe μ H (match S[n]? with
   | some (.lst es)=>if es.length+ys.length<=sizeLine then R.ok D.non (S.set n (.lst (es++ys)))else .bad
   | _=>.bad) (λd _ μ' H'=>∀w,RD X.K μ' H' d w->Q w H')->∃l b' xs zs',V.ref a=.ref l/\[V.ref b]=[.ref b']/\H l=some (.lst xs)/\(SqL X.K H b' zs'\/SqT X.K H b' zs')/\xs.length+zs'.length<=sizeLine/\Q .non (upd H l (.lst (xs++zs'))):=λn a b ys zs e hs hr p=>by
  cases q1:S[n]? with
  | none=>rw[q1]at p;exact p.elim
  | some o=>
   rw[q1]at p;cases o with
   | lst es=>
    obtain⟨xs,h1,h2⟩:=rp.ats n _ a q1 e;dsimp only at p;by_cases hz:es.length+ys.length<=sizeLine
    ·rw[if_pos hz]at p;have ml:=HE e;refine⟨a,b,xs,zs,rfl,rfl,h1,hs,by rw[<- h2.length,<- hr.length];exact hz,?_⟩;have la:Lat μ H μ (upd H a (.lst (xs++zs))):=Lat.wrote ml;exact p μ _ la (rp.wrote e ⟨_,b9,(h2.append hr).later la⟩) _ .non
    ·rw[if_neg hz]at p;exact p.elim
   | dct _=>exact p.elim
   | exc _ _=>exact p.elim
   | dcT _=>exact p.elim
 unfold extD at p;split at p
 ·rename_i n ys;cases rvs with
  | cons h t=>
   cases t;cases rx with
   | ref e=>
    cases h with
    | tup h1 h2=>
     rename_i a b zs;exact gen n a b ys zs e (.inr h1.sq) h2 p
 ·rename_i n ys;cases rvs with
  | cons h t=>
   cases t;cases rx with
   | ref e=>
    cases h with
    | lst h1 h2=>
     rename_i a b zs;exact gen n a b ys zs e (.inl h1.sq) h2 p
 ·exact p.elim
end
end L3
namespace HT
open PySem PySem.Spec PyProof.Rows
def ba(a:Bool):Obj:={ cls:=.type "set",dict:=none,data:=.set #[] 0 (.fresh 0 0 a) }
section
variable {K:Type}[DecidableEq K]
def metKHt(f:Nat->K):Nat->List K
 | 0=>[]
 | i+1=>if f i∈metKHt f i then metKHt f i else metKHt f i++[f i]
theorem metK_s(f:Nat->K)(i:Nat):metKHt f (i+1)=if f i∈metKHt f i then metKHt f i else metKHt f i++[f i]:=rfl
theorem metK_le(f:Nat->K):∀i,(metKHt f i).length<=i
 | 0=>Hd _
 | i+1=>by
  have:=metK_le f i;unfold metKHt;split
  ·omega
  ·rw[Hu];show _+1<=_;omega
theorem metK_mem(f:Nat->K)(k:K):∀i,k∈metKHt f i↔∃j,j<i/\f j=k
 | 0=>by simp[metKHt]
 | i+1=>by
  have ih:=metK_mem f k i;have e:k∈metKHt f (i+1)↔(k∈metKHt f i\/k=f i):=by
   rw[metK_s];split
   ·rename_i c;exact⟨.inl,λz=>z.elim id λz=>z▸c⟩
   ·rw[Hz,Hm]
  rw[e,ih];constructor
  ·rintro(⟨j,a,b⟩ | rfl)
   ·exact⟨j,by omega,b⟩
   ·exact⟨i,by omega,rfl⟩
  ·rintro⟨j,a,b⟩;rcases Nat.lt_or_ge j i with u | u
   ·exact .inl ⟨j,u,b⟩
   ·have:j=i:=by omega
    subst this;exact .inr b.symm
end
end HT
namespace L3
open PySem PySem.Spec PyProof.Rows L2
def u0:List D->Option (List Str)
 | []=>some []
 | .str x::ds=>(u0 ds).map (x::·)
 | _=>none
theorem jw{K:PySem.W.Frag}{μ:Mp}{H:Hp}:∀{es:List D}{xs:List V}{ys:List Str},u0 es=some ys->RDs K μ H es xs->xs=ys.map V.str
 | [],_,_,e,r=>by cases e;cases r;rfl
 | d::es,_,ys,e,r=>by
  cases d with
  | str x=>
   simp only[u0]at e;cases q:u0 es with
   | none=>rw[q]at e;cases e
   | some zs=>
    rw[q]at e;cases e;cases r with
    | cons h t=>cases h;rw[jw q t];rfl
  | _=>simp only[u0]at e;cases e
def CXr(P:Program)(w:World)(K:PySem.W.Frag):List PySem.Env->Hp->Shared->XK->Value->Shared->Prop:=λb H s E e s'=>
 ∃a C d c H',e=.ref a/\s'.os=s.os/\AllBare s'.gens/\Un (frs b) [] H H' s.heap s'.heap/\HOk P w H' s'.heap/\Fx K H' a C d c/\E e none H'
abbrev CXd(P:Program)(w:World)(K:PySem.W.Frag):CXT:=⟨CXr P w K,false⟩
section
variable {K:PySem.W.Frag}{cl:ClW}{xe xe':Addr->Hp->Prop}{α β:Type}{μ:Mp}{H H':Hp}{S:Sto}{a C:Addr}{d tb:Option Addr}{P:Program}{w:World}{h:Heap}
theorem Post.ximp{G:α->Sto->Mp->Hp->Prop}(p:Post K cl xe μ H r G)(k:∀n S μ' H' a,r=.exn n S->Lat μ H μ' H'->Rep K cl μ' S H'->μ'.pl[n]?=some a->xe a H'->xe' a H'):Post K cl xe' μ H r G:=by
 cases r with
 | ok a S=>exact p
 | exn n S=>exact λμ' H' a l r e=>k n S μ' H' a rfl l r e (p μ' H' a l r e)
 | bad=>exact p
def nx(m:M α):M α:=λS=>match m S with
 | .exn _ _=>.bad
 | r=>r
theorem Post.nx{G:α->Sto->Mp->Hp->Prop}(p:Post K cl xe μ H (nx m S) G):Post K cl xe' μ H (m S) G:=by
 unfold L3.nx at p;cases e:m S with
 | ok a S1=>rw[e]at p;exact p
 | exn n S1=>rw[e]at p;exact p.elim
 | bad=>rw[e]at p;exact p
theorem oy(f:HOk P w H h)(o:OAt K cl μ H a (.exc c fs))(e:H a=some (P5 tb a C d))(j:∀T,tb=some T->T≠a/\H T=some (TbO T)):C=cl c/\Fx K H a C d tb:=by
 obtain⟨k,gs,q,p,o⟩:=o;obtain⟨vs,l,_⟩:=(f a _ e).1;rcases o with ⟨z,g⟩ | ⟨d',n,r,g,m⟩
 ·obtain⟨i,b,_⟩:=(f a _ g).1;rw[l]at b;cases b;exact⟨rfl,k,e,λd' z=>(nomatch z),j⟩
 ·obtain⟨i,b,_⟩:=(f a _ g).1;rw[l]at b;cases b;exact⟨rfl,k,e,λs z=>by cases z;exact⟨n,gs,m⟩,j⟩
theorem Rep.mv{n:Nat}(r:Rep K cl μ S H)(hk:HOk P w H h)(e:μ.pl[n]?=some a)(fx:H a=some (P5 tb a C d))(m:Mv H a C d H'):Lat μ H μ H'/\Rep K cl μ S H':=by
 have am:=HE e;have l:Lat μ H μ H':=⟨λ_ _ h=>h,λb o q nb=>m.1 b o (λz=>nb (z▸am)) q,λ_ h=>.inl h,rfl⟩;refine⟨l,r.len,r.nd,λi o b e1 e2=>?_,λb mb=>let ⟨h1,u,h2⟩:=r.res b mb;⟨h1,u,l.oth _ _ h2 h1⟩⟩;have ho:=r.ats i o b e1 e2;by_cases hb:b=a
 ·subst hb;cases o with
  | lst ds=>obtain⟨xs,q,_⟩:=ho;rw[fx]at q;simp[P5]at q
  | dct kvs=>obtain⟨xs,q,_⟩:=ho;rw[fx]at q;simp[P5]at q
  | dcT kvs=>
   obtain⟨es,q,_⟩:=ho;obtain⟨vs,q1,_⟩:=(hk b _ fx).1;obtain⟨o,ep,q2,q3,_⟩:=(hk b _ q).1;rw[q1]at q2;cases q2;cases q3.1
  | exc c fs=>
   obtain⟨xc,gs,q,fr,o⟩:=ho;obtain⟨tb',m2⟩:=m.2;obtain⟨vs,q1,_⟩:=(hk b _ fx).1;rcases o with ⟨z,e2⟩ | ⟨d',h1,h2,e2,e3⟩
   ·obtain⟨vs2,q2,_⟩:=(hk b _ e2).1;rw[q1]at q2;cases q2;exact⟨xc,gs,Paired.mono (λ_ _ ⟨z,w⟩=>⟨z,w.later l⟩) q,tb',.inl ⟨z,m2⟩⟩
   ·obtain⟨vs2,q2,_⟩:=(hk b _ e2).1;rw[q1]at q2;cases q2;exact⟨xc,gs,Paired.mono (λ_ _ ⟨z,w⟩=>⟨z,w.later l⟩) q,tb',.inr ⟨d',h1,h2,m2,m.1 d' _ h1 e3⟩⟩
 ·obtain⟨u,q⟩:=ho.some;exact ho.later l (by rw[q];exact m.1 b u hb q)
end
def xOf(X:Cx)(a:Addr)(H:Hp):Prop:=∀(pins:List (Addr×Obj)) (σ:L2.St) (s:Shared) (C:Addr) (d b:Option Addr),L2.Inv X pins σ H s->Fx X.K H a C d b->X.xe (.ref a) s
def xU(X:Cx)(pins:List (Addr×Obj))(σ:L2.St)(F:Addr->Hp->Prop)(c:Value)(s:Shared):Prop:=∃a H C d b,c=.ref a/\L2.Inv X pins σ H s/\Fx X.K H a C d b/\F a H
def PX(X:Cx)(cl:ClW)(e:Expr)(f:Env->M D):Prop:=∀(pins:List (Addr×Obj)) (s:Shared) (σ:L2.St) (H:Hp) (Q:VK) (F:Addr->Hp->Prop),L2.Inv X pins σ H s->tD X.K cl F f σ H Q ->
 wpAny (model X.prog X.w) X.A (eval e X.env) (EP X pins σ Q) (xU X pins σ F) s
def spX(K:PySem.W.Frag)(cl:ClW)(n:Nat)(run:List D->M D):Sp:=λvs H Q E=>vs.length=n/\∃μ S ds,RDs K μ H ds vs/\Rep K cl μ S H/\Post K cl (nD E) μ H (run ds S) λd _ μ' H'=>∀v,RD K μ' H' d v->Q v H'
section
variable {X:Cx}{cl:ClW}{e:Expr}{es:List Expr}{f:Env->M D}{pos p:Pos}
theorem PX.of(h:PE X.nox e (tD X.K cl x0 f)):PX X cl e λρ=>nx (f ρ):=λpins s σ H Q F I ⟨μ,S,ρ,a,b,p⟩=>
 Hy (h pins s σ H Q (I.wish _) ⟨μ,S,ρ,a,b,p.nx⟩) (λ_ _ ⟨v,H',c,r,q⟩=>⟨v,H',c.unwish,r,q⟩) λ_ _ z=>False.elim z
theorem ww{k n:Nat}{a:Addr}{fd:FuncData}{ps:List Str}{x:Str}{fs:Env->M (List D)}{run:List D->M D}(hn:ps.length=n)(F:FnOk X.prog X.w X.K X.mg X.base (CXd X.prog X.w X.K) k a fd ps (spX X.K cl n run))(hr:Room false k X.A)(hg:Gl X x)(hm:X.mg x=some (.ref a))(hk:PySem.W.keepIn X.K (.ref a)=true)(hb:Binds X.K fd ps [])
  (ha:PA X.nox (e::es) (tDs X.K cl x0 fs)) (hdb:(x==("__debug__" : Str))=false) (hs:(e::es).all noStar=true) :
  PX X cl (.Call (.Name x p) (e::es) [] pos) λρ=>bind (nx (fs ρ)) λds=>if ds.length=n then run ds else bad:=by
 rw[Ib,Gz]at hs;intro pins s σ H Q F0 I ⟨μ,S,ρ,eo,rp,p⟩;refine Ii (D9 I hg hm ?_ hdb);refine Ka I.ok.mod.kin hk (Hy (ha pos pins s σ H (λvs H1=>∃μ1 S1 ds,RDs X.K μ1 H1 ds vs/\Rep X.K cl μ1 S1 H1/\Post X.K cl F0 μ1 H1 ((if ds.length=n then run ds else bad) S1) λd _ μ' H'=>∀v,RD X.K μ' H' d v->Q v H') (I.wish _) ⟨μ,S,ρ,eo,rp,p.bind.nx.imp λds S1 μ1 H1 l1 r1 p1 vs rvs=>⟨μ1,S1,ds,rvs,r1,p1⟩⟩)
  (λus s1 ⟨vs,H1,I1,r,μ1,S1,ds,rvs,r1,p1⟩=>⟨I1.unwish.kIn,?_⟩) λ_ _ z=>False.elim z) (h9 hs.1) (m9 hs.2)
 have I1:=I1.unwish;by_cases hd:ds.length=n
 ·rw[if_pos hd]at p1;have hl:us.length=ps.length:=by rw[<- r.length,<- rvs.length,hd,hn]
  have hb2:=hb s1 us I1.kIn (by rw[HU];exact hl);rw[HU]at hb2;refine JG (IT (F.run X.A X.stack s1 H1 ⟨us,[]⟩ us vs Q (λev _ H=>∀a,ev=.ref a->F0 a H) hr I1.env0 hb2 r ⟨by rw[<- rvs.length];exact hd,μ1,S1,ds,rvs,r1,p1.ximp λ_ _ _ _ a _ _ _ _ h a' z=>by cases z;exact h⟩) λres s' hq=>?_);cases res with
  | error ev=>
   obtain⟨a',C,d,tb,H',he,os,bare,un,hok,fx,q⟩:=hq;exact⟨a',H',C,d,tb,he,I1.call' os un hok bare (λb z=>absurd z (by simp)),fx,q a' he⟩
  | ok fl=>
   cases fl with
   | ret u=>exact I1.after hq
   | next=>exact False.elim hq
   | brk=>exact False.elim hq
   | cont=>exact False.elim hq
 ·rw[if_neg hd]at p1;exact p1.elim
def v5(d:D):M Fl:=match d with
 | .ref n=>λS=>match S[n]? with
  | some (.exc _ _)=>.exn n S
  | _=>.bad
 | _=>bad
theorem pJ(hc:X.calm=true)(h:PE X e (tDf X.K cl (xOf X) f)):PS X (.Raise (some e) none pos) (sD X.K cl (xOf X) λρ=>bind (f ρ) v5):=by
 intro pins s σ H D I ⟨μ,S,ρ,eo,rp,p⟩;refine Gx (Iz (cw (K:=X.K) (I.ok.hd hc) (Gx (Hy (h pins s σ H (λv H1=>∃(x C:Addr) (d:Option Addr) (μ1:Mp) (S1:Sto) (n c:Nat) (fs:List (Str×L3.D)),v=.ref x/\XC X.K C/\H1 x=some (O3 x C d)/\Rep X.K cl μ1 S1 H1/\S1[n]?=some (O.exc c fs)/\μ1.pl[n]?=some x/\xOf X x H1) I ⟨μ,S,ρ,eo,rp,p.bind.imp λd S1 μ1 H1 l1 r1 p1 v rv fr=>?_⟩)
  (λu s1 ⟨v,H1,I1,ru,x,C,d,μ1,S1,n,c,fs,ev,xc,ex,r1,e1,e2,xo⟩=>Gx (Iz (Gy ?_))) λ_ _ z=>z))))
 ·cases rv with
  | ref hp=>
   rename_i n a;obtain⟨x,C,d,ev,xc,ex⟩:=fr;cases ev;simp only[v5]at p1;cases q:S1[n]? with
   | none=>rw[q]at p1;exact p1.elim
   | some o=>
    rw[q]at p1;cases o with
    | exc c fs=>exact⟨_,C,d,μ1,S1,n,c,fs,rfl,xc,ex,r1,q,hp,p1 μ1 H1 _ (Lat.refl _ _) r1 hp⟩
    | lst _=>exact p1.elim
    | dct _=>exact p1.elim
    | dcT _=>exact p1.elim
  | _=>exact False.elim p1
 ·subst ev;obtain rfl:u=Value.ref x:=ru;have fx:=(oy I1.hok (r1.ats n _ x e1 e2) ex λT z=>(nomatch z)).2;exact⟨x,C,d,rfl,I1.kIn,xc,I1.isX ex,xo pins σ s1 C d none I1 fx⟩
end
section
variable {K:PySem.W.Frag}{cl:ClW}{xe xe':Addr->Hp->Prop}{α:Type}{μ:Mp}{H:Hp}
theorem Post.up{G:α->Sto->Mp->Hp->Prop}(p:Post K cl xe μ H r G)(k:∀a H',xe a H'->xe' a H'):Post K cl xe' μ H r G:=p.ximp λ_ _ _ H' a _ _ _ _ h=>k a H' h
theorem Post.x0{G:α->Sto->Mp->Hp->Prop}(p:Post K cl (nD E0) μ H r G):Post K cl xe μ H r G:=p.up λ_ _ z=>False.elim z
end
abbrev x0:Addr->Hp->Prop:=nD E0
section
variable {X:Cx}{cl:ClW}{xe:Addr->Hp->Prop}{e tg:Expr}{es:List Expr}
theorem PE.x0(h:PE X e (tD X.K cl xe f)):PE X e (tD X.K cl x0 f):=PE.imp h λσ H Q ⟨μ,S,ρ,a,b,p⟩=>⟨μ,S,ρ,a,b,p.x0⟩
theorem PTL.x0(h:PTL X es (tBo X.K cl xe f)):PTL X es (tBo X.K cl x0 f):=λpins s σ H Q I ⟨μ,S,ρ,a,b,p⟩=>h pins s σ H Q I ⟨μ,S,ρ,a,b,p.x0⟩
theorem PA.x0(h:PA X es (tDs X.K cl xe f)):PA X es (tDs X.K cl x0 f):=PA.imp h λσ H Q ⟨μ,S,ρ,a,b,p⟩=>⟨μ,S,ρ,a,b,p.x0⟩
theorem PI.x0(h:PI X tg e (tIt X.K cl xe f)):PI X tg e (tIt X.K cl x0 f):=PI.imp h λσ H Q ⟨μ,S,ρ,a,b,p⟩=>⟨μ,S,ρ,a,b,p.x0⟩
theorem PSs.x0(h:PSs X sts (sD X.K cl xe f)):PSs X sts (sD X.K cl x0 f):=PSs.imp h λD σ H ⟨μ,S,ρ,a,b,p⟩=>⟨μ,S,ρ,a,b,p.x0⟩
theorem dJ(h:PE X e (eM X.K cl x0 fs)):PE X e (tD X.K cl xe λρ=>bind (nx (fs ρ)) λds=>ret (.lst ds)):=PE.imp h λσ H Q ⟨μ,S,ρ,f,j,p⟩=>
 ⟨μ,S,ρ,f,j,p.bind.nx.imp λds S1 b d l g i c ys k a=>i.ret b d (Lat.refl _ _) g _ (.lst k a)⟩
theorem xn:C3 (CXd X.prog X.w X.K) X (λl _ H=>∀a,l=.ref a->xOf X a H):=λpins σ H s e s' I ⟨a,C,d,i,H',k,g,c,j,f,h,q⟩=>by
 subst k;exact q a rfl pins σ s' C d i (I.call' g j f c λb z=>absurd z (by simp)) h
theorem rj{a:Addr}{fd:FuncData}{ps:List Str}{x:Str}{p pos:Pos}{fs:Env->M (List D)}{b:List D->M D}(F:FnOk X.prog X.w X.K X.mg X.base (CXd X.prog X.w X.K) k a fd ps (spX X.K cl n b))(l:Room false k X.A)(j:Gl X x)(o:X.mg x=some (.ref a))(i:PySem.W.keepIn X.K (.ref a)=true)(t:Binds X.K fd ps [])
  (s:PA X (e::es) (tDs X.K cl (xOf X) fs)) (g:(x==("__debug__" : Str))=false) (hs:(e::es).all noStar=true) :
  PE X (.Call (.Name x p) (e::es) [] pos) (tD X.K cl (xOf X) λρ=>bind (fs ρ) λds=>if ds.length=n then b ds else bad):=by
 rw[Ib,Gz]at hs;exact PE.imp (vD F l j o i t .nil xn s g (h9 hs.1) (m9 hs.2)) λσ H Q ⟨μ,S,ρ,m,r,p⟩=>
  ⟨μ,S,ρ,m,r,p.bind.imp λds S1 f u w q d vs c=>by
   by_cases hd:ds.length=n
   ·rw[if_pos hd]at d;exact⟨by rw[HU,<- c.length];exact hd,f,S1,ds,by rw[HU];exact c,q,d.up λa H' h v z=>by cases z;exact h⟩
   ·rw[if_neg hd]at d;exact d.elim⟩
theorem lM{b:List D->M D}(F:FnOk X.prog X.w X.K X.mg X.base (CXd X.prog X.w X.K) k a fd ps (spX X.K cl 0 b))(f:Room false k X.A)(e:Gl X x)(g:X.mg x=some (.ref a))(d:PySem.W.keepIn X.K (.ref a)=true)(j:Binds X.K fd ps [])
  (c:(x==("__debug__" : Str))=false):PE X (.Call (.Name x p) [] [] pos) (tD X.K cl (xOf X) λρ=>b []):=PE.imp (ph F f e g d j .nil xn c) λσ H Q ⟨μ,S,ρ,l,i,p⟩=>⟨rfl,μ,S,[],.nil,i,p.up λa H' h m z=>by cases z;exact h⟩
end
inductive G where
 | val (d:D) | fn (i n:Nat) | err (c:Nat) (fs:List Str) | dct (kvs:List (Str×D))
structure Gm where
 gl:List (Str×G)
 sub:Nat->Nat->Bool
 flds:List Str
 qs:List Nat:=[]
structure Lc where
 N:List Str
 sc:Scope
 fr:Bool
 mu:List Str
def quiet(a:Lc):Bool:=a.mu.contains ("~" : Str)
structure Ev where
 e:Lc->Expr->Env->M D
 t:Lc->Expr->Env->M Bool
 s:Lc->Stmt->Env->M Fl
 i:Lc->Expr->Expr->Env->M (Src×Nat)
structure EvK where
 e:Lc->Expr->Env->∀{α:Type},(D->M α)->M α
 t:Lc->Expr->Env->∀{α:Type},(Bool->M α)->M α
 s:Lc->Stmt->Env->∀{α:Type},(Fl->M α)->M α
 i:Lc->Expr->Expr->Env->∀{α:Type},(Src×Nat->M α)->M α
structure EqK(r:Ev)(q:EvK):Prop where
 e:∀lc e ρ {α:Type} (k:D->M α),q.e lc e ρ k=bind (r.e lc e ρ) k
 t:∀lc e ρ {α:Type} (k:Bool->M α),q.t lc e ρ k=bind (r.t lc e ρ) k
 s:∀lc e ρ {α:Type} (k:Fl->M α),q.s lc e ρ k=bind (r.s lc e ρ) k
 i:∀lc g e ρ {α:Type} (k:Src×Nat->M α),q.i lc g e ρ k=bind (r.i lc g e ρ) k
theorem fy(k:α->M β):bind bad k=bad:=rfl
theorem t8{c:Prop}[Decidable c](a b:M α)(k:α->M β):bind (if c then a else b) k=if c then bind a k else bind b k:=by split <;> rfl
theorem k9(m:M α):bind m ret=m:=by
 funext S;unfold bind ret;cases m S <;> rfl
def d8:List Str->Str->Option Nat
 | [],_=>none
 | y::ys,x=>if y=x then some 0 else (d8 ys x).map (· + 1)
theorem k6:∀{N:List Str}{x:Str}{i:Nat},d8 N x=some i->N[i]?=some x
 | [],_,_,e=>by cases e
 | y::ys,x,i,e=>by
  unfold d8 at e;split at e
  ·rename_i h;cases e;simp[h]
  ·cases q:d8 ys x with
   | none=>rw[q]at e;cases e
   | some j=>rw[q]at e;cases e;simpa using k6 q
def og(a:Scope)(x:Str):Bool:=decide (a.names.lookup x=some .local)||decide (a.names.lookup x=some .cell)||decide (a.names.lookup x=some .free)
def bP(a:Scope)(x:Str):Bool:=decide (a.names.lookup x=some .local)||decide (a.names.lookup x=some .cell)
def glB(a:Scope)(x:Str):Bool:=decide (a.names.lookup x=some .globalImplicit)
def n4(x:Str):Bool:=!(x==("__debug__" : Str))&&!(x==("__classdict__" : Str))&&!(x==("__name__" : Str))
theorem uC(h:og sc x=true):Vis sc x:=by
 simpa [og,Vis,or_assoc] using h
theorem y4(h:bP sc x=true):L2.Loc sc x:=by
 simpa [bP,L2.Loc] using h
theorem o9(h:n4 x=true):(x==("__debug__" : Str))=false/\(x==("__classdict__" : Str))=false/\x ≠ "__name__":=by
 simpa [n4,and_assoc] using h
structure Tx where
 P:Program
 w:World
 K:PySem.W.Frag
 mg:Str->Option Value
 base:Heap
 clf:Nat->Addr
def Tx.cl(T:Tx):ClW:=⟨T.clf,T.w⟩
def bnames:List Str:=["len","tuple","list","repr","isinstance","range","int","bool","str","dict","ValueError","all","any","sum","max","min","sorted","set","enumerate","abs","zip"]
abbrev CXq(q:Bool):CXT:=⟨λ_ _ _ _ _ _=>False,q⟩
structure FnX(T:Tx)(k i n:Nat)(x:Str)(run:List D->M D):Prop where
 ex:∃(a:Addr) (fd:FuncData) (ps:List Str),ps.length=n/\FnOk T.P T.w T.K T.mg T.base (CXd T.P T.w T.K) k a fd ps (spX T.K T.cl n run)/\T.mg x=some (.ref a)/\PySem.W.keepIn T.K (.ref a)=true/\Binds T.K fd ps []
structure FnAt(T:Tx)(k i n:Nat)(x:Str)(run:List D->M D):Prop where
 ex:∃(a:Addr) (fd:FuncData) (ps:List Str),ps.length=n/\FnOk T.P T.w T.K T.mg T.base (CXq true) k a fd ps (spD T.K T.cl n run)/\T.mg x=some (.ref a)/\PySem.W.keepIn T.K (.ref a)=true/\Binds T.K fd ps []
structure ErrAt(T:Tx)(x:Str)(c:Nat)(fs:List Str):Prop where
 xc:XC T.K (T.cl c)
 mg_:T.mg x=some (.ref (T.cl c))
 ex:∃(f:Addr) (fd:FuncData) (ps:List Str),PySem.W.findIn T.K (.ref (T.cl c)) "__init__" = some (some (.ref f))/\PySem.W.isFn T.K (.ref f)=true/\Binds T.K fd ps [] /\
  match fs with
  | []=>FnOk T.P T.w T.K T.mg T.base CX0 2 f fd ps (Hn.spHE T.K)
  | [g]=>FnOk T.P T.w T.K T.mg T.base CX0 2 f fd ps (Hn.sp1 T.K g)
  | [g,g2]=>FnOk T.P T.w T.K T.mg T.base CX0 2 f fd ps (Hn.sp2 T.K g g2)
  | _=>False
def oj(T:Tx)(x:Str)(kvs:List (Str×D)):Prop:=∃(a:Addr) (es:Array DictEntry) (n:Nat),T.mg x=some (.ref a)/\T.K.lookup a=some ⟨.type "dict",none,.dict es n,#[]⟩/\PySem.W.KeysLit T.w.params es.toList/\(a==sysModules)=false/\(∀k,kvs.lookup k=none->PySem.W.nsIn T.K a k=some none)/\∀k d,kvs.lookup k=some d->∃u v,PySem.W.nsIn T.K a k=some (some u)/\RelV v u/\∀μ H,RD T.K μ H d v
structure TxOk(T:Tx)(Γ:Gm)(k:Nat)(C:Nat->List D->M D):Prop where
 blt:∀x∈bnames,Γ.gl.lookup x=none->T.mg x=none
 val:∀x d,Γ.gl.lookup x=some (.val d)->∃u v,T.mg x=some u/\RelV v u/\∀μ H,RD T.K μ H d v
 fn:∀x i n,Γ.gl.lookup x=some (.fn i n)->i∉Γ.qs->FnX T k i n x (C i)
 fnq:∀x i n,Γ.gl.lookup x=some (.fn i n)->i∈Γ.qs->FnAt T k i n x (C i)
 err:∀x c fs,Γ.gl.lookup x=some (.err c fs)->ErrAt T x c fs/\(∀g∈fs,z9 T.K (T.cl c) g)
 sub:∀x c c0 fs,Γ.gl.lookup x=some (.err c0 fs)->XC T.K (T.cl c)->PySem.W.kitOne T.K (.ref (T.cl c)) (.ref (T.cl c0))=some (Γ.sub c c0)
 subV:∀c,XC T.K (T.cl c)->PySem.W.kitOne T.K (.ref (T.cl c)) (.type "ValueError")=some true
 subT:∀c,XC T.K (T.cl c)->∀t∈tys,PySem.W.kitOne T.K (.ref (T.cl c)) (.type t)=some false
 fld:∀g∈Γ.flds,∀c,XC T.K (T.cl c)->z9 T.K (T.cl c) g
 dct:∀x kvs,Γ.gl.lookup x=some (.dct kvs)->oj T x kvs
 k3:3<=k
structure CxOk(T:Tx)(k:Nat)(lc:Lc)(X:Cx):Prop where
 prog:X.prog=T.P
 w:X.w=T.w
 K:X.K=T.K
 mg:X.mg=T.mg
 base:X.base=T.base
 N:X.N=lc.N
 nd:lc.N.Nodup
 sc:X.env.scope=lc.sc
 calm:quiet lc=false->X.calm=true
 room:Room (quiet lc) k X.A
 po:PassesOwn (model X.prog X.w) X.A X.env X.xe
 fn:X.fn=λ_=>lc.fr
 kd:lc.sc.kind=.function
 own:lc.fr=true->quiet lc=false->X.stack=X.env::X.outer/\X.env.frame=some X.env.locals
structure EvOk(T:Tx)(k:Nat)(r:Ev):Prop where
 e:∀lc X,CxOk T k lc X->∀e,PE X e (tD T.K T.cl (xOf X) (r.e lc e))
 t:∀lc X,CxOk T k lc X->∀e,PT X e (tBo T.K T.cl (xOf X) (r.t lc e))
 s:∀lc X,CxOk T k lc X->lc.fr=true->∀st,PS X st (sD T.K T.cl (xOf X) (r.s lc st))
 i:∀lc X,CxOk T k lc X->∀g e,PI X g e (tIt T.K T.cl (xOf X) (r.i lc g e))
section
variable {T:Tx}{k:Nat}{r:Ev}{Γ:Gm}{C:Nat->List D->M D}{lc:Lc}{X:Cx}{pos:Pos}
theorem EvOk.ex(R:EvOk T k r)(h:CxOk T k lc X)(e:Expr):PE X e (tD X.K T.cl (xOf X) (r.e lc e)):=by rw[h.K];exact R.e lc X h e
theorem EvOk.tx(R:EvOk T k r)(h:CxOk T k lc X)(e:Expr):PT X e (tBo X.K T.cl (xOf X) (r.t lc e)):=by rw[h.K];exact R.t lc X h e
theorem EvOk.ix(R:EvOk T k r)(h:CxOk T k lc X)(g e:Expr):PI X g e (tIt X.K T.cl (xOf X) (r.i lc g e)):=by rw[h.K];exact R.i lc X h g e
theorem EvOk.sx(R:EvOk T k r)(h:CxOk T k lc X)(a:lc.fr=true)(st:Stmt):PS X st (sD X.K T.cl (xOf X) (r.s lc st)):=by rw[h.K];exact R.s lc X h a st
theorem CxOk.u64(h:CxOk T k lc X):X.A.units+64<cLine:=h.room.units
theorem CxOk.u80(h:CxOk T k lc X):X.A.units+80<cLine:=by have:=h.room.un;omega
theorem CxOk.u1(h:CxOk T k lc X):X.A.units+1<cLine:=Ew h.room
theorem CxOk.gl(h:CxOk T k lc X){x:Str}(a:glB lc.sc x=true):Gl X x:=by
 show X.env.kindOf x=_;unfold PySem.Env.kindOf;rw[h.sc];exact HR a
theorem TxOk.none(a:TxOk T Γ k C)(h:CxOk T k lc X){x:Str}(b:x∈bnames)(e:Γ.gl.lookup x=none):X.mg x=none:=by rw[h.mg];exact a.blt x b e
theorem CxOk.nd'(h:CxOk T k lc X):X.N.Nodup:=by rw[h.N];exact h.nd
theorem CxOk.fn1(h:CxOk T k lc X)(a:lc.fr=true){x:Str}:X.fn x=true:=by rw[h.fn];exact a
theorem CxOk.room0(h:CxOk T k lc X)(a:quiet lc=false):Room false k X.A:=by have:=h.room;rw[a]at this;exact this
theorem CxOk.nox(h:CxOk T k lc X):CxOk T k lc X.nox:=⟨h.prog,h.w,h.K,h.mg,h.base,h.N,h.nd,h.sc,h.calm,h.room,PassesOwn.never,h.fn,h.kd,h.own⟩
end
abbrev Cf:=Nat->List D->M D
structure RuE:Type 1 where
 is:Gm->Lc->Expr->Bool
 run:Ev->Gm->Cf->Lc->Expr->Env->M D
 ok:∀{T:Tx}{k:Nat}{r:Ev}{Γ:Gm}{C:Cf}{lc:Lc}{X:Cx}(e:Expr),EvOk T k r->TxOk T Γ k C->CxOk T k lc X->is Γ lc e=true->PE X e (tD X.K T.cl (xOf X) (run r Γ C lc e))
 runK:EvK->Gm->Cf->Lc->Expr->Env->∀{α:Type},(D->M α)->M α
 eq:∀{r:Ev}{q:EvK}{Γ:Gm}{C:Cf}{lc:Lc}(e:Expr)(ρ:Env){α:Type}(k:D->M α),EqK r q->runK q Γ C lc e ρ k=bind (run r Γ C lc e ρ) k
structure RuT:Type 1 where
 is:Gm->Lc->Expr->Bool
 run:Ev->Gm->Cf->Lc->Expr->Env->M Bool
 ok:∀{T:Tx}{k:Nat}{r:Ev}{Γ:Gm}{C:Cf}{lc:Lc}{X:Cx}(e:Expr),EvOk T k r->TxOk T Γ k C->CxOk T k lc X->is Γ lc e=true->PT X e (tBo X.K T.cl (xOf X) (run r Γ C lc e))
 runK:EvK->Gm->Cf->Lc->Expr->Env->∀{α:Type},(Bool->M α)->M α
 eq:∀{r:Ev}{q:EvK}{Γ:Gm}{C:Cf}{lc:Lc}(e:Expr)(ρ:Env){α:Type}(k:Bool->M α),EqK r q->runK q Γ C lc e ρ k=bind (run r Γ C lc e ρ) k
structure RuS:Type 1 where
 is:Gm->Lc->Stmt->Bool
 run:Ev->Gm->Cf->Lc->Stmt->Env->M Fl
 ok:∀{T:Tx}{k:Nat}{r:Ev}{Γ:Gm}{C:Cf}{lc:Lc}{X:Cx}(e:Stmt),EvOk T k r->TxOk T Γ k C->CxOk T k lc X->lc.fr=true->is Γ lc e=true->PS X e (sD X.K T.cl (xOf X) (run r Γ C lc e))
 runK:EvK->Gm->Cf->Lc->Stmt->Env->∀{α:Type},(Fl->M α)->M α
 eq:∀{r:Ev}{q:EvK}{Γ:Gm}{C:Cf}{lc:Lc}(e:Stmt)(ρ:Env){α:Type}(k:Fl->M α),EqK r q->runK q Γ C lc e ρ k=bind (run r Γ C lc e ρ) k
structure RuI:Type 1 where
 is:Gm->Lc->Expr->Expr->Bool
 run:Ev->Gm->Cf->Lc->Expr->Env->M (Src×Nat)
 ok:∀{T:Tx}{k:Nat}{r:Ev}{Γ:Gm}{C:Cf}{lc:Lc}{X:Cx}(g e:Expr),EvOk T k r->TxOk T Γ k C->CxOk T k lc X->is Γ lc g e=true->PI X g e (tIt X.K T.cl (xOf X) (run r Γ C lc e))
 runK:EvK->Gm->Cf->Lc->Expr->Env->∀{α:Type},(Src×Nat->M α)->M α
 eq:∀{r:Ev}{q:EvK}{Γ:Gm}{C:Cf}{lc:Lc}(e:Expr)(ρ:Env){α:Type}(k:Src×Nat->M α),EqK r q->runK q Γ C lc e ρ k=bind (run r Γ C lc e ρ) k
structure Rules:Type 1 where
 es:List RuE
 ts:List RuT
 ss:List RuS
 is:List RuI
section
variable (Rs:Rules)(Γ:Gm)(C:Cf)
def step(r:Ev):Ev:=
 ⟨λa e=>match Rs.es.find? (λR=>R.is Γ a e) with
  | some R=>R.run r Γ C a e
  | none=>λ_=>bad,
 λa e=>match Rs.ts.find? (λR=>R.is Γ a e) with
  | some R=>R.run r Γ C a e
  | none=>λ_=>bad,
 λa e=>match Rs.ss.find? (λR=>R.is Γ a e) with
  | some R=>R.run r Γ C a e
  | none=>λ_=>bad,
 λa g e=>match Rs.is.find? (λR=>R.is Γ a g e) with
  | some R=>R.run r Γ C a e
  | none=>λ_=>bad⟩
def badEv:Ev:=⟨λ_ _ _=>bad,λ_ _ _=>bad,λ_ _ _=>bad,λ_ _ _ _=>bad⟩
def ev:Nat->Ev
 | 0=>badEv
 | n+1=>step Rs Γ C (ev n)
def xf(q:EvK):EvK:=
 ⟨λa e ρ _ k=>match Rs.es.find? (λR=>R.is Γ a e) with
  | some R=>R.runK q Γ C a e ρ k
  | none=>bad,
 λa e ρ _ k=>match Rs.ts.find? (λR=>R.is Γ a e) with
  | some R=>R.runK q Γ C a e ρ k
  | none=>bad,
 λa e ρ _ k=>match Rs.ss.find? (λR=>R.is Γ a e) with
  | some R=>R.runK q Γ C a e ρ k
  | none=>bad,
 λa g e ρ _ k=>match Rs.is.find? (λR=>R.is Γ a g e) with
  | some R=>R.runK q Γ C a e ρ k
  | none=>bad⟩
def FV:EvK:=⟨λ_ _ _ _ _=>bad,λ_ _ _ _ _=>bad,λ_ _ _ _ _=>bad,λ_ _ _ _ _ _=>bad⟩
def evK:Nat->EvK
 | 0=>FV
 | n+1=>xf Rs Γ C (evK n)
end
section
variable {Rs:Rules}{T:Tx}{k:Nat}{r:Ev}{q:EvK}{Γ:Gm}{C:Cf}{lc:Lc}{X:Cx}
theorem tM(d:TxOk T Γ k C)(R:EvOk T k r):EvOk T k (step Rs Γ C r):=by
 refine⟨λa X h e=>?_,λa X h e=>?_,λa X h c e=>?_,λa X h g e=>?_⟩
 ·rw[<- h.K];show PE X e (tD X.K T.cl (xOf X) (match Rs.es.find? (λR=>R.is Γ a e) with
   | some R=>R.run r Γ C a e
   | none=>λ_=>bad))
  cases c:Rs.es.find? (λR=>R.is Γ a e) with
  | none=>exact f9
  | some b=>exact b.ok e R d h (by have:=KC c;exact this)
 ·rw[<- h.K];show PT X e (tBo X.K T.cl (xOf X) (match Rs.ts.find? (λR=>R.is Γ a e) with
   | some R=>R.run r Γ C a e
   | none=>λ_=>bad))
  cases c:Rs.ts.find? (λR=>R.is Γ a e) with
  | none=>exact iW
  | some b=>exact b.ok e R d h (by have:=KC c;exact this)
 ·rw[<- h.K];show PS X e (sD X.K T.cl (xOf X) (match Rs.ss.find? (λR=>R.is Γ a e) with
   | some R=>R.run r Γ C a e
   | none=>λ_=>bad))
  cases f:Rs.ss.find? (λR=>R.is Γ a e) with
  | none=>exact O1
  | some b=>exact b.ok e R d h c (by have:=KC f;exact this)
 ·rw[<- h.K];show PI X g e (tIt X.K T.cl (xOf X) (match Rs.is.find? (λR=>R.is Γ a g e) with
   | some R=>R.run r Γ C a e
   | none=>λ_=>bad))
  cases c:Rs.is.find? (λR=>R.is Γ a g e) with
  | none=>exact jg
  | some b=>exact b.ok g e R d h (by have:=KC c;exact this)
theorem rP:EvOk T k badEv:=⟨λa X h e=>by rw[<- h.K];exact f9,λa X h e=>by rw[<- h.K];exact iW,λa X h _ st=>by rw[<- h.K];exact O1,λa X h g e=>by rw[<- h.K];exact jg⟩
theorem qH(a:TxOk T Γ k C):∀n,EvOk T k (ev Rs Γ C n)
 | 0=>rP
 | n+1=>tM a (qH a n)
theorem tL(h:EqK r q):EqK (step Rs Γ C r) (xf Rs Γ C q):=by
 refine⟨λa e ρ _ k=>?_,λa e ρ _ k=>?_,λa e ρ _ k=>?_,λa g e ρ _ k=>?_⟩
 ·show(match Rs.es.find? (λR=>R.is Γ a e) with
   | some R=>R.runK q Γ C a e ρ k
   | none=>bad)=bind ((match Rs.es.find? (λ(R:RuE)=>R.is Γ a e) with
   | some R=>R.run r Γ C a e
   | none=>λ_=>bad) ρ) k
  cases Rs.es.find? (λR=>R.is Γ a e) with
  | none=>rfl
  | some b=>exact b.eq e ρ k h
 ·show(match Rs.ts.find? (λR=>R.is Γ a e) with
   | some R=>R.runK q Γ C a e ρ k
   | none=>bad)=bind ((match Rs.ts.find? (λ(R:RuT)=>R.is Γ a e) with
   | some R=>R.run r Γ C a e
   | none=>λ_=>bad) ρ) k
  cases Rs.ts.find? (λR=>R.is Γ a e) with
  | none=>rfl
  | some b=>exact b.eq e ρ k h
 ·show(match Rs.ss.find? (λR=>R.is Γ a e) with
   | some R=>R.runK q Γ C a e ρ k
   | none=>bad)=bind ((match Rs.ss.find? (λ(R:RuS)=>R.is Γ a e) with
   | some R=>R.run r Γ C a e
   | none=>λ_=>bad) ρ) k
  cases Rs.ss.find? (λR=>R.is Γ a e) with
  | none=>rfl
  | some b=>exact b.eq e ρ k h
 ·show(match Rs.is.find? (λR=>R.is Γ a g e) with
   | some R=>R.runK q Γ C a e ρ k
   | none=>bad)=bind ((match Rs.is.find? (λ(R:RuI)=>R.is Γ a g e) with
   | some R=>R.run r Γ C a e
   | none=>λ_=>bad) ρ) k
  cases Rs.is.find? (λR=>R.is Γ a g e) with
  | none=>rfl
  | some b=>exact b.eq e ρ k h
theorem xw:∀n,EqK (ev Rs Γ C n) (evK Rs Γ C n)
 | 0=>⟨λ_ _ _ _ _=>rfl,λ_ _ _ _ _=>rfl,λ_ _ _ _ _=>rfl,λ_ _ _ _ _ _=>rfl⟩
 | n+1=>tL (xw n)
end
section
variable (r:Ev)(q:EvK)(lc:Lc)
def v8:List Expr->Env->M (List D)
 | [],_=>ret []
 | e::es,ρ=>bind (r.e lc e ρ) λd=>bind (v8 es ρ) λds=>ret (d::ds)
def A0{a:Type}:List Expr->Env->(List D->M a)->M a
 | [],_,k=>k []
 | e::es,ρ,k=>q.e lc e ρ λd=>A0 es ρ λds=>k (d::ds)
def N8:List Stmt->Env->M Fl
 | [],ρ=>ret (.nx ρ)
 | st::a,ρ=>DO (r.s lc st) (N8 a) ρ
def k0{d:Type}:List Stmt->Env->(Fl->M d)->M d
 | [],ρ,k=>k (.nx ρ)
 | st::a,ρ,k=>q.s lc st ρ λb=>match b with
  | .nx c=>k0 a c k
  | b=>k b
end
section
variable {T:Tx}{k:Nat}{r:Ev}{q:EvK}{Γ:Gm}{C:Cf}{lc:Lc}{X:Cx}{pos:Pos}
theorem o8(h:EqK r q):∀(es:List Expr)(ρ:Env){a:Type}(k:List D->M a),A0 q lc es ρ k=bind (v8 r lc es ρ) k
 | [],_,_,_=>rfl
 | e::es,ρ,_,k=>by
  show q.e lc e ρ (λd=>A0 q lc es ρ λds=>k (d::ds))=bind (bind (r.e lc e ρ) λd=>bind (v8 r lc es ρ) λds=>ret (d::ds)) k;rw[h.e,bind_assoc];congr;funext d;rw[o8 h,bind_assoc];rfl
theorem V0(h:EqK r q):∀(sts:List Stmt)(ρ:Env){α:Type}(k:Fl->M α),k0 q lc sts ρ k=bind (N8 r lc sts ρ) k
 | [],_,_,_=>rfl
 | st::sts,ρ,_,k=>by
  show(q.s lc st ρ λfl=>match fl with
   | .nx ρ'=>k0 q lc sts ρ' k
   | fl=>k fl)=bind (bind (r.s lc st ρ) λfl=>match fl with
   | .nx ρ'=>N8 r lc sts ρ'
   | fl=>ret fl) k
  rw[h.s,bind_assoc];congr;funext fl;cases fl with
  | nx ρ'=>exact V0 h sts ρ' k
  | bk ρ'=>rfl
  | ct ρ'=>rfl
  | rt d=>rfl
theorem t0(R:EvOk T k r)(h:CxOk T k lc X):∀{es:List Expr},es.all noStar=true->PA X es (tDs X.K T.cl (xOf X) (v8 r lc es))
 | [],_=>wI
 | e::es,hs=>by
  rw[Ib,Gz]at hs;exact oR (R.ex h e) (t0 R h hs.2) hs.1
theorem J7(R:EvOk T k r)(h:CxOk T k lc X)(b:lc.fr=true):∀{a:List Stmt},PSs X a (sD X.K T.cl (xOf X) (N8 r lc a))
 | []=>oK
 | st::a=>wl (R.sx h b st) (J7 R h b)
end
def yn(c:Const):M D:=match c with
 | .int i=>ret (.int i)
 | .bool b=>ret (.bl b)
 | .none=>ret .non
 | .str x=>ret (.str x)
 | _=>bad
def zO{a:Type}(c:Const)(k:D->M a):M a:=match c with
 | .int i=>k (.int i)
 | .bool b=>k (.bl b)
 | .none=>k .non
 | .str x=>k (.str x)
 | _=>bad
def yp:RuE where
 is _ _ e:=match e with
  | .Constant _ _ _=>true
  | _=>false
 run _ _ _ _ e _:=match e with
  | .Constant c _ _=>yn c
  | _=>bad
 ok e R TX h hi:=by
  cases e with
  | Constant c n p=>
   cases c <;> first
    | exact K6 Bc λ_ _=>.int _
    | exact K6 Dx λ_ _=>.bl _
    | exact K6 yd λ_ _=>.non
    | exact K6 yZ λ_ _=>.str _
    | exact f9
  | _=>exact f9
 runK _ _ _ _ e _ _ k:=match e with
  | .Constant c _ _=>zO c k
  | _=>bad
 eq e ρ _ k h:=by
  cases e with
  | Constant c n p=>cases c <;> rfl
  | _=>rfl
def fQ(Γ:Gm)(a:Lc)(x:Str)(ρ:Env):M D:=match d8 a.N x with
 | some i=>if og a.sc x=true then getD i ρ else bad
 | none=>if glB a.sc x=true then (match Γ.gl.lookup x with
  | some (.val d)=>ret d
  | _=>bad)else bad
def FE{a:Type}(i:Nat)(ρ:Env)(k:D->M a):M a:=match ρ[i]? with
 | some (some d)=>k d
 | _=>bad
def ol{b:Type}(Γ:Gm)(a:Lc)(x:Str)(ρ:Env)(k:D->M b):M b:=match d8 a.N x with
 | some i=>if og a.sc x=true then FE i ρ k else bad
 | none=>if glB a.sc x=true then (match Γ.gl.lookup x with
  | some (.val d)=>k d
  | _=>bad)else bad
theorem vM{Γ:Gm}{C:Cf}{lc:Lc}{X:Cx}{pos:Pos}(TX:TxOk T Γ k C)(h:CxOk T k lc X){x:Str}(hn:n4 x=true):PE X (.Name x pos) (tD X.K T.cl (xOf X) (fQ Γ lc x)):=by
 unfold fQ;obtain⟨n1,n2,n3⟩:=o9 hn;cases e:d8 lc.N x with
 | some i=>
  by_cases hv:og lc.sc x=true
  ·simp only[if_pos hv];exact yi (oS (by rw[h.N];exact k6 e) (by rw[h.sc];exact uC hv) n1 n2)
  ·simp only[if_neg hv];exact f9
 | none=>
  by_cases hv:glB lc.sc x=true
  ·simp only[if_pos hv];cases e2:Γ.gl.lookup x with
   | none=>exact f9
   | some g=>
    cases g with
    | val d=>
     obtain⟨u,v,e3,rv,rd⟩:=TX.val x d e2;exact K6 (Z5 (h.gl hv) (by rw[h.mg];exact e3) rv n1) λμ H=>by rw[h.K];exact rd μ H
    | fn i n=>exact f9
    | err c fs=>exact f9
    | dct kvs=>exact f9
  ·simp only[if_neg hv];exact f9
theorem uO(Γ:Gm)(a:Lc)(x:Str)(ρ:Env){b:Type}(k:D->M b):ol Γ a x ρ k=bind (fQ Γ a x ρ) k:=by
 unfold ol fQ;cases d8 a.N x with
 | some i=>
  simp only[];split
  ·unfold FE getD;cases ρ[i]? with
   | none=>rfl
   | some o=>cases o <;> rfl
  ·rfl
 | none=>
  simp only[];split
  ·cases Γ.gl.lookup x with
   | none=>rfl
   | some g=>cases g <;> rfl
  ·rfl
def CJ:RuE where
 is _ _ e:=match e with
  | .Name x _=>n4 x
  | _=>false
 run _ Γ _ lc e ρ:=match e with
  | .Name x _=>fQ Γ lc x ρ
  | _=>bad
 ok e R TX h hi:=by
  cases e with
  | Name x p=>exact vM TX h hi
  | _=>exact f9
 runK _ Γ _ lc e ρ _ k:=match e with
  | .Name x _=>ol Γ lc x ρ k
  | _=>bad
 eq e ρ _ k h:=by
  cases e with
  | Name x p=>exact uO _ _ x ρ k
  | _=>rfl
def BI(op:Operator):D->D->M D:=match op with
 | .Add=>n8
 | .Sub=>iI
 | .Mult=>L0
 | .Mod=>O5
 | .FloorDiv=>E7
 | .Pow=>wN
 | _=>λ_ _=>bad
def b7(op:CmpOp):D->D->M D:=match op with
 | .Eq=>eqD false
 | .NotEq=>eqD true
 | .Lt=>mi λi j=>decide (i<j)
 | .LtE=>mi λi j=>decide (i<=j)
 | .Gt=>mi λi j=>decide (j<i)
 | .GtE=>mi λi j=>decide (j<=i)
 | .In=>inD false
 | .NotIn=>inD true
 | .Is=>isD false
 | .IsNot=>isD true
theorem Ao{X:Cx}{cl:ClW}{xe:Addr->Hp->Prop}(op:Operator):OpR X (binaryOp op) (rP2 X.K cl xe (BI op)):=by
 cases op <;> first
  | exact Do
  | exact Eb
  | exact EB
  | exact DM
  | exact yk
  | exact Et
  | exact λpins s σ H x y v u Q I rx ry ⟨μ,S,d,e,rd,re,rp,p⟩=>p.elim
theorem rX{T:Tx}{k:Nat}{lc:Lc}{X:Cx}{cl:ClW}{xe:Addr->Hp->Prop}(h:CxOk T k lc X)(op:CmpOp):OpR X (compareOp op) (rP2 X.K cl xe (b7 op)):=by
 cases op
 case Eq=>exact Ge h.u64
 case NotEq=>exact FT h.u64
 case Lt=>exact kQ Ci
 case LtE=>exact kQ Eo
 case Gt=>exact kQ CM
 case GtE=>exact kQ Bw
 case In=>exact ES false h.u80
 case NotIn=>exact ES true h.u80
 case Is=>exact DG false
 case IsNot=>exact DG true
def GW:RuE where
 is _ _ e:=match e with
  | .BinOp _ _ _ _=>true
  | _=>false
 run r _ _ lc e ρ:=match e with
  | .BinOp a op b _=>bind (r.e lc a ρ) λx=>bind (r.e lc b ρ) λy=>BI op x y
  | _=>bad
 ok e R TX h hi:=by
  cases e with
  | BinOp a op b p=>exact BY (R.ex h _) (R.ex h _) (Ao _)
  | _=>exact f9
 runK q _ _ lc e ρ _ k:=match e with
  | .BinOp a op b _=>q.e lc a ρ λx=>q.e lc b ρ λy=>bind (BI op x y) k
  | _=>bad
 eq e ρ _ k h:=by
  cases e with
  | BinOp a op b p=>simp only[h.e,bind_assoc]
  | _=>rfl
def GY:RuE where
 is _ _ e:=match e with
  | .UnaryOp .Not _ _=>true
  | _=>false
 run r _ _ lc e ρ:=match e with
  | .UnaryOp .Not a _=>bind (r.e lc a ρ) λd=>bind (j0 d) λk=>ret (.bl (!k))
  | _=>bad
 ok e R TX h hi:=by
  split at hi
  ·exact AS (R.ex h _)
  ·cases hi
 runK q _ _ lc e ρ _ k:=match e with
  | .UnaryOp .Not a _=>q.e lc a ρ λd=>bind (j0 d) λc=>k (.bl (!c))
  | _=>bad
 eq e ρ _ k h:=by
  split
  ·simp only[h.e,bind_assoc,i3]
  ·first
   | rfl
   | (rename_i b;split;exact(b _ _ rfl).elim;rfl)
def GA:RuE where
 is _ _ e:=match e with
  | .UnaryOp .USub _ _=>true
  | _=>false
 run r _ _ lc e ρ:=match e with
  | .UnaryOp .USub a _=>bind (r.e lc a ρ) mL
  | _=>bad
 ok e R TX h hi:=by
  split at hi
  ·exact zo (R.ex h _)
  ·cases hi
 runK q _ _ lc e ρ _ k:=match e with
  | .UnaryOp .USub a _=>q.e lc a ρ λd=>bind (mL d) k
  | _=>bad
 eq e ρ _ k h:=by
  split
  ·simp only[h.e,bind_assoc]
  ·first
   | rfl
   | (rename_i b;split;exact(b _ _ rfl).elim;rfl)
section
variable (r:Ev)(q:EvK)(lc:Lc)
def mZ:List Expr->Env->M D
 | [],_=>bad
 | [a],ρ=>r.e lc a ρ
 | a::b::es,ρ=>bind (r.e lc a ρ) λd=>bind (j0 d) λq=>if q=true then mZ (b::es) ρ else ret d
def orE:List Expr->Env->M D
 | [],_=>bad
 | [a],ρ=>r.e lc a ρ
 | a::b::es,ρ=>bind (r.e lc a ρ) λd=>bind (j0 d) λq=>if q=true then ret d else orE (b::es) ρ
def sj{e:Type}:List Expr->Env->(D->M e)->M e
 | [],_,_=>bad
 | [a],ρ,k=>q.e lc a ρ k
 | a::b::es,ρ,k=>q.e lc a ρ λd=>bind (j0 d) λc=>if c=true then sj (b::es) ρ k else k d
def orK{e:Type}:List Expr->Env->(D->M e)->M e
 | [],_,_=>bad
 | [a],ρ,k=>q.e lc a ρ k
 | a::b::es,ρ,k=>q.e lc a ρ λd=>bind (j0 d) λc=>if c=true then k d else orK (b::es) ρ k
def nH:List Expr->Env->M Bool
 | [],_=>bad
 | [a],ρ=>r.t lc a ρ
 | a::b::es,ρ=>bind (r.t lc a ρ) λq=>if q=true then nH (b::es) ρ else ret false
def orB:List Expr->Env->M Bool
 | [],_=>bad
 | [a],ρ=>r.t lc a ρ
 | a::b::es,ρ=>bind (r.t lc a ρ) λq=>if q=true then ret true else orB (b::es) ρ
def jQ{d:Type}:List Expr->Env->(Bool->M d)->M d
 | [],_,_=>bad
 | [a],ρ,k=>q.t lc a ρ k
 | a::b::es,ρ,k=>q.t lc a ρ λc=>if c=true then jQ (b::es) ρ k else k false
def sf{d:Type}:List Expr->Env->(Bool->M d)->M d
 | [],_,_=>bad
 | [a],ρ,k=>q.t lc a ρ k
 | a::b::es,ρ,k=>q.t lc a ρ λc=>if c=true then k true else sf (b::es) ρ k
end
section
variable {T:Tx}{k:Nat}{r:Ev}{q:EvK}{Γ:Gm}{C:Cf}{lc:Lc}{X:Cx}{pos:Pos}
theorem nP(R:EvOk T k r)(h:CxOk T k lc X):∀{es:List Expr},PE X (.BoolOp .And es pos) (tD X.K T.cl (xOf X) (mZ r lc es))
 | []=>f9
 | [a]=>oO (R.ex h a)
 | a::b::es=>Ax (R.ex h a) (nP R h)
theorem xK(R:EvOk T k r)(h:CxOk T k lc X):∀{es:List Expr},PE X (.BoolOp .Or es pos) (tD X.K T.cl (xOf X) (orE r lc es))
 | []=>f9
 | [a]=>oO (R.ex h a)
 | a::b::es=>CD (R.ex h a) (xK R h)
theorem kT(R:EvOk T k r)(h:CxOk T k lc X):∀{es:List Expr},PW X (.BoolOp .And es pos) (tBo X.K T.cl (xOf X) (nH r lc es))
 | []=>pw_bad
 | [a]=>wB (R.tx h a)
 | a::b::es=>AL (R.tx h a) (kT R h)
theorem oF(R:EvOk T k r)(h:CxOk T k lc X):∀{es:List Expr},PW X (.BoolOp .Or es pos) (tBo X.K T.cl (xOf X) (orB r lc es))
 | []=>pw_bad
 | [a]=>Aa (R.tx h a)
 | a::b::es=>Ca (R.tx h a) (oF R h)
theorem nO(h:EqK r q):∀(es:List Expr)(ρ:Env){c:Type}(k:D->M c),sj q lc es ρ k=bind (mZ r lc es ρ) k
 | [],_,_,_=>rfl
 | [a],ρ,_,k=>h.e lc a ρ k
 | a::b::es,ρ,_,k=>by simp only[sj,mZ,h.e,bind_assoc,t8,nO h (b::es),i3]
theorem xS(h:EqK r q):∀(es:List Expr)(ρ:Env){c:Type}(k:D->M c),orK q lc es ρ k=bind (orE r lc es ρ) k
 | [],_,_,_=>rfl
 | [a],ρ,_,k=>h.e lc a ρ k
 | a::b::es,ρ,_,k=>by simp only[orK,orE,h.e,bind_assoc,t8,xS h (b::es),i3]
theorem jN(h:EqK r q):∀(es:List Expr)(ρ:Env){c:Type}(k:Bool->M c),jQ q lc es ρ k=bind (nH r lc es ρ) k
 | [],_,_,_=>rfl
 | [a],ρ,_,k=>h.t lc a ρ k
 | a::b::es,ρ,_,k=>by simp only[jQ,nH,h.t,bind_assoc,t8,jN h (b::es),i3]
theorem nG(h:EqK r q):∀(es:List Expr)(ρ:Env){c:Type}(k:Bool->M c),sf q lc es ρ k=bind (orB r lc es ρ) k
 | [],_,_,_=>rfl
 | [a],ρ,_,k=>h.t lc a ρ k
 | a::b::es,ρ,_,k=>by simp only[sf,orB,h.t,bind_assoc,t8,nG h (b::es),i3]
end
def CO:RuE where
 is _ _ e:=match e with
  | .BoolOp _ _ _=>true
  | _=>false
 run r _ _ lc e ρ:=match e with
  | .BoolOp .And es _=>mZ r lc es ρ
  | .BoolOp .Or es _=>orE r lc es ρ
  | _=>bad
 ok e R TX h hi:=by
  cases e with
  | BoolOp op es p=>cases op;exact nP R h;exact xK R h
  | _=>exact f9
 runK q _ _ lc e ρ _ k:=match e with
  | .BoolOp .And es _=>sj q lc es ρ k
  | .BoolOp .Or es _=>orK q lc es ρ k
  | _=>bad
 eq e ρ _ k h:=by
  cases e with
  | BoolOp op es p=>cases op;exact nO h es ρ k;exact xS h es ρ k
  | _=>rfl
def Ff:RuE where
 is _ _ e:=match e with
  | .Compare _ [_] [b] _=>j8 b
  | _=>false
 run r _ _ lc e ρ:=match e with
  | .Compare a [op] [b] _=>bind (r.e lc a ρ) λx=>bind (r.e lc b ρ) λy=>b7 op x y
  | _=>bad
 ok e R TX h hi:=by
  split at hi
  ·exact BG (R.ex h _) (R.ex h _) (rX h _) (bc hi)
  ·cases hi
 runK q _ _ lc e ρ _ k:=match e with
  | .Compare a [op] [b] _=>q.e lc a ρ λx=>q.e lc b ρ λy=>bind (b7 op x y) k
  | _=>bad
 eq e ρ _ k h:=by
  split
  ·simp only[h.e,bind_assoc]
  ·first
   | rfl
   | (rename_i c;split;exact(c _ _ _ _ rfl).elim;rfl)
def rIf:RuE where
 is _ _ e:=match e with
  | .IfExp _ _ _ _=>true
  | _=>false
 run r _ _ lc e ρ:=match e with
  | .IfExp c a b _=>bind (r.t lc c ρ) λq=>if q=true then r.e lc a ρ else r.e lc b ρ
  | _=>bad
 ok e R TX h hi:=by
  cases e with
  | IfExp c a b p=>exact Bx (R.tx h _) (R.ex h _) (R.ex h _)
  | _=>exact f9
 runK q _ _ lc e ρ _ k:=match e with
  | .IfExp c a b _=>q.t lc c ρ λz=>if z=true then q.e lc a ρ k else q.e lc b ρ k
  | _=>bad
 eq e ρ _ k h:=by
  cases e with
  | IfExp c a b p=>simp only[h.e,h.t,bind_assoc,t8]
  | _=>rfl
def FW:RuE where
 is _ _ e:=match e with
  | .Tuple es _ _=>es.all noStar
  | _=>false
 run r _ _ lc e ρ:=match e with
  | .Tuple es _ _=>bind (v8 r lc es ρ) zk
  | _=>bad
 ok e R TX h hi:=by
  cases e with
  | Tuple es n p=>exact za (t0 R h hi)
  | _=>exact f9
 runK q _ _ lc e ρ _ k:=match e with
  | .Tuple es _ _=>A0 q lc es ρ λds=>bind (zk ds) k
  | _=>bad
 eq e ρ _ k h:=by
  cases e with
  | Tuple es n p=>simp only[o8 h,bind_assoc]
  | _=>rfl
def Fk:RuE where
 is _ _ e:=match e with
  | .List es _=>es.all noStar
  | _=>false
 run r _ _ lc e ρ:=match e with
  | .List es _=>bind (v8 r lc es ρ) zw
  | _=>bad
 ok e R TX h hi:=by
  cases e with
  | List es p=>exact yq (t0 R h hi)
  | _=>exact f9
 runK q _ _ lc e ρ _ k:=match e with
  | .List es _=>A0 q lc es ρ λds=>bind (zw ds) k
  | _=>bad
 eq e ρ _ k h:=by
  cases e with
  | List es p=>simp only[o8 h,bind_assoc]
  | _=>rfl
def aQ(r:Ev)(a:Lc):List (Option Expr)->List Expr->List ((Env->M D)×(Env->M D))
 | some k::b,v::vs=>(r.e a k,r.e a v)::aQ r a b vs
 | _,_=>[]
def ce(q:EvK)(c:Lc){d:Type}:List (Option Expr)->List Expr->Env->(List (D×D)->M d)->M d
 | some x::e,v::vs,ρ,k=>q.e c x ρ λa=>q.e c v ρ λb=>ce q c e vs ρ λps=>k ((a,b)::ps)
 | _,_,_,k=>k []
theorem eJ(R:EvOk T k r)(h:CxOk T k lc X):∀{b:List (Option Expr)} {vs:List Expr},b.all (·.isSome)=true->b.length=vs.length->PPs X pos b vs ((aQ r lc b vs).map λd=>(tD X.K T.cl (xOf X) d.1,tD X.K T.cl (xOf X) d.2))
 | [],[],_,_=>sd
 | [],_::_,_,a=>by simp at a
 | _::_,[],_,a=>by simp at a
 | none::_,_::_,c,_=>by simp at c
 | some k::b,v::vs,c,a=>nR (R.ex h k) (R.ex h v) (eJ R h (by simpa using c) (by simpa using a))
theorem eI(h:EqK r q):∀(c:List (Option Expr)) (vs:List Expr) (ρ:Env) {d:Type} (k:List (D×D)->M d),ce q lc c vs ρ k=bind (B4 (aQ r lc c vs) ρ) k
 | [],_,_,_,_=>rfl
 | none::_,_,_,_,_=>rfl
 | some _::_,[],_,_,_=>rfl
 | some x::c,v::vs,ρ,_,k=>by
  simp only[ce,aQ,B4,h.e,bind_assoc];congr;funext a;congr;funext b;rw[eI h c vs ρ];rfl
def GM:RuE where
 is _ _ e:=match e with
  | .Dict ks vs _=>ks.all (·.isSome)&&decide (ks.length=vs.length)&&decide (0<ks.length)&&decide (ks.length<=15)
  | _=>false
 run r _ _ lc e ρ:=match e with
  | .Dict ks vs _=>bind (B4 (aQ r lc ks vs) ρ) hR
  | _=>bad
 ok e R TX h hi:=by
  cases e with
  | Dict ks vs p=>
   simp only[Gz,Hw]at hi;exact sr (eJ R h hi.1.1.1 hi.1.1.2) hi.1.1.1 hi.1.1.2 (by intro z;rw[z]at hi;simp at hi) hi.2
  | _=>exact f9
 runK q _ _ lc e ρ _ k:=match e with
  | .Dict ks vs _=>ce q lc ks vs ρ λps=>bind (hR ps) k
  | _=>bad
 eq e ρ _ k h:=by
  cases e with
  | Dict ks vs p=>simp only[eI h,bind_assoc]
  | _=>rfl
def rIx:RuE where
 is _ _ e:=match e with
  | .Subscript _ i _=>t9 i
  | _=>false
 run r _ _ lc e ρ:=match e with
  | .Subscript a i _=>bind (r.e lc a ρ) λx=>bind (r.e lc i ρ) λy=>ixD x y
  | _=>bad
 ok e R TX h hi:=by
  cases e with
  | Subscript a i p=>exact xm (R.ex h _) (R.ex h _) (Ei h.u1) (N7 hi)
  | _=>exact f9
 runK q _ _ lc e ρ _ k:=match e with
  | .Subscript a i _=>q.e lc a ρ λx=>q.e lc i ρ λy=>bind (ixD x y) k
  | _=>bad
 eq e ρ _ k h:=by
  cases e with
  | Subscript a i p=>simp only[h.e,bind_assoc]
  | _=>rfl
def gI(r:Ev)(a:Lc)(o:Option Expr)(ρ:Env):M (Option Int):=match o with
 | none=>ret none
 | some e=>bind (r.e a e ρ) U2
def jB(q:EvK)(b:Lc){a:Type}(o:Option Expr)(ρ:Env)(k:Option Int->M a):M a:=match o with
 | none=>k none
 | some e=>q.e b e ρ λd=>bind (U2 d) k
theorem uA(h:EqK r q)(o:Option Expr)(ρ:Env){a:Type}(k:Option Int->M a):jB q lc o ρ k=bind (gI r lc o ρ) k:=by
 cases o with
 | none=>rfl
 | some e=>simp only[jB,gI,h.e,bind_assoc]
theorem kI(R:EvOk T k r)(h:CxOk T k lc X){o:Option Expr}:PO X o (tPt X.K T.cl (xOf X) (gI r lc o)):=by
 cases o with
 | none=>exact uN
 | some e=>exact si (R.ex h e)
def rSl:RuE where
 is _ _ e:=match e with
  | .Subscript _ (.Slice _ _ none _) _=>true
  | _=>false
 run r _ _ lc e ρ:=match e with
  | .Subscript a (.Slice lo b none _) _=>bind (r.e lc a ρ) λd=>bind (gI r lc lo ρ) λl=>bind (gI r lc b ρ) λu=>slD d l u
  | _=>bad
 ok e R TX h b:=by
  split at b
  ·exact Bv (R.ex h _) (kI R h) (kI R h)
  ·cases b
 runK q _ _ lc e ρ _ k:=match e with
  | .Subscript a (.Slice lo b none _) _=>q.e lc a ρ λd=>jB q lc lo ρ λl=>jB q lc b ρ λu=>bind (slD d l u) k
  | _=>bad
 eq e ρ _ k h:=by
  split
  ·simp only[h.e,uA h,bind_assoc]
  ·first
   | rfl
   | (rename_i c;split;exact(c _ _ _ _ _ rfl).elim;rfl)
def GP:RuE where
 is _ _ e:=match e with
  | .Subscript _ (.Slice none none (some _) _) _=>true
  | _=>false
 run r _ _ lc e ρ:=match e with
  | .Subscript a (.Slice none none (some st) _) _=>bind (r.e lc a ρ) λx=>bind (r.e lc st ρ) λy=>pq x y
  | _=>bad
 ok e R TX h hi:=by
  split at hi
  ·exact yh (R.ex h _) (R.ex h _)
  ·cases hi
 runK q _ _ lc e ρ _ k:=match e with
  | .Subscript a (.Slice none none (some st) _) _=>q.e lc a ρ λx=>q.e lc st ρ λy=>bind (pq x y) k
  | _=>bad
 eq e ρ _ k h:=by
  split
  ·simp only[h.e,bind_assoc]
  ·first
   | rfl
   | (rename_i b;split;exact(b _ _ _ _ rfl).elim;rfl)
def BD:RuT where
 is _ _ e:=match e with
  | .UnaryOp .Not _ _=>true
  | _=>false
 run r _ _ lc e ρ:=match e with
  | .UnaryOp .Not a _=>bind (r.t lc a ρ) λq=>ret (!q)
  | _=>bad
 ok e R TX h hi:=by
  split at hi
  ·exact yb (R.tx h _)
  ·cases hi
 runK q _ _ lc e ρ _ k:=match e with
  | .UnaryOp .Not a _=>q.t lc a ρ λc=>k (!c)
  | _=>bad
 eq e ρ _ k h:=by
  split
  ·simp only[h.t,bind_assoc,i3]
  ·first
   | rfl
   | (rename_i b;split;exact(b _ _ rfl).elim;rfl)
def CS:RuT where
 is _ _ e:=match e with
  | .BoolOp _ _ _=>true
  | _=>false
 run r _ _ lc e ρ:=match e with
  | .BoolOp .And es _=>nH r lc es ρ
  | .BoolOp .Or es _=>orB r lc es ρ
  | _=>bad
 ok e R TX h hi:=by
  cases e with
  | BoolOp op es p=>cases op;exact(kT R h).pt;exact(oF R h).pt
  | _=>exact iW
 runK q _ _ lc e ρ _ k:=match e with
  | .BoolOp .And es _=>jQ q lc es ρ k
  | .BoolOp .Or es _=>sf q lc es ρ k
  | _=>bad
 eq e ρ _ k h:=by
  cases e with
  | BoolOp op es p=>cases op;exact jN h es ρ k;exact nG h es ρ k
  | _=>rfl
def Ft:RuT where
 is _ _ e:=match e with
  | .Compare _ [_] [b] _=>j8 b
  | _=>false
 run r _ _ lc e ρ:=match e with
  | .Compare a [op] [b] _=>bind (r.e lc a ρ) λx=>bind (r.e lc b ρ) λy=>bind (b7 op x y) asB
  | _=>bad
 ok e R TX h hi:=by
  split at hi
  ·exact zd (R.ex h _) (R.ex h _) (rX h _) (bc hi)
  ·cases hi
 runK q _ _ lc e ρ _ k:=match e with
  | .Compare a [op] [b] _=>q.e lc a ρ λx=>q.e lc b ρ λy=>bind (b7 op x y) λd=>bind (asB d) k
  | _=>bad
 eq e ρ _ k h:=by
  split
  ·simp only[h.e,bind_assoc]
  ·first
   | rfl
   | (rename_i c;split;exact(c _ _ _ _ rfl).elim;rfl)
def AR:RuT where
 is _ _ e:=C8 e
 run r _ _ lc e ρ:=bind (r.e lc e ρ) j0
 ok e R TX h hi:=rf (R.ex h _) hi
 runK q _ _ lc e ρ _ k:=q.e lc e ρ λd=>bind (j0 d) k
 eq e ρ _ k h:=by simp only[h.e,bind_assoc]
def tQ(Γ:Gm)(x:Str)(p:Nat->Nat->Bool):Bool:=match Γ.gl.lookup x with
 | some (.fn i n)=>p i n
 | _=>false
theorem ju(h:tQ Γ x p=true):∃i n,Γ.gl.lookup x=some (.fn i n)/\p i n=true:=by
 unfold tQ at h;split at h
 ·rename_i i n e;exact⟨i,n,e,h⟩
 ·cases h
def rFn:RuE where
 is Γ lc e:=match e with
  | .Call (.Name x _) es [] _=>n4 x&&glB lc.sc x&&es.all noStar&&!quiet lc&&tQ Γ x λi n=>decide (es.length=n)&&decide (i∉Γ.qs)
  | _=>false
 run r Γ C lc e ρ:=match e with
  | .Call (.Name x _) es [] _=>(match Γ.gl.lookup x with
   | some (.fn i n)=>bind (v8 r lc es ρ) λds=>if ds.length=n then C i ds else bad
   | _=>bad)
  | _=>bad
 ok {T k r Γ C lc X} e R TX h hi:=by
  split at hi
  ·rename_i x p es pos;simp only[Gz,Ix]at hi;obtain⟨⟨⟨⟨w,m⟩,c⟩,f⟩,v⟩:=hi;obtain⟨s,E,D⟩:=o9 w;obtain⟨i,n,l,b⟩:=ju v;simp at b;obtain⟨a,fd,ps,B,A,y,z,u⟩:=(TX.fn x i n l b.2).ex;have F:FnOk X.prog X.w X.K X.mg X.base (CXd X.prog X.w X.K) k a fd ps (spX X.K T.cl n (C i)):=by rw[h.prog,h.w,h.K,h.mg,h.base];exact A
   have d:PySem.W.keepIn X.K (.ref a)=true:=by rw[h.K];exact z
   have j:Binds X.K fd ps []:=by rw[h.K];exact u
   have o:X.mg x=some (.ref a):=by rw[h.mg];exact y
   show PE X _ (tD X.K T.cl (xOf X) λρ=>(match Γ.gl.lookup x with
    | some (.fn i n)=>bind (v8 r lc es ρ) λds=>if ds.length=n then C i ds else bad
    | _=>bad))
   rw[l]
   match es,c,b with
   | [],_,b=>
    have:=b.1.symm;subst this;exact lM F (h.room0 f) (h.gl m) o d j s
   | e::es,c,_=>exact rj F (h.room0 f) (h.gl m) o d j (t0 R h c) s c
  ·cases hi
 runK q Γ C lc e ρ _ k:=match e with
  | .Call (.Name x _) es [] _=>(match Γ.gl.lookup x with
   | some (.fn i n)=>A0 q lc es ρ λds=>if ds.length=n then bind (C i ds) k else bad
   | _=>bad)
  | _=>bad
 eq {r q Γ C lc} e ρ _ k h:=by
  split
  ·rename_i x p es pos;cases Γ.gl.lookup x with
   | none=>rfl
   | some g=>cases g <;> first | rfl | simp only[o8 h,bind_assoc,t8,fy]
  ·first
   | rfl
   | (rename_i t;split;exact(t _ _ _ _ rfl).elim;rfl)
def kj(r:Ev)(Γ:Gm)(a:Lc)(x:Str)(es:List Expr)(ρ:Env):M D:=match Γ.gl.lookup x with
 | some (.err c fs)=>(match fs with
  | []=>bind (v8 r a es ρ) (oa c)
  | [g]=>bind (v8 r a es ρ) (F8 c [g])
  | [g,b]=>bind (v8 r a es ρ) (F8 c [g,b])
  | _=>bad)
 | _=>bad
def uH(q:EvK)(Γ:Gm)(a:Lc)(x:Str)(es:List Expr)(ρ:Env){b:Type}(k:D->M b):M b:=match Γ.gl.lookup x with
 | some (.err c fs)=>(match fs with
  | []=>A0 q a es ρ λds=>bind (oa c ds) k
  | [g]=>A0 q a es ρ λds=>bind (F8 c [g] ds) k
  | [g,d]=>A0 q a es ρ λds=>bind (F8 c [g,d] ds) k
  | _=>bad)
 | _=>bad
theorem rH(h:EqK r q)(x:Str)(es:List Expr)(ρ:Env){α:Type}(k:D->M α):uH q Γ lc x es ρ k=bind (kj r Γ lc x es ρ) k:=by
 unfold uH kj;cases Γ.gl.lookup x with
 | none=>rfl
 | some g=>
  cases g with
  | err c fs=>
   match fs with
   | []=>simp only[o8 h,bind_assoc]
   | [g]=>simp only[o8 h,bind_assoc]
   | [g,g2]=>simp only[o8 h,bind_assoc]
   | _::_::_::_=>rfl
  | _=>rfl
theorem kU{C:Cf}{lc:Lc}{X:Cx}{x:Str}{p pos:Pos}{e:Expr}{es:List Expr}(R:EvOk T k r)(TX:TxOk T Γ k C)(h:CxOk T k lc X)(c1:n4 x=true)(c2:glB lc.sc x=true)(c3:(e::es).all noStar=true)(c4:quiet lc=false) :
  PE X (.Call (.Name x p) (e::es) [] pos) (tDf X.K T.cl (xOf X) (kj r Γ lc x (e::es))):=by
 have bd:PE X (.Call (.Name x p) (e::es) [] pos) (tDf X.K T.cl (xOf X) λρ=>bad):=λ_ _ _ _ _ _ ⟨_,_,_,_,_,z⟩=>z.elim;obtain⟨n1,n2,n3⟩:=o9 c1;have ha:=t0 R h c3;unfold kj;cases e1:Γ.gl.lookup x with
 | none=>exact bd
 | some g=>
  cases g with
  | val d=>exact bd
  | fn i n=>exact bd
  | dct kvs=>exact bd
  | err c fs=>
   obtain⟨ea,na⟩:=TX.err x c fs e1;obtain⟨f,fd,ps,g1,g2,g3,g4⟩:=ea.ex;have xc:XC X.K (T.cl c):=by rw[h.K];exact ea.xc
   have hm:X.mg x=some (.ref (T.cl c)):=by rw[h.mg];exact ea.mg_
   have hr:=(h.room0 c4).mono TX.k3;have hi:PySem.W.findIn X.K (.ref (T.cl c)) "__init__" = some (some (.ref f)):=by rw[h.K];exact g1
   have hf:PySem.W.isFn X.K (.ref f)=true:=by rw[h.K];exact g2
   have hb:Binds X.K fd ps []:=by rw[h.K];exact g3
   match fs,g4,na with
   | [],g4,na=>exact oG xc hi hf (by rw[h.prog,h.w,h.K,h.mg,h.base];exact g4) hr (h.gl c2) hm hb eP ha n1 c3
   | [g],g4,na=>exact oH xc (by rw[h.K];exact na g (by simp)) hi hf (by rw[h.prog,h.w,h.K,h.mg,h.base];exact g4) hr (h.gl c2) hm hb eP ha n1 c3
   | [g,g'],g4,na=>exact oE xc (by rw[h.K];exact na g (by simp)) (by rw[h.K];exact na g' (by simp)) hi hf (by rw[h.prog,h.w,h.K,h.mg,h.base];exact g4) hr (h.gl c2) hm hb eP ha n1 c3
   | _::_::_::_,g4,_=>exact g4.elim
def yo(Γ:Gm)(x:Str):Bool:=match Γ.gl.lookup x with
 | some (.err _ _)=>true
 | _=>false
def Fa:RuE where
 is Γ lc e:=match e with
  | .Call (.Name x _) (a::es) [] _=>n4 x&&glB lc.sc x&&(a::es).all noStar&&!quiet lc&&yo Γ x
  | _=>false
 run r Γ C lc e ρ:=match e with
  | .Call (.Name x _) (a::es) [] _=>kj r Γ lc x (a::es) ρ
  | _=>bad
 ok {T k r Γ C lc X} e R TX h hi:=by
  split at hi
  ·simp only[Gz,Ix]at hi;exact PE.unf (kU R TX h hi.1.1.1.1 hi.1.1.1.2 hi.1.1.2 hi.1.2)
  ·cases hi
 runK q Γ C lc e ρ _ k:=match e with
  | .Call (.Name x _) (a::es) [] _=>uH q Γ lc x (a::es) ρ k
  | _=>bad
 eq {r q Γ C lc} e ρ _ k h:=by
  split
  ·exact rH h _ _ ρ k
  ·first
   | rfl
   | (rename_i b;split;exact(b _ _ _ _ _ rfl).elim;rfl)
def dN(Γ:Gm)(b:Lc)(x:Str)(a:Expr):Bool:=decide (x = "isinstance")&&(Γ.gl.lookup ("isinstance" : Str)).isNone&&glB b.sc "isinstance" && noStar a
theorem hX(h:dN Γ lc x a=true):x = "isinstance"/\Γ.gl.lookup ("isinstance" : Str)=none/\glB lc.sc "isinstance" = true/\noStar a=true:=by
 simp only[dN,Gz,Hw,Ih]at h;exact⟨h.1.1.1,h.1.1.2,h.1.2,h.2⟩
def btys:List (Str×String):=[("int","int"),("bool","bool"),("str","str"),("tuple","tuple"),("list","list"),("dict","dict"),("ValueError","ValueError")]
theorem wJ:∀{x:Str}{t:String},btys.lookup x=some t->bootBuiltins x=some (.type t)/\x∈bnames/\(t∈tys\/t = "ValueError"):=by
 intro x t e;have:∀y∈btys,bootBuiltins y.1=some (.type y.2)/\y.1∈bnames/\(y.2∈tys\/y.2 = "ValueError"):=by
  intro y a;simp only[btys,Ho,IE,KA]at a;rcases a with rfl | rfl | rfl | rfl | rfl | rfl | rfl <;> exact⟨rfl,by decide,by decide⟩
 exact this _ (L2.mem_of_lookup e)
def CG:RuE where
 is Γ lc e:=match e with
  | .Call (.Name x _) [a,.Name y _] [] _=>dN Γ lc x a&&n4 y&&glB lc.sc y&&(Γ.gl.lookup y).isNone
  | _=>false
 run r Γ C lc e ρ:=match e with
  | .Call (.Name _ _) [a,.Name y _] [] _=>(match btys.lookup y with
   | some T=>bind (r.e lc a ρ) λd=>if T∈tys then T0 T (λ_=>false) d else lA (λ_=>true) d
   | none=>bad)
  | _=>bad
 ok {T k r Γ C lc X} e R TX h hi:=by
  split at hi
  ·rename_i x p a y q pos;simp only[Gz,Ih]at hi;obtain⟨⟨⟨c0,w⟩,v⟩,l⟩:=hi;obtain⟨rfl,B,s,i⟩:=hX c0;obtain⟨m,D,n⟩:=o9 w;have j:=TX.none h (by decide) B;show PE X _ (tD X.K T.cl (xOf X) λρ=>(match btys.lookup y with
    | some T=>bind (r.e lc a ρ) λd=>if T∈tys then T0 T (λ_=>false) d else lA (λ_=>true) d
    | none=>bad))
   cases A:btys.lookup y with
   | none=>exact f9
   | some t=>
    obtain⟨o,u,f⟩:=wJ A;by_cases g:t∈tys
    ·have:=jE (pos:=pos) (p:=p) (q:=q) (.inl g) (λc b=>by rw[h.K]at b ⊢;exact TX.subT c b t g) (R.ex h a) (h.gl s) j (h.gl v) (TX.none h u l) o n m i;simp only[if_pos g]at this ⊢;exact this
    ·rcases f with f | f
     ·exact absurd f g
     ·subst f;have:=jE (pos:=pos) (p:=p) (q:=q) (.inr rfl) (λc b=>by rw[h.K]at b ⊢;exact TX.subV c b) (R.ex h a) (h.gl s) j (h.gl v) (TX.none h u l) o n m i;exact this
  ·cases hi
 runK q Γ C lc e ρ _ k:=match e with
  | .Call (.Name _ _) [a,.Name y _] [] _=>(match btys.lookup y with
   | some T=>q.e lc a ρ λd=>if T∈tys then bind (T0 T (λ_=>false) d) k else bind (lA (λ_=>true) d) k
   | none=>bad)
  | _=>bad
 eq {r q Γ C lc} e ρ _ k h:=by
  split
  ·rename_i x p a y q pos;cases btys.lookup y with
   | none=>rfl
   | some T=>simp only[h.e,bind_assoc,t8]
  ·first
   | rfl
   | (rename_i z;split;exact(z _ _ _ _ _ _ rfl).elim;rfl)
def jK(x:Str)(c:Bool)(Γ:Gm)(b:Lc)(e:Expr):Bool:=match e with
 | .Call (.Name f _) (a::es) [] _=>decide (f=x)&&(a::es).all noStar&&(Γ.gl.lookup x).isNone&&glB b.sc x&&!(c&&quiet b)
 | _=>false
def td(g:List D->M D)(r:Ev)(b:Lc)(e:Expr)(ρ:Env):M D:=match e with
 | .Call (.Name _ _) (a::es) [] _=>bind (v8 r b (a::es) ρ) g
 | _=>bad
def wE(g:List D->M D)(q:EvK)(c:Lc)(e:Expr)(ρ:Env){b:Type}(k:D->M b):M b:=match e with
 | .Call (.Name _ _) (a::es) [] _=>A0 q c (a::es) ρ λds=>bind (g ds) k
 | _=>bad
theorem qG(g:List D->M D){r:Ev}{q:EvK}{a:Lc}(e:Expr)(ρ:Env){c:Type}(k:D->M c)(h:EqK r q):wE g q a e ρ k=bind (td g r a e ρ) k:=by
 unfold wE td;split
 ·simp only[o8 h,bind_assoc]
 ·first
  | rfl
  | (rename_i b;split;exact(b _ _ _ _ _ rfl).elim;rfl)
theorem eh{d:Bool}{Γ:Gm}{b:Lc}{e:Expr}(h:jK x d Γ b e=true):∃p a es pos,e=.Call (.Name x p) (a::es) [] pos/\(a::es).all noStar=true/\Γ.gl.lookup x=none/\glB b.sc x=true/\(d=true->quiet b=false):=by
 unfold jK at h;split at h
 ·simp only[Gz,Hw,Ih,Ix]at h;obtain⟨⟨⟨⟨rfl,f⟩,g⟩,i⟩,c⟩:=h;refine⟨_,_,_,_,rfl,f,g,i,λz=>?_⟩;rw[z]at c;simpa using c
 ·cases h
def rBf(x:Str)(id:String)(ld:Bool)(g:List D->M D)(hx:x∈bnames/\x ≠ "__name__"/\(x==("__debug__" : Str))=false) (hv:bootBuiltins x=some (.builtin id))
  (hc:∀{T:Tx}{k:Nat}{lc:Lc}{X:Cx}{cl:ClW}{xe:Addr->Hp->Prop},CxOk T k lc X->(ld=true->X.calm=true)->p0 X (.builtin id) (rPs X.K cl xe g)):RuE where
 is:=jK x ld
 run r _ _ lc e ρ:=td g r lc e ρ
 ok {T k r Γ C lc X} e R TX h hi:=by
  obtain⟨p,a,es,pos,rfl,h1,h2,h3,h4⟩:=eh hi;exact mn (hc h λz=>h.calm (h4 z)) (h.gl h3) (TX.none h hx.1 h2) hv (t0 R h h1) hx.2.1 hx.2.2 h1
 runK q _ _ lc e ρ _ k:=wE g q lc e ρ k
 eq e ρ _ k h:=qG g e ρ k h
def rBt(x:Str)(id:String)(ld:Bool)(g:List D->M D)(hx:x∈bnames/\x ≠ "__name__"/\(x==("__debug__" : Str))=false) (hv:bootBuiltins x=some (.type id))
  (hc:∀{T:Tx}{k:Nat}{lc:Lc}{X:Cx}{cl:ClW}{xe:Addr->Hp->Prop},CxOk T k lc X->(ld=true->X.calm=true)->p0 X (.type id) (rPs X.K cl xe g)):RuE where
 is:=jK x ld
 run r _ _ lc e ρ:=td g r lc e ρ
 ok {T k r Γ C lc X} e R TX h hi:=by
  obtain⟨p,a,es,pos,rfl,h1,h2,h3,h4⟩:=eh hi;exact oh (hc h λz=>h.calm (h4 z)) (h.gl h3) (TX.none h hx.1 h2) hv (t0 R h h1) hx.2.1 hx.2.2 h1
 runK q _ _ lc e ρ _ k:=wE g q lc e ρ k
 eq e ρ _ k h:=qG g e ρ k h
def GO:RuE:=rBf "len" "len" false (one J0) (by decide) PySem.boot_len λ_ _=>DT
def Ba:RuE:=rBt "tuple" "tuple" false (one O6) (by decide) rfl λ_ _=>vO
def Fg:RuE:=rBf "any" "any" true (one uI) (by decide) rfl λ_ a=>ET (a rfl)
def GG:RuE:=rBf "all" "all" true (one oW) (by decide) rfl λ_ a=>Ch (a rfl)
def wZ:RuE where
 is Γ lc e:=match e with
  | .Call (.Name x _) [.Call (.Name y _) [a] [] _] [] _=>decide (x = "list")&&decide (y = "range")&&(Γ.gl.lookup ("list" : Str)).isNone&&(Γ.gl.lookup ("range" : Str)).isNone&&glB lc.sc "list" && glB lc.sc "range" && !quiet lc&&noStar a
  | _=>false
 run r _ _ lc e ρ:=match e with
  | .Call (.Name _ _) [.Call (.Name _ _) [a] [] _] [] _=>bind (r.e lc a ρ) M0
  | _=>bad
 ok {T k r Γ C lc X} e R TX h hi:=by
  split at hi
  ·simp only[Gz,Hw,Ih,Ix]at hi;obtain⟨⟨⟨⟨⟨⟨⟨rfl,rfl⟩,l⟩,b⟩,g⟩,j⟩,i⟩,f⟩:=hi;exact lH (h.calm i) (h.gl g) (TX.none h (by decide) l) (h.gl j) (TX.none h (by decide) b) (R.ex h _) f
  ·cases hi
 runK q _ _ lc e ρ _ k:=match e with
  | .Call (.Name _ _) [.Call (.Name _ _) [a] [] _] [] _=>q.e lc a ρ λd=>bind (M0 d) k
  | _=>bad
 eq e ρ _ k h:=by
  split
  ·simp only[h.e,bind_assoc]
  ·first
   | rfl
   | (rename_i c;split;exact(c _ _ _ _ _ _ _ rfl).elim;rfl)
def DW(n:Nat)(Γ:Gm)(a:Lc)(e:Expr):Bool:=match e with
 | .Call (.Name f _) es [] _=>decide (f = "range")&&decide (es.length=n)&&es.all noStar&&(Γ.gl.lookup ("range" : Str)).isNone&&glB a.sc "range"
 | _=>false
def rgE(n:Nat)(r:Ev)(a:Lc)(e:Expr)(ρ:Env):M (Src×Nat):=match e with
 | .Call (.Name _ _) es [] _=>bind (v8 r a es ρ) λds=>if ds.length=n then u7 ds else bad
 | _=>bad
def rgK(n:Nat)(q:EvK)(b:Lc)(e:Expr)(ρ:Env){a:Type}(k:Src×Nat->M a):M a:=match e with
 | .Call (.Name _ _) es [] _=>A0 q b es ρ λds=>if ds.length=n then bind (u7 ds) k else bad
 | _=>bad
theorem Dq(n:Nat){r:Ev}{q:EvK}{a:Lc}(e:Expr)(ρ:Env){b:Type}(k:Src×Nat->M b)(h:EqK r q):rgK n q a e ρ k=bind (rgE n r a e ρ) k:=by
 unfold rgK rgE;split
 ·simp only[o8 h,bind_assoc,t8,fy]
 ·first
  | rfl
  | (rename_i c;split;exact(c _ _ _ _ rfl).elim;rfl)
def wz:RuI where
 is Γ lc _ e:=DW 1 Γ lc e
 run r _ _ lc e ρ:=rgE 1 r lc e ρ
 ok {T k r Γ C lc X} g e R TX h hi:=by
  unfold DW at hi;split at hi
  ·rename_i f p es pos;simp only[Gz,Hw,Ih]at hi;obtain⟨⟨⟨⟨rfl,c⟩,b⟩,i⟩,d⟩:=hi
   match es,c,b with
   | [a],_,b=>exact gr (h.gl d) (TX.none h (by decide) i) (t0 R h b) (by simpa using b)
  ·cases hi
 runK q _ _ lc e ρ _ k:=rgK 1 q lc e ρ k
 eq e ρ _ k h:=Dq 1 e ρ k h
def CZ:RuI where
 is Γ lc g e:=match g,e with
  | .Tuple _ _ _,.Call (.Name f _) [a] [] _=>decide (f = "enumerate")&&noStar a&&(Γ.gl.lookup ("enumerate" : Str)).isNone&&glB lc.sc "enumerate"
  | _,_=>false
 run r _ _ lc e ρ:=match e with
  | .Call (.Name _ _) [a] [] _=>bind (v8 r lc [a] ρ) λds=>(match ds with
   | [d]=>bi d
   | _=>bad)
  | _=>bad
 ok {T k r Γ C lc X} g e R TX h hi:=by
  split at hi
  ·simp only[Gz,Hw,Ih]at hi;obtain⟨⟨⟨rfl,b⟩,c⟩,j⟩:=hi;exact oz (h.gl j) (TX.none h (by decide) c) (t0 R h (by simpa using b)) b
  ·cases hi
 runK q _ _ lc e ρ _ k:=match e with
  | .Call (.Name _ _) [a] [] _=>A0 q lc [a] ρ λds=>(match ds with
   | [d]=>bind (bi d) k
   | _=>bad)
  | _=>bad
 eq e ρ _ k h:=by
  split
  ·simp only[o8 h,bind_assoc];congr;funext ds
   match ds with
   | []=>rfl
   | [_]=>rfl
   | _::_::_=>rfl
  ·first
   | rfl
   | (rename_i i;split;exact(i _ _ _ _ rfl).elim;rfl)
def Gb:RuI where
 is _ _ _ _:=true
 run r _ _ lc e ρ:=bind (r.e lc e ρ) k4
 ok g e R TX h hi:=tV (R.ex h e)
 runK q _ _ lc e ρ _ k:=q.e lc e ρ λd=>bind (k4 d) k
 eq e ρ _ k h:=by simp only[h.e,bind_assoc]
def gZ(a b:Scope):Scope:={ a with names:=a.names.map λ(n,k)=>if (k==.free&&b.kind==.function&&b.names.lookup n==some .cell)then (n,NameKind.cell)else (n,k) }
theorem lO(a:Scope)(b:PySem.Env):relabel a b=gZ a b.scope:=rfl
def h8(a:Scope):List Str:=(a.names.filter λy=>y.2==.free).map (·.1)
def p9(b:Lc)(a:Scope)(xs:List Str):Bool:=
 decide (a.kind=.function)&&a.names.all (λy=>decide (y.2≠.cell))&&a.names.all (λy=>decide (y.2=.local->a.names.lookup y.1=some .local))
  && a.names.all (λy=>decide (y.2=.free->a.names.lookup y.1=some .free/\(b.sc.names.lookup y.1=some .cell\/b.sc.names.lookup y.1=some .free)))
  && (h8 a).all (λz=>decide (a.names.lookup z=some .free))&&decide ((xs++h8 a).Nodup)&&xs.all (λx=>decide (a.names.lookup x=some .local))&&!quiet b
theorem dq:∀{xs:List α}{ys:List β},e9 f xs=some ys->ys.length=xs.length
 | [],_,e=>by cases e;rfl
 | x::xs,ys,e=>by
  simp only[e9]at e;cases e1:f x with
  | none=>rw[e1]at e;cases e
  | some y=>
   cases e2:e9 f xs with
   | none=>rw[e1,e2]at e;cases e
   | some ys'=>rw[e1,e2]at e;cases e;simp[dq e2]
theorem dt:∀{xs:List α}{ys:List β}{j:Nat}{y:β},e9 f xs=some ys->ys[j]?=some y->∃x,xs[j]?=some x/\f x=some y
 | [],_,_,_,e,h=>by cases e;simp at h
 | x::xs,ys,j,y,e,h=>by
  simp only[e9]at e;cases e1:f x with
  | none=>rw[e1]at e;cases e
  | some z=>
   cases e2:e9 f xs with
   | none=>rw[e1,e2]at e;cases e
   | some ys'=>
    rw[e1,e2]at e;cases e;cases j with
    | zero=>simp at h;subst h;exact⟨x,rfl,e1⟩
    | succ j=>simpa using dt e2 (by simpa using h)
def c8(b:Lc)(a:Scope)(xs:List Str):Lc:=⟨xs++h8 a,gZ a b.sc,false,[]⟩
def testsE(r:Ev)(a:Lc)(ifs:List Expr)(ρ:Env):M Bool:=match ifs with
 | []=>ret true
 | [c]=>r.t a c ρ
 | _=>bad
def testsK(q:EvK)(a:Lc)(ifs:List Expr)(ρ:Env):M Bool:=match ifs with
 | []=>ret true
 | [c]=>q.t a c ρ ret
 | _=>bad
theorem tests_eq(h:EqK r q)(ifs:List Expr)(ρ:Env):testsK q lc ifs ρ=testsE r lc ifs ρ:=by
 match ifs with
 | []=>rfl
 | [c]=>simp only[testsK,testsE,h.t,k9]
 | _::_::_=>rfl
section
variable {T:Tx}{k:Nat}{r:Ev}{q:EvK}{Γ:Gm}{C:Cf}{lc:Lc}{X:Cx}
theorem tests_ok(R:EvOk T k r)(h:CxOk T k lc X){ifs:List Expr}:PTL X ifs (tBo X.K T.cl (xOf X) (testsE r lc ifs)):=by
 match ifs with
 | []=>exact ke
 | [c]=>exact uY (R.tx h c)
 | _::_::_=>exact λ_ _ _ _ _ _ ⟨_,_,_,_,_,p⟩=>p.elim
theorem u9(h:CxOk T k lc X){a:Scope}{xs:List Str}{caps:List Nat}(f:p9 lc a xs=true)(c:e9 (d8 lc.N) (h8 a)=some caps):CompText X.N X.env (xs++h8 a) xs.length caps a/\(xs++h8 a).Nodup/\(∀x∈xs,a.names.lookup x=some .local)/\quiet lc=false/\a.kind=.function:=by
 simp only[p9,Gz,Hw,HL,Ix]at f;obtain⟨⟨⟨⟨⟨⟨⟨b,s⟩,o⟩,r⟩,l⟩,n⟩,t⟩,p⟩:=f;refine⟨⟨b,s,o,λy m q=>?_,λj i e=>?_,?_⟩,n,t,p,b⟩
 ·rw[h.sc];exact r y m q
 ·obtain⟨z,d,g⟩:=dt c e;refine⟨z,by rw[h.N];exact k6 g,?_,l z (HE d)⟩;rw[HC (by omega)];simpa using d
 ·simp[dq c,Nat.add_comm]
theorem f8(h:CxOk T k lc X)(b:quiet lc=false){a:Scope}{xs:List Str}(d:a.kind=.function)(e:(xs++h8 a).Nodup)(pins:List (Addr×Obj))(C:Addr)(c:List Addr)(s:Shared)(H:Hp):CxOk T k (c8 lc a xs) (b6 X pins (xs++h8 a) a C c s H):=
 ⟨h.prog,h.w,h.K,h.mg,h.base,rfl,e,by show relabel a X.env=gZ a lc.sc;rw[lO,h.sc],λ_=>h.calm b,(by have:=h.room;rw[b]at this;exact this),PassesOwn.never,rfl,d,λz=>Bool.noConfusion z⟩
end
def i5(src:Src)(t:D->M Bool)(f:D->M D):Nat->Nat->List D->M (List D)
 | 0,_,_=>bad
 | m+1,i,es=>λS=>match src i S with
  | none=>.bad
  | some none=>.ok es S
  | some (some d)=>bind (t d) (λb=>if b=true then bind (f d) (λy=>if es.length<sizeLine then i5 src t f m (i+1) (es++[y])else bad)else i5 src t f m (i+1) es) S
theorem R4(src:Src)(t:Env->M Bool)(f:Env->M D)(mk:D->Env):∀m i es,J6 src t f mk m i es=i5 src (λd=>t (mk d)) (λd=>f (mk d)) m i es
 | 0,_,_=>rfl
 | m+1,i,es=>by
  funext S;simp only[J6,i5,R4 src t f mk m]
  all_goals (cases src i S with
  | none=>rfl
  | some o=>cases o <;> rfl)
def V7(r:Ev)(c:Lc)(d:Expr)(x:Str)(e:Pos)(b:Expr)(ifs:List Expr)(a:Scope)(ρ:Env):M (List D):=match e9 (d8 c.N) (h8 a) with
 | some caps=>nx (jb caps (r.i c (.Name x e) b) (testsE r (c8 c a [x]) ifs) (r.e (c8 c a [x]) d) ρ)
 | none=>bad
def dM(q:EvK)(c:Lc)(e:Expr)(x:Str)(h:Pos)(b:Expr)(ifs:List Expr)(a:Scope)(ρ:Env){f:Type}(k:List D->M f):M f:=match e9 (d8 c.N) (h8 a) with
 | some caps=>bind (nx (q.i c (.Name x h) b ρ λg=>i5 g.1 (λd=>testsK q (c8 c a [x]) ifs (some d::A4 caps ρ)) (λd=>q.e (c8 c a [x]) e (some d::A4 caps ρ) ret) g.2 0 [])) k
 | none=>bad
theorem eZ(h:EqK r q)(c:Expr)(x:Str)(d:Pos)(b:Expr)(ifs:List Expr)(a:Scope)(ρ:Env){e:Type}(k:List D->M e):dM q lc c x d b ifs a ρ k=bind (V7 r lc c x d b ifs a ρ) k:=by
 unfold dM V7;cases e9 (d8 lc.N) (h8 a) with
 | none=>rfl
 | some caps=>simp only[h.i,h.e,k9,tests_eq h,jb,R4]
def V5(src:Src)(t:D->M Bool)(a:D->M (Src×Nat))(c:D->D->M Bool)(f:D->D->M D):Nat->Nat->List D->M (List D)
 | 0,_,_=>bad
 | m+1,i,es=>λS=>match src i S with
  | none=>.bad
  | some none=>.ok es S
  | some (some d)=>bind (t d) (λb=>if b=true then bind (a d) (λe=>bind (i5 e.1 (c d) (f d) e.2 0 es) (λes'=>V5 src t a c f m (i+1) es'))else V5 src t a c f m (i+1) es) S
theorem bf(src:Src)(t:Env->M Bool)(b:Env->M (Src×Nat))(e:Env->M Bool)(f:Env->M D)(a:Env):∀m i es,O0 src t b e f a m i es=V5 src (λd=>t (some d::none::a)) (λd=>b (some d::none::a)) (λd c=>e (some d::some c::a)) (λd c=>f (some d::some c::a)) m i es
 | 0,_,_=>rfl
 | m+1,i,es=>by
  funext S;simp only[O0,V5,bf src t b e f a m,R4]
  all_goals (cases src i S with
  | none=>rfl
  | some o=>cases o <;> rfl)
def de(r:Ev)(c:Lc)(f:Expr)(x y:Str)(g h:Pos)(e b:Expr)(ifs d:List Expr)(a:Scope)(ρ:Env):M (List D):=match e9 (d8 c.N) (h8 a) with
 | some caps=>nx (cc caps (r.i c (.Name x g) e) (testsE r (c8 c a [x,y]) ifs) (r.i (c8 c a [x,y]) (.Name y h) b) (testsE r (c8 c a [x,y]) d) (r.e (c8 c a [x,y]) f) ρ)
 | none=>bad
def iF(q:EvK)(c:Lc)(g:Expr)(x y:Str)(l m:Pos)(f b:Expr)(ifs e:List Expr)(a:Scope)(ρ:Env){i:Type}(k:List D->M i):M i:=match e9 (d8 c.N) (h8 a) with
 | some caps=>bind (nx (q.i c (.Name x l) f ρ λj=>V5 j.1 (λd=>testsK q (c8 c a [x,y]) ifs (some d::none::A4 caps ρ)) (λd=>q.i (c8 c a [x,y]) (.Name y m) b (some d::none::A4 caps ρ) ret) (λd h=>testsK q (c8 c a [x,y]) e (some d::some h::A4 caps ρ)) (λd h=>q.e (c8 c a [x,y]) g (some d::some h::A4 caps ρ) ret) j.2 0 [])) k
 | none=>bad
theorem pH(h:EqK r q)(e:Expr)(x y:Str)(f g:Pos)(d b:Expr)(ifs c:List Expr)(a:Scope)(ρ:Env){i:Type}(k:List D->M i):iF q lc e x y f g d b ifs c a ρ k=bind (de r lc e x y f g d b ifs c a ρ) k:=by
 unfold iF de;cases e9 (d8 lc.N) (h8 a) with
 | none=>rfl
 | some caps=>simp only[h.i,h.e,k9,tests_eq h,cc,bf]
def aS(r:Ev)(c:Lc)(d:Expr)(x y:Str)(f h g:Pos)(e:Nat)(b:Expr)(ifs:List Expr)(a:Scope)(ρ:Env):M (List D):=match e9 (d8 c.N) (h8 a) with
 | some caps=>nx (cZ caps (r.i c (.Tuple [.Name x f,.Name y h] e g) b) (testsE r (c8 c a [x,y]) ifs) (r.e (c8 c a [x,y]) d) ρ)
 | none=>bad
def hG(q:EvK)(c:Lc)(e:Expr)(x y:Str)(i l j:Pos)(h:Nat)(b:Expr)(ifs:List Expr)(a:Scope)(ρ:Env){f:Type}(k:List D->M f):M f:=match e9 (d8 c.N) (h8 a) with
 | some caps=>bind (nx (q.i c (.Tuple [.Name x i,.Name y l] h j) b ρ λg=>i5 g.1 (λd=>tF (testsK q (c8 c a [x,y]) ifs) (mk2 (A4 caps ρ) d)) (λd=>q.e (c8 c a [x,y]) e (mk2 (A4 caps ρ) d) ret) g.2 0 [])) k
 | none=>bad
theorem pC(h:EqK r q)(c:Expr)(x y:Str)(f i g:Pos)(d:Nat)(b:Expr)(ifs:List Expr)(a:Scope)(ρ:Env){j:Type}(k:List D->M j):hG q lc c x y f i g d b ifs a ρ k=bind (aS r lc c x y f i g d b ifs a ρ) k:=by
 unfold hG aS;cases e9 (d8 lc.N) (h8 a) with
 | none=>rfl
 | some caps=>
  have e:testsK q (c8 lc a [x,y]) ifs=testsE r (c8 lc a [x,y]) ifs:=funext λρ=>tests_eq h ifs ρ;simp only[h.i,h.e,k9,e,cZ,R4]
theorem oZ(R:EvOk T k r)(h:CxOk T k lc X){c:Expr}{x y:Str}{l n m pos:Pos}{i:Nat}{b:Expr}{ifs:List Expr}{a:Scope}(p:p9 lc a [x,y]=true)(t:j8 b=true) :
  PE X (.ListComp c [⟨.Tuple [.Name x l,.Name y n] i m,b,ifs,0⟩] a pos) (tD X.K T.cl (xOf X) λρ=>bind (aS r lc c x y l n m i b ifs a ρ) λds=>ret (.lst ds)):=by
 unfold aS;cases o:e9 (d8 lc.N) (h8 a) with
 | none=>exact f9
 | some caps=>
  obtain⟨q,e,g,f,j⟩:=u9 h p o;refine dJ (lU q (h.calm f) e rfl rfl (g x (by simp)) (g y (by simp)) (PI.x0 (R.ix h _ _)) (λpins C d s H=>?_) (λpins C d s H=>?_) t)
  ·exact PTL.x0 (tests_ok R (f8 h f j e pins C d s H))
  ·exact PE.x0 (R.ex (f8 h f j e pins C d s H) c)
def BH:RuE where
 is _ lc e:=match e with
  | .ListComp _ [⟨.Tuple [.Name x _,.Name y _] _ _,b,_,0⟩] a _=>p9 lc a [x,y]&&j8 b
  | _=>false
 run r _ _ lc e ρ:=match e with
  | .ListComp c [⟨.Tuple [.Name x f,.Name y i] d g,b,ifs,0⟩] a _=>bind (aS r lc c x y f i g d b ifs a ρ) λds=>ret (.lst ds)
  | _=>bad
 ok e R TX h hi:=by
  split at hi
  ·rw[Gz]at hi;exact oZ R h hi.1 hi.2
  ·cases hi
 runK q _ _ lc e ρ _ k:=match e with
  | .ListComp c [⟨.Tuple [.Name x f,.Name y i] d g,b,ifs,0⟩] a _=>hG q lc c x y f i g d b ifs a ρ λds=>k (.lst ds)
  | _=>bad
 eq e ρ _ k h:=by
  split
  ·simp only[pC h,bind_assoc,i3]
  ·first
   | rfl
   | (rename_i j;split;exact(j _ _ _ _ _ _ _ _ _ _ rfl).elim;rfl)
def Al(m:Str)(e:Expr):Bool:=match e with
 | .Call (.Attribute o n b) (a::es) [] c=>decide (n=m)&&u3 o&&(a::es).all noStar&&B0 (a::es)&&(b.endLine==c.line)
 | _=>false
theorem tG(h:Al m e=true):∃o apos a es cpos,e=.Call (.Attribute o m apos) (a::es) [] cpos/\u3 o=true/\(a::es).all noStar=true/\B0 (a::es)=true/\(apos.endLine==cpos.line)=true:=by
 unfold Al at h;split at h
 ·simp only[Gz,Hw]at h;obtain⟨⟨⟨⟨rfl,h1⟩,h2⟩,h3⟩,h4⟩:=h;exact⟨_,_,_,_,_,rfl,h1,h2,h3,h4⟩
 ·cases h
def mtE{c:Type}(g:D->M c)(op:D->List D->M D)(r:Ev)(b:Lc)(e:Expr)(ρ:Env):M D:=match e with
 | .Call (.Attribute o _ _) (a::es) [] _=>bind (r.e b o ρ) λx=>bind (g x) λ_=>bind (v8 r b (a::es) ρ) λds=>op x ds
 | _=>bad
def mtK{d:Type}(g:D->M d)(op:D->List D->M D)(q:EvK)(b:Lc)(e:Expr)(ρ:Env){c:Type}(k:D->M c):M c:=match e with
 | .Call (.Attribute o _ _) (a::es) [] _=>q.e b o ρ λx=>bind (g x) λ_=>A0 q b (a::es) ρ λds=>bind (op x ds) k
 | _=>bad
theorem Ce(g:D->M α)(op:D->List D->M D){r:Ev}{q:EvK}{a:Lc}(e:Expr)(ρ:Env){b:Type}(k:D->M b)(h:EqK r q):mtK g op q a e ρ k=bind (mtE g op r a e ρ) k:=by
 unfold mtK mtE;split
 ·simp only[h.e,o8 h,bind_assoc]
 ·first
  | rfl
  | (rename_i c;split;exact(c _ _ _ _ _ _ rfl).elim;rfl)
def rMt{α:Type}(m:Str)(g:D->M α)(op:D->List D->M D)
  (ok:∀{T:Tx} {k:Nat} {lc:Lc} {X:Cx} {xe:Addr->Hp->Prop} {o a:Expr} {es:List Expr} {apos cpos:Pos} {f:Env->M D} {fs:Env->M (List D)},CxOk T k lc X->PE X o (tD X.K T.cl xe f)->PA X (a::es) (tDs X.K T.cl xe fs)->u3 o=true->(a::es).all noStar=true->B0 (a::es)=true->(apos.endLine==cpos.line)=true->PE X (.Call (.Attribute o m apos) (a::es) [] cpos) (tD X.K T.cl xe λρ=>bind (f ρ) λx=>bind (g x) λ_=>bind (fs ρ) λds=>op x ds)):RuE where
 is _ _ e:=Al m e
 run r _ _ lc e ρ:=mtE g op r lc e ρ
 ok {T k r Γ C lc X} e R TX h hi:=by
  obtain⟨o,apos,a,es,cpos,rfl,c1,c2,c3,c4⟩:=tG hi;exact ok h (R.ex h o) (t0 R h c2) c1 c2 c3 c4
 runK q _ _ lc e ρ _ k:=mtK g op q lc e ρ k
 eq e ρ _ k h:=Ce g op e ρ k h
def uM:RuE:=rMt "extend" lstOf extD λ_ e d c f a b=>kX Kh PySem.F.slot_list_extend PySem.F.type_list_extend gx aV qU e d c f a b
def GE:RuE:=rMt "get" dctOf getDD λh e d c f a b=>kX Lo Iy PySem.F.type_dict_get (qT h.u1) iO oP e d c f a b
def rAppend:RuE:=rMt "append" lstOf P7 λ_ e d c f a b=>lb e d c f a b
def CA:RuS where
 is _ _ e:=match e with
  | .Expr e _=>n9 e
  | _=>false
 run r _ _ lc e ρ:=match e with
  | .Expr e _=>bind (r.e lc e ρ) λ_=>ret (.nx ρ)
  | _=>bad
 ok e R TX h hf hi:=by
  cases e with
  | Expr e p=>exact sI (R.ex h _) hi
  | _=>exact O1
 runK q _ _ lc e ρ _ k:=match e with
  | .Expr e _=>q.e lc e ρ λ_=>k (.nx ρ)
  | _=>bad
 eq e ρ _ k h:=by
  cases e with
  | Expr e p=>simp only[h.e,bind_assoc,i3]
  | _=>rfl
def FQ:RuS where
 is _ _ e:=match e with
  | .Return (some _) _=>true
  | _=>false
 run r _ _ lc e ρ:=match e with
  | .Return (some e) _=>bind (r.e lc e ρ) λd=>ret (.rt d)
  | _=>bad
 ok e R TX h hf hi:=by
  split at hi
  ·exact kZ (R.ex h _)
  ·cases hi
 runK q _ _ lc e ρ _ k:=match e with
  | .Return (some e) _=>q.e lc e ρ λd=>k (.rt d)
  | _=>bad
 eq e ρ _ k h:=by
  split
  ·simp only[h.e,bind_assoc,i3]
  ·first
   | rfl
   | (rename_i a;split;exact(a _ _ rfl).elim;rfl)
def sIf:RuS where
 is _ _ e:=match e with
  | .If _ _ _ _=>true
  | _=>false
 run r _ _ lc e ρ:=match e with
  | .If c a b _=>bind (r.t lc c ρ) λq=>if q=true then N8 r lc a ρ else N8 r lc b ρ
  | _=>bad
 ok e R TX h hf hi:=by
  cases e with
  | If c a b p=>exact yt (R.tx h _) (J7 R h hf) (J7 R h hf)
  | _=>exact O1
 runK q _ _ lc e ρ _ k:=match e with
  | .If c a b _=>q.t lc c ρ λz=>if z=true then k0 q lc a ρ k else k0 q lc b ρ k
  | _=>bad
 eq e ρ _ k h:=by
  cases e with
  | If c a b p=>simp only[h.t,V0 h,bind_assoc,t8]
  | _=>rfl
def U1(a:Lc)(x:Str):Bool:=(d8 a.N x).isSome&&bP a.sc x
def P4(a:Lc)(x:Str)(ρ:Env)(d:D):M Fl:=match d8 a.N x with
 | some i=>ret (.nx (ρ.set i (some d)))
 | none=>bad
def w5(b:Lc)(x:Str)(ρ:Env)(d:D){a:Type}(k:Fl->M a):M a:=match d8 b.N x with
 | some i=>k (.nx (ρ.set i (some d)))
 | none=>bad
theorem aT(a:Lc)(x:Str)(ρ:Env)(d:D){b:Type}(k:Fl->M b):bind (P4 a x ρ d) k=w5 a x ρ d k:=by
 unfold P4 w5;cases d8 a.N x <;> rfl
theorem sR{x:Str}{p pos:Pos}{e:Expr}{f:Env->M D}(h:CxOk T k lc X)(hf:lc.fr=true)(hn:U1 lc x=true)(he:PE X e (tD X.K T.cl xe f))(hc:n9 e=true):PS X (.Assign [.Name x p] e pos) (sD X.K T.cl xe λρ=>bind (f ρ) (P4 lc x ρ)):=by
 rw[U1,Gz,HW]at hn;obtain⟨⟨i,hi⟩,hl⟩:=hn;have:=tX (pos:=pos) (pos':=p) h.nd' (by rw[h.N];exact k6 hi) (by rw[h.sc];exact y4 hl) he hc (.inl (h.fn1 hf));have e:P4 lc x=λρ d=>ret (.nx (ρ.set i (some d))):=by funext ρ d;simp only[P4,hi]
 rw[e];exact this
def GR:RuS where
 is _ lc e:=match e with
  | .Assign [.Name x _] e _=>U1 lc x&&n9 e
  | _=>false
 run r _ _ lc e ρ:=match e with
  | .Assign [.Name x _] e _=>bind (r.e lc e ρ) (P4 lc x ρ)
  | _=>bad
 ok e R TX h hf hi:=by
  split at hi
  ·rw[Gz]at hi;exact sR h hf hi.1 (R.ex h _) hi.2
  ·cases hi
 runK q _ _ lc e ρ _ k:=match e with
  | .Assign [.Name x _] e _=>q.e lc e ρ λd=>w5 lc x ρ d k
  | _=>bad
 eq e ρ _ k h:=by
  split
  ·simp only[h.e,bind_assoc,aT]
  ·first
   | rfl
   | (rename_i a;split;exact(a _ _ _ _ rfl).elim;rfl)
def Df:RuS where
 is _ lc e:=match e with
  | .Assign [.Name x _] (.List es _) _=>U1 lc x&&decide (x∈lc.mu)&&es.all noStar
  | _=>false
 run r _ _ lc e ρ:=match e with
  | .Assign [.Name x _] (.List es _) _=>bind (bind (v8 r lc es ρ) newL) (P4 lc x ρ)
  | _=>bad
 ok e R TX h hf hi:=by
  split at hi
  ·rw[Gz,Gz]at hi;exact sR h hf hi.1.1 (wv (t0 R h hi.2)) rfl
  ·cases hi
 runK q _ _ lc e ρ _ k:=match e with
  | .Assign [.Name x _] (.List es _) _=>A0 q lc es ρ λds=>bind (newL ds) λd=>w5 lc x ρ d k
  | _=>bad
 eq e ρ _ k h:=by
  split
  ·simp only[o8 h,bind_assoc,aT]
  ·first
   | rfl
   | (rename_i a;split;exact(a _ _ _ _ _ rfl).elim;rfl)
def swB(c:Lc)(b:Expr)(a:Scope)(t:Str)(pos:Pos):Bool:=c.sc.names.lookup t==some .local&&pos.line==b.pos.line&&!(a.names.any λ(n,k)=>n==t&&(k==.local||k==.cell))
theorem xq(h:CxOk T k lc X)(d:Expr)(c:List Comprehension)(a:Scope)(x:Str)(pos' pos b:Pos):swapsWith (.ListComp d c a b) (some (.Name x pos')) pos.line X.env=pure (swB lc (.ListComp d c a b) a x pos'):=by
 show pure (X.env.blockKind==.function&&X.env.kindOf x==some .local&&pos'.line==(Expr.ListComp d c a b).pos.line&&!(a.names.any λ(n,k)=>n==x&&(k==.local||k==.cell)))=_;have f:X.env.blockKind=.function:=by unfold PySem.Env.blockKind;rw[h.sc,h.kd];rfl
 have e:X.env.kindOf x=lc.sc.names.lookup x:=by unfold PySem.Env.kindOf;rw[h.sc]
 rw[f,e];rfl
theorem gP{T:Tx}{k i:Nat}{f:Lc}{X:Cx}{x:Str}{p pos:Pos}{e:Expr}{fs:Env->M (List D)}{xe:Addr->Hp->Prop}(r:d8 f.N x=some i)(h:PS X (.Assign [.Name x p] e pos) (qJ (eM X.K T.cl x0 fs) (aK i))):PS X (.Assign [.Name x p] e pos) (sD X.K T.cl xe λρ=>bind (bind (nx (fs ρ)) λds=>ret (.lst ds)) (P4 f x ρ)):=PS.imp h λD σ H ⟨μ,S,ρ,g,n,p⟩=>
 ⟨μ,S,ρ,g,n,p.bind.bind.nx.imp λds S1 a j l c o m ys q b=>by
  have d:=o.ret a j (Lat.refl _ _) c;simp only[P4,r]at d;exact d.ret a j (Lat.refl _ _) c _ ((g.later l).set (.lst q b) i)⟩
def u8(a:Lc):List Expr->Option (List Nat)
 | []=>some []
 | .Name x _::b=>if bP a.sc x=true then (match d8 a.N x,u8 a b with
   | some i,some c=>some (i::c)
   | _,_=>none)else none
 | _=>none
theorem Z9(h:CxOk T k lc X)(hf:lc.fr=true):∀{ts:List Expr}{is:List Nat},u8 lc ts=some is->NamesAt X ts is
 | [],is,e=>by cases e;exact .nil
 | t::ts,is,e=>by
  cases t with
  | Name x p=>
   simp only[u8]at e;by_cases hl:bP lc.sc x=true
   ·simp only[if_pos hl]at e;cases e1:d8 lc.N x with
    | none=>rw[e1]at e;cases e
    | some i=>
     cases e2:u8 lc ts with
     | none=>rw[e1,e2]at e;cases e
     | some is'=>
      rw[e1,e2]at e;cases e;exact .cons (by rw[h.N];exact k6 e1) (by rw[h.sc];exact y4 hl) (.inl (h.fn1 hf)) (Z9 h hf e2)
   ·simp only[if_neg hl]at e;cases e
  | _=>simp only[u8]at e;cases e
def GL:RuS where
 is _ lc e:=match e with
  | .Assign [.Tuple ts _ _] e _=>(u8 lc ts).isSome&&n9 e&&mo e&&!quiet lc
  | _=>false
 run r _ _ lc e ρ:=match e with
  | .Assign [.Tuple ts _ _] e _=>(match u8 lc ts with
   | some is=>bind (r.e lc e ρ) λd=>aR (B2 is) d ρ
   | none=>bad)
  | _=>bad
 ok {T k r Γ C lc X} e R TX h hf hi:=by
  split at hi
  ·rename_i ts n p e pos;simp at hi;obtain⟨⟨⟨h1,h2⟩,h3⟩,h4⟩:=hi;show PS X _ (sD X.K T.cl (xOf X) λρ=>(match u8 lc ts with
    | some is=>bind (r.e lc e ρ) λd=>aR (B2 is) d ρ
    | none=>bad))
   cases e1:u8 lc ts with
   | none=>exact O1
   | some is=>exact uT (h.calm h4) h.nd' (Z9 h hf e1) (R.ex h _) h2 h3
  ·cases hi
 runK q _ _ lc e ρ _ k:=match e with
  | .Assign [.Tuple ts _ _] e _=>(match u8 lc ts with
   | some is=>q.e lc e ρ λd=>bind (aR (B2 is) d ρ) k
   | none=>bad)
  | _=>bad
 eq {r q Γ C lc} e ρ _ k h:=by
  split
  ·rename_i ts n p e pos;cases u8 lc ts with
   | none=>rfl
   | some is=>simp only[h.e,bind_assoc]
  ·first
   | rfl
   | (rename_i hn;split;exact(hn _ _ _ _ _ rfl).elim;rfl)
def DV:RuS where
 is _ _ e:=match e with
  | .Assign [.Subscript _ b _] e _=>n9 e&&t9 b
  | _=>false
 run r _ _ lc e ρ:=match e with
  | .Assign [.Subscript a b _] e _=>bind (r.e lc e ρ) λv=>bind (r.e lc a ρ) λx=>bind (r.e lc b ρ) λy=>bind (S9 x y v) λ_=>ret (.nx ρ)
  | _=>bad
 ok e R TX h hf hi:=by
  split at hi
  ·rw[Gz]at hi;exact sZ h.u1 (R.ex h _) (R.ex h _) (R.ex h _) hi.1 hi.2
  ·cases hi
 runK q _ _ lc e ρ _ k:=match e with
  | .Assign [.Subscript a b _] e _=>q.e lc e ρ λv=>q.e lc a ρ λx=>q.e lc b ρ λy=>bind (S9 x y v) λ_=>k (.nx ρ)
  | _=>bad
 eq e ρ _ k h:=by
  split
  ·simp only[h.e,bind_assoc,i3]
  ·first
   | rfl
   | (rename_i c;split;exact(c _ _ _ _ _ rfl).elim;rfl)
def tgE(b:Lc)(a:Expr):Option (D->Env->Option Env):=match a with
 | .Name x _=>if bP b.sc x=true then (d8 b.N x).map λi=>λd ρ=>some (ρ.set i (some d))else none
 | .Tuple c _ _=>(u8 b c).map B2
 | _=>none
theorem FC(h:CxOk T k lc X)(hf:lc.fr=true)(hq:quiet lc=false){tgt:Expr}{tg:D->Env->Option Env}(e:tgE lc tgt=some tg):PG X tgt (vG X.K T.cl tg):=by
 unfold tgE at e;split at e
 ·rename_i x p;by_cases hl:bP lc.sc x=true
  ·simp only[if_pos hl]at e;cases e1:d8 lc.N x with
   | none=>rw[e1]at e;cases e
   | some i=>rw[e1]at e;cases e;exact sM h.nd' (by rw[h.N];exact k6 e1) (by rw[h.sc];exact y4 hl) (.inl (h.fn1 hf))
  ·simp only[if_neg hl]at e;cases e
 ·rename_i ts n p;cases e1:u8 lc ts with
  | none=>rw[e1]at e;cases e
  | some is=>rw[e1]at e;cases e;exact kc (h.calm hq) h.nd' (Z9 h hf e1)
 ·cases e
def GC:RuS where
 is _ lc e:=match e with
  | .For _ a _ [] _=>j8 a&&!quiet lc
  | _=>false
 run r _ _ lc e ρ:=match e with
  | .For b a body [] _=>(match tgE lc b with
   | some tg=>bind (r.i lc b a ρ) λp=>u4 p.1 tg (N8 r lc body) p.2 0 ρ
   | none=>bad)
  | _=>bad
 ok {T k r Γ C lc X} e R TX h hf hi:=by
  split at hi
  ·rename_i b a body pos;simp at hi;show PS X _ (sD X.K T.cl (xOf X) λρ=>(match tgE lc b with
    | some tg=>bind (r.i lc b a ρ) λp=>u4 p.1 tg (N8 r lc body) p.2 0 ρ
    | none=>bad))
   cases e:tgE lc b with
   | none=>exact O1
   | some tg=>exact wM h.po (h.calm hi.2) (R.ix h _ _) (FC h hf hi.2 e) (J7 R h hf) hi.1
  ·cases hi
 runK q _ _ lc e ρ _ k:=match e with
  | .For b a body [] _=>(match tgE lc b with
   | some tg=>q.i lc b a ρ λp=>bind (u4 p.1 tg (λc=>k0 q lc body c ret) p.2 0 ρ) k
   | none=>bad)
  | _=>bad
 eq {r q Γ C lc} e ρ _ k h:=by
  split
  ·rename_i b a body pos;cases tgE lc b with
   | none=>rfl
   | some tg=>
    have:(λc=>k0 q lc body c ret)=N8 r lc body:=funext λc=>by rw[V0 h,k9]
    simp only[h.i,bind_assoc,this]
  ·first
   | rfl
   | (rename_i d;split;exact(d _ _ _ _ rfl).elim;rfl)
def D4(t:Env->M Bool)(g:Env->M Fl):Nat->Env->M Fl
 | 0,_=>bad
 | m+1,ρ=>bind (t ρ) λq=>if q=true then bind (g ρ) (λb=>match b with
   | .nx a=>D4 t g m a
   | .ct a=>D4 t g m a
   | .bk a=>ret (.nx a)
   | .rt d=>ret (.rt d))else ret (.nx ρ)
theorem mC{X:Cx}{cl:ClW}{xe:Addr->Hp->Prop}{c:Expr}{body:List Stmt}{pos:Pos}{t:Env->M Bool}{g:Env->M Fl}(n:Nat)(hp:PassesOwn (model X.prog X.w) X.A X.env X.xe)(hc:PT X c (tBo X.K cl xe t))(hb:PSs X body (sD X.K cl xe g)) :
  PS X (.While c body [] pos) (sD X.K cl xe λρ=>D4 t g n ρ):=PS.imp (mh hp hc hb) λD σ H ⟨μ,S,ρ,eo,rp,p⟩=>by
 refine⟨λm σ H=>∃μ2 S2 ρ2,EnvOk X.K μ2 H ρ2 σ/\Rep X.K cl μ2 S2 H/\Post X.K cl xe μ2 H (D4 t g m ρ2 S2) (λfl _ μ' H'=>FlOk X.K D fl μ' H'),⟨n,μ,S,ρ,eo,rp,p⟩,?_⟩;rintro m σ2 H2 ⟨μ2,S2,ρ2,eo2,r2,p2⟩;cases m with
 | zero=>exact p2.elim
 | succ m=>
  refine⟨μ2,S2,ρ2,eo2,r2,p2.bind.imp λq S3 μ3 H3 l3 r3 p3=>?_⟩;cases q with
  | false=>exact p3.ret μ3 H3 (Lat.refl _ _) r3 σ2 (eo2.later l3)
  | true=>
   refine uR ?_;rw[if_pos rfl]at p3;refine⟨λσ' H'=>∃μ4 S4 ρ4,EnvOk X.K μ4 H' ρ4 σ'/\Rep X.K cl μ4 S4 H'/\Post X.K cl xe μ4 H' (D4 t g m ρ4 S4) (λfl _ μ' H'=>FlOk X.K D fl μ' H'),λσ' H' q=>⟨m,HS _,q⟩,?_⟩;refine⟨μ3,S3,ρ2,eo2.later l3,r3,p3.bind.imp λfl S4 μ4 H4 l4 r4 p4=>?_⟩;cases fl with
   | nx ρ4=>exact λσ4 eo4=>⟨μ4,S4,ρ4,eo4,r4,p4⟩
   | ct ρ4=>exact λσ4 eo4=>⟨μ4,S4,ρ4,eo4,r4,p4⟩
   | bk ρ4=>exact p4.ret μ4 H4 (Lat.refl _ _) r4
   | rt d=>exact p4.ret μ4 H4 (Lat.refl _ _) r4
def yT:RuS where
 is _ _ e:=match e with
  | .While _ _ [] _=>true
  | _=>false
 run r _ _ lc e ρ:=match e with
  | .While c body [] _=>D4 (r.t lc c) (N8 r lc body) 10000 ρ
  | _=>bad
 ok e R TX h hf hi:=by
  split at hi
  ·exact mC 10000 h.po (R.tx h _) (J7 R h hf)
  ·cases hi
 runK q _ _ lc e ρ _ k:=match e with
  | .While c body [] _=>bind (D4 (λa=>q.t lc c a ret) (λa=>k0 q lc body a ret) 10000 ρ) k
  | _=>bad
 eq {r q Γ C lc} e ρ _ k h:=by
  split
  ·rename_i c body pos;have b:(λa=>k0 q lc body a ret)=N8 r lc body:=funext λa=>by rw[V0 h,k9]
   have f:(λa=>q.t lc c a ret)=r.t lc c:=funext λa=>by rw[h.t,k9]
   rw[b,f]
  ·first
   | rfl
   | (rename_i d;split;exact(d _ _ _ rfl).elim;rfl)
def PB(X:Cx)(cl:ClW)(st:Stmt)(g:Env->M Fl):Prop:=∀(pins:List (Addr×Obj)) (s:Shared) (σ:L2.St) (H:Hp) (D:Ends) (F:Addr->Hp->Prop),L2.Inv X pins σ H s->sD X.K cl F g D σ H ->
 wpAny (model X.prog X.w) X.A (exec st X.env) (SP X pins D) (xU X pins σ F) s
def kC(b:Option Nat)(a:Fl):Fl:=match b with
 | none=>a
 | some i=>match a with
  | .nx ρ=>.nx (ρ.set i none)
  | .bk ρ=>.bk (ρ.set i none)
  | .ct ρ=>.ct (ρ.set i none)
  | .rt d=>.rt d
def pz(a:Option Nat)(n:Nat)(ρ:Env):Env:=match a with
 | none=>ρ
 | some i=>ρ.set i (some (.ref n))
def ap(g:Env->M Fl)(a:Nat->Bool)(b:Option Nat)(h:Env->M Fl)(ρ:Env):M Fl:=λS=>match g ρ S with
 | .exn n S1=>(match S1[n]? with
  | some (.exc c _)=>if a c=true then bind (nx (h (pz b n ρ))) (λd=>ret (kC b d)) S1 else .bad
  | _=>.bad)
 | r=>r
section
variable {X:Cx}{cl:ClW}{e:Expr}{f:Env->M D}{pos:Pos}{st:Stmt}{g:Env->M Fl}
theorem tj(h:PX X cl e f)(m:n9 e=true):PB X cl (.Expr e pos) λρ=>bind (f ρ) λ_=>ret (.nx ρ):=by
 intro pins s σ H D F I ⟨μ,S,ρ,c,l,p⟩;exact wpAny_Expr_any (thn (h pins s σ H (λ_ a=>D.nx σ a) F I ⟨μ,S,ρ,c,l,p.bind.imp λd S1 b a j g n v o=>n.ret b a (Lat.refl _ _) g σ (c.later j)⟩) λv q ⟨x,a,k,g,i⟩=>⟨σ,a,k,i⟩) I.quiet (C9 m)
theorem BC(h:PX X cl e f):PB X cl (.Return (some e) pos) λρ=>bind (f ρ) λd=>ret (.rt d):=by
 intro pins s σ H D F I ⟨μ,S,ρ,j,l,p⟩;exact wpAny_Return_some (thn (h pins s σ H D.rt F I ⟨μ,S,ρ,j,l,p.bind.imp λd S1 a c n b m v i=>m.ret a c (Lat.refl _ _) b v i⟩) λv o ⟨x,c,k,b,g⟩=>⟨x,σ,c,k,b,g⟩)
theorem BE(r:X.N.Nodup)(z:X.N[i]?=some x)(t:Loc X.env.scope x)(h:PX X cl e f)(u:n9 e=true)(o:X.fn x=true\/X.env.scope.names.lookup x=some .local) :
  PB X cl (.Assign [.Name x pos'] e pos) λρ=>bind (f ρ) λd=>ret (.nx (ρ.set i (some d))):=by
 intro pins s σ H D F I ⟨μ,S,ρ,g,q,p⟩;exact wpAny_Assign_Name (thn (h pins s σ H (λv a=>D.nx (σ.set i (some v)) a) F I ⟨μ,S,ρ,g,q,p.bind.imp λd S1 b a k c w v l=>w.ret b a (Lat.refl _ _) c _ ((g.later k).set l i)⟩) λv B ⟨y,a,m,c,j⟩=>G9 m r z t c (λA n=>⟨_,a,n,j⟩) o) (C9 u)
theorem EnvOk.setN{K:PySem.W.Frag}{μ:Mp}{H:Hp}{ρ:Env}{σ:L2.St}(h:EnvOk K μ H ρ σ)(i:Nat):EnvOk K μ H (ρ.set i none) (σ.set i none):=by
 refine⟨by simp[h.1],λj d e=>?_⟩;by_cases hij:i=j
 ·subst hij;have hi:i<ρ.length:=by simpa using (Hb.mp e).1
  rw[HV hi]at e;cases e
 ·rw[HP hij]at e;obtain⟨v,q,r⟩:=h.2 j d e;exact⟨v,by rw[HP hij];exact q,r⟩
def kE(a:Option Nat)(D:Ends):Ends:=match a with
 | none=>D
 | some i=>{ nx:=λσ H=>D.nx (σ.set i none) H,rt:=D.rt,bk:=λσ H=>D.bk (σ.set i none) H,ct:=λσ H=>D.ct (σ.set i none) H }
theorem FlOk.goes{K:PySem.W.Frag}{D:Ends}{ie:Option Nat}{fl:Fl}{μ:Mp}{H:Hp}(h:FlOk K D (kC ie fl) μ H):FlOk K (kE ie D) fl μ H:=by
 cases ie with
 | none=>exact h
 | some i=>
  cases fl with
  | nx ρ=>exact λσ eo=>h _ (eo.setN i)
  | bk ρ=>exact λσ eo=>h _ (eo.setN i)
  | ct ρ=>exact λσ eo=>h _ (eo.setN i)
  | rt d=>exact h
structure TryAt(X:Cx)(nm:Option Str)(ie:Option Nat):Prop where
 nd:X.N.Nodup
 ex:(nm=none/\ie=none)\/∃x i,nm=some x/\ie=some i/\X.N[i]?=some x/\X.env.scope.names.lookup x=some .local
theorem zj{Tn:Str}{c0:Nat}{b0:Stmt}{suite:List Stmt}{hp tp:Pos}{sub:Nat->Bool}{h:Env->M Fl}(hst:X.stack=X.env::X.outer)(hfr:X.env.frame=some X.env.locals)(hb:PB X cl st g)
  (hg:Gl X Tn) (hm:X.mg Tn=some (.ref (cl c0))) (hdb:(Tn==("__debug__" : Str))=false) (MT:XC X.K (cl c0)) (hk:∀c,XC X.K (cl c)->PySem.W.kitOne X.K (.ref (cl c)) (.ref (cl c0))=some (sub c))
  (ta:TryAt X nm ie) (hs:∀v,PSs (fC X v) (b0::suite) (sD X.K cl x0 h)) :
  PS X (.Try [st] [.ExceptHandler (some (.Name Tn tp)) nm (b0::suite) hp] [] [] pos) (sD X.K cl (xOf X) (ap g sub ie h)):=by
 intro pins s σ H D I ⟨μ,S,ρ,eo,rp,p⟩;rw[arm_exec_Try];have hpost:sD X.K cl (λa H1=>∃n S1 μ1,g ρ S=.exn n S1/\Lat μ H μ1 H1/\Rep X.K cl μ1 S1 H1/\μ1.pl[n]?=some a) g D σ H:=⟨μ,S,ρ,eo,rp,by
  unfold ap at p;cases e:g ρ S with
  | ok fl S1=>rw[e]at p;exact p
  | exn n S1=>exact λμ' H' a l r q=>⟨n,S1,μ',rfl,l,r,q⟩
  | bad=>rw[e]at p;exact p⟩
 refine Gx (Iz (wpAny_tryStmt_except (Lk (Hy (hb pins s σ H D _ I hpost) (λf s1 q=>?_) λev s1 fl=>?_))))
 ·cases f with
  | next=>exact JC (JC q)
  | ret v=>exact q
  | brk=>exact q
  | cont=>exact q
 ·obtain⟨a,H1,C,d,tb,he,I1,fx,n,S1,μ1,eg,l1,r1,e1⟩:=fl;subst he;refine kN I1 I1.ok.frames hst hfr fx λH2 s2 T I2 fx2 m2=>L6 I2 fx2 λs3 I3=>?_;obtain⟨l2,r2⟩:=r1.mv I1.hok e1 fx.at_ m2;unfold ap at p;rw[eg]at p;simp only at p;cases eo1:S1[n]? with
  | none=>rw[eo1]at p;exact p.elim
  | some o=>
   rw[eo1]at p;cases o with
   | dcT _=>exact p.elim
   | lst _=>exact p.elim
   | dct _=>exact p.elim
   | exc c fs=>
    simp only at p;by_cases hsub:sub c=true
    case neg=>rw[if_neg hsub]at p;exact p.elim
    rw[if_pos hsub]at p;have ec:=(oy I1.hok (r1.ats n _ a eo1 e1) fx.at_ fx.tb_).1;have hkc:=hk c (ec▸fx.xc);rw[<- ec,hsub]at hkc;have J3:=I3.hushed (.ref a);have p':=(Post.later p (l1.trans l2)).bind.nx (xe':=x0);have post:∀σ',EnvOk X.K μ1 H2 (pz ie n ρ) σ'->sD X.K cl x0 h (kE ie D) σ' H2:=λσ' eo'=>⟨μ1,S1,_,eo',r2,p'.imp λfl S2 μ2 H3 l3 r3 p3=>FlOk.goes (p3.ret μ2 H3 (Lat.refl _ _) r3)⟩;refine wpAny_handleBy_cons (codeAny_handlers_test (D9 J3 hg hm ?_ hdb)) (by intro z;cases z);refine iP J3.kIn fx2.xc MT (fx2.isX (X:=fC X (.ref a)) J3) hkc ?_;rcases ta.ex with ⟨rfl,rfl⟩ | ⟨x,i,rfl,rfl,hi,hl⟩
    ·refine codeAny_handlers_suite (L6 (X:=fC X (.ref a)) J3 fx2 λs4 J4=>?_);refine Hy (hs (.ref a) pins s4 σ H2 (kE none D) J4 (post σ (eo.later (l1.trans l2)))) (λf s5 q=>?_) λ_ _ z=>False.elim z;cases f with
     | next=>obtain⟨σ',H',J,q⟩:=q;exact⟨σ',H',J.unhush I.ok,q⟩
     | brk=>obtain⟨σ',H',J,q⟩:=q;exact⟨σ',H',J.unhush I.ok,q⟩
     | cont=>obtain⟨σ',H',J,q⟩:=q;exact⟨σ',H',J.unhush I.ok,q⟩
     | ret u=>obtain⟨v,σ',H',J,r,q⟩:=q;exact⟨v,σ',H',J.unhush I.ok,r,q⟩
    ·refine codeAny_handlers_suite_as (L6 (X:=fC X (.ref a)) J3 fx2 λs4 J4=>?_);refine G9 (X:=fC X (.ref a)) (v:=.ref a) J4 ta.nd hi (.inl hl) rfl (λs5 J5=>?_) (.inr hl);refine Hy (hs (.ref a) pins s5 _ H2 (kE (some i) D) J5 (post _ ((eo.later (l1.trans l2)).set (.ref e1) i))) (λf s6 q=>?_) λ_ _ z=>False.elim z;cases f with
     | next=>obtain⟨σ',H',J,q⟩:=q;exact Y7 (J.unhush I.ok) ta.nd hi hl λs7 I7=>⟨_,H',I7,q⟩
     | brk=>obtain⟨σ',H',J,q⟩:=q;exact Y7 (J.unhush I.ok) ta.nd hi hl λs7 I7=>⟨_,H',I7,q⟩
     | cont=>obtain⟨σ',H',J,q⟩:=q;exact Y7 (J.unhush I.ok) ta.nd hi hl λs7 I7=>⟨_,H',I7,q⟩
     | ret u=>obtain⟨v,σ',H',J,r,q⟩:=q;exact Y7 (J.unhush I.ok) ta.nd hi hl λs7 I7=>⟨v,_,H',I7,r,q⟩
end
def yP:RuS where
 is Γ lc e:=match e with
  | .Raise (some (.Call (.Name x _) (a::es) [] _)) none _=>n4 x&&glB lc.sc x&&(a::es).all noStar&&!quiet lc
  | _=>false
 run r Γ _ lc e ρ:=match e with
  | .Raise (some (.Call (.Name x _) (a::es) [] _)) none _=>bind (kj r Γ lc x (a::es) ρ) v5
  | _=>bad
 ok {T k r Γ C lc X} e R TX h hf hi:=by
  split at hi
  ·simp only[Gz,Ix]at hi;exact pJ (h.calm hi.2) (kU R TX h hi.1.1.1 hi.1.1.2 hi.1.2 hi.2)
  ·cases hi
 runK q Γ _ lc e ρ _ k:=match e with
  | .Raise (some (.Call (.Name x _) (a::es) [] _)) none _=>uH q Γ lc x (a::es) ρ λd=>bind (v5 d) k
  | _=>bad
 eq {r q Γ C lc} e ρ _ k h:=by
  split
  ·simp only[rH h,bind_assoc]
  ·first
   | rfl
   | (rename_i b;split;exact(b _ _ _ _ _ _ rfl).elim;rfl)
def isR(Γ:Gm):Expr->Bool
 | .Call (.Name x _) (_::_) [] _=>tQ Γ x λi _=>decide (i∉Γ.qs)
 | _=>false
def qS(r:Ev)(Γ:Gm)(C:Cf)(a:Lc)(x:Str)(es:List Expr)(ρ:Env):M D:=if n4 x=true/\glB a.sc x=true/\es.all noStar=true then (match Γ.gl.lookup x with
 | some (.fn i n)=>bind (nx (v8 r a es ρ)) λds=>if ds.length=n then C i ds else bad
 | _=>bad)else bad
def eB(r:Ev)(Γ:Gm)(C:Cf)(a:Lc)(e:Expr)(ρ:Env):M D:=if isR Γ e=true then (match e with
 | .Call (.Name x _) es [] _=>qS r Γ C a x es ρ
 | _=>bad)else nx (r.e a e ρ)
def pZ(q:EvK)(Γ:Gm)(C:Cf)(a:Lc)(x:Str)(es:List Expr)(ρ:Env):M D:=if n4 x=true/\glB a.sc x=true/\es.all noStar=true then (match Γ.gl.lookup x with
 | some (.fn i n)=>bind (nx (A0 q a es ρ ret)) λds=>if ds.length=n then C i ds else bad
 | _=>bad)else bad
def eBK(q:EvK)(Γ:Gm)(C:Cf)(a:Lc)(e:Expr)(ρ:Env):M D:=if isR Γ e=true then (match e with
 | .Call (.Name x _) es [] _=>pZ q Γ C a x es ρ
 | _=>bad)else nx (q.e a e ρ ret)
theorem FI(h:EqK r q)(e:Expr)(ρ:Env):eBK q Γ C lc e ρ=eB r Γ C lc e ρ:=by
 unfold eBK eB pZ qS;simp only[o8 h,h.e,k9]
theorem DU{T:Tx}{k:Nat}{r:Ev}{Γ:Gm}{C:Cf}{lc:Lc}{X:Cx}(R:EvOk T k r)(TX:TxOk T Γ k C)(h:CxOk T k lc X)(hq:quiet lc=false)(e:Expr):PX X T.cl e (eB r Γ C lc e):=by
 have pbad:PX X T.cl e λ_=>bad:=λ_ _ _ _ _ _ _ ⟨_,_,_,_,_,z⟩=>z.elim;unfold eB;by_cases hr:isR Γ e=true
 ·simp only[if_pos hr];unfold isR at hr;split at hr
  ·rename_i x p e0 es pos;obtain⟨i,n,e1,hi⟩:=ju hr;simp only;unfold qS;by_cases hc:n4 x=true/\glB lc.sc x=true/\(e0::es).all noStar=true
   ·simp only[if_pos hc,e1];obtain⟨c1,c2,c3⟩:=hc;obtain⟨n1,n2,n3⟩:=o9 c1;obtain⟨a,fd,ps,f1,f2,f3,f4,f5⟩:=(TX.fn x i n e1 (HR hi)).ex;exact ww f1 (by rw[h.prog,h.w,h.K,h.mg,h.base];exact f2) (h.room0 hq) (h.gl c2) (by rw[h.mg];exact f3) (by rw[h.K];exact f4) (by rw[h.K];exact f5) (PA.x0 (t0 R h.nox c3)) n1 c3
   ·simp only[if_neg hc];exact pbad
  ·cases hr
 ·simp only[if_neg hr];exact PX.of (PE.x0 (R.ex h.nox e))
def bX(g:Expr->Env->M D)(a:Lc)(st:Stmt)(ρ:Env):M Fl:=match st with
 | .Expr e _=>if n9 e=true then bind (g e ρ) λ_=>ret (.nx ρ)else bad
 | .Return (some e) _=>bind (g e ρ) λd=>ret (.rt d)
 | .Assign [.Name x _] e _=>(match d8 a.N x with
  | some i=>if bP a.sc x=true/\n9 e=true then bind (g e ρ) λd=>ret (.nx (ρ.set i (some d)))else bad
  | none=>bad)
 | _=>bad
theorem CQ(h:CxOk T k lc X)(hf:lc.fr=true)(hg:∀e,PX X T.cl e (g e))(st:Stmt):PB X T.cl st (bX g lc st):=by
 have pbad:PB X T.cl st λ_=>bad:=λ_ _ _ _ _ _ _ ⟨_,_,_,_,_,z⟩=>z.elim;unfold bX;split
 ·rename_i e p;by_cases hn:n9 e=true
  ·simp only[if_pos hn];exact tj (hg e) hn
  ·simp only[if_neg hn];exact pbad
 ·exact BC (hg _)
 ·rename_i x p' e p;cases hi:d8 lc.N x with
  | none=>exact pbad
  | some i=>
   by_cases hl:bP lc.sc x=true/\n9 e=true
   ·simp only[if_pos hl];exact BE h.nd' (by rw[h.N];exact k6 hi) (by rw[h.sc];exact y4 hl.1) (hg e) hl.2 (.inl (h.fn1 hf))
   ·simp only[if_neg hl];exact pbad
 ·exact pbad
def nmI(a:Lc)(b:Option Str):Option (Option Nat):=match b with
 | none=>some none
 | some x=>match d8 a.N x with
  | some i=>if a.sc.names.lookup x=some .local then some (some i)else none
  | none=>none
def N4(a:Lc):Lc:=⟨a.N,a.sc,a.fr,"~"::a.mu⟩
theorem CxOk.hushed(h:CxOk T k lc X)(v:Value):CxOk T k (N4 lc) (fC X v):=by
 have a:quiet (N4 lc)=true:=by simp[quiet,N4]
 exact⟨h.prog,h.w,h.K,h.mg,h.base,h.N,h.nd,h.sc,λz=>(by rw[a]at z;exact absurd z (by decide)),⟨λz=>(by rw[a]at z;exact absurd z (by decide)),h.room.dp,h.room.un,h.room.gd⟩,PassesOwn.never,h.fn,h.kd,λ_ z=>(by rw[a]at z;exact absurd z (by decide))⟩
def xH(Γ:Gm)(a:Lc)(e:Stmt):Bool:=match e with
 | .Try [_] [.ExceptHandler (some (.Name b _)) c (_::_) _] [] [] _=>n4 b&&glB a.sc b&&!quiet a&&yo Γ b&&(nmI a c).isSome
 | _=>false
def Es(g:Ev->Gm->Cf->Lc->Expr->Env->M D)(r:Ev)(Γ:Gm)(C:Cf)(b:Lc)(e:Stmt)(ρ:Env):M Fl:=match e with
 | .Try [st] [.ExceptHandler (some (.Name i _)) d (f::a) _] [] [] _=>(match Γ.gl.lookup i,nmI b d with
  | some (.err c0 _),some h=>ap (bX (g r Γ C b) b st) (λc=>Γ.sub c c0) h (N8 r (N4 b) (f::a)) ρ
  | _,_=>bad)
 | _=>bad
def DB(g:EvK->Gm->Cf->Lc->Expr->Env->M D)(q:EvK)(Γ:Gm)(C:Cf)(b:Lc)(e:Stmt)(ρ:Env){f:Type}(k:Fl->M f):M f:=match e with
 | .Try [st] [.ExceptHandler (some (.Name l _)) h (i::a) _] [] [] _=>(match Γ.gl.lookup l,nmI b h with
  | some (.err c0 _),some j=>bind (ap (bX (g q Γ C b) b st) (λc=>Γ.sub c c0) j (λd=>k0 q (N4 b) (i::a) d ret) ρ) k
  | _,_=>bad)
 | _=>bad
def Bq(g:Ev->Gm->Cf->Lc->Expr->Env->M D)(gK:EvK->Gm->Cf->Lc->Expr->Env->M D)(hg:∀{T:Tx}{k:Nat}{r:Ev}{Γ:Gm}{C:Cf}{lc:Lc}{X:Cx},EvOk T k r->TxOk T Γ k C->CxOk T k lc X->quiet lc=false->∀e,PX X T.cl e (g r Γ C lc e))
  (hk:∀{r:Ev}{q:EvK}{Γ:Gm}{C:Cf}{lc:Lc},EqK r q->∀e ρ,gK q Γ C lc e ρ=g r Γ C lc e ρ):RuS where
 is:=xH
 run r Γ C lc e ρ:=Es g r Γ C lc e ρ
 ok {T k r Γ C lc X} e R TX h hf hi:=by
  unfold xH at hi;split at hi
  ·rename_i st Tn tp nm b0 suite hp pos;simp at hi;obtain⟨⟨⟨⟨c1,c2⟩,c3⟩,c4⟩,c5⟩:=hi;obtain⟨n1,n2,n3⟩:=o9 c1;obtain⟨hst,hfr⟩:=h.own hf c3;show PS X _ (sD X.K T.cl (xOf X) λρ=>(match Γ.gl.lookup Tn,nmI lc nm with
    | some (.err c0 _),some ie=>ap (bX (g r Γ C lc) lc st) (λc=>Γ.sub c c0) ie (N8 r (N4 lc) (b0::suite)) ρ
    | _,_=>bad))
   unfold yo at c4;split at c4
   ·rename_i c0 fs e;rw[e];obtain⟨ea,na⟩:=TX.err Tn c0 fs e;cases hi:nmI lc nm with
    | none=>exact O1
    | some ie=>
     have ta:TryAt X nm ie:=by
      refine⟨h.nd',?_⟩;unfold nmI at hi;split at hi
      ·cases hi;exact .inl ⟨rfl,rfl⟩
      ·rename_i x;split at hi
       ·rename_i i e1;split at hi
        ·rename_i hl;cases hi;exact .inr ⟨x,i,rfl,rfl,by rw[h.N];exact k6 e1,by rw[h.sc];exact hl⟩
        ·cases hi
       ·cases hi
     exact zj hst hfr (CQ h hf (hg R TX h c3) st) (h.gl c2) (by rw[h.mg];exact ea.mg_) n1 (by rw[h.K];exact ea.xc) (λc xc=>by rw[h.K]at xc ⊢;exact TX.sub Tn c c0 fs e xc) ta λv=>PSs.x0 (J7 R (h.hushed v) hf)
   ·cases c4
  ·cases hi
 runK q Γ C lc e ρ _ k:=DB gK q Γ C lc e ρ k
 eq {r q Γ C lc} e ρ _ k h:=by
  unfold DB Es;split
  ·rename_i st Tn tp nm b0 suite hp pos;have e1:(λρ'=>k0 q (N4 lc) (b0::suite) ρ' ret)=N8 r (N4 lc) (b0::suite):=funext λρ'=>by rw[V0 h,k9]
   have e2:gK q Γ C lc=g r Γ C lc:=funext λe=>funext λρ=>hk h e ρ;rw[e1,e2];cases Γ.gl.lookup Tn with
   | none=>rfl
   | some z=>
    cases z with
    | err c fs=>cases nmI lc nm <;> rfl
    | _=>rfl
  ·first
   | rfl
   | (rename_i hn;split;exact(hn _ _ _ _ _ _ _ _ rfl).elim;rfl)
def FR:RuS:=Bq (λr Γ C a e ρ=>eB r Γ C a e ρ) (λq Γ C a e ρ=>eBK q Γ C a e ρ) (λR c h b e=>DU R c h b e) (λh e ρ=>FI h e ρ)
structure Fd where
 ps:List Str
 N:List Str
 sc:Scope
 body:List Stmt
 mu:List Str
def V1(N:List Str)(ds:List D):Env:=ds.map some++List.replicate (N.length-ds.length) none
def endD(a:Fl):M D:=match a with
 | .rt d=>ret d
 | .nx _=>ret .non
 | _=>bad
abbrev w6(fd:Fd):Lc:=⟨fd.N,fd.sc,true,fd.mu⟩
def O2(Rs:Rules)(Γ:Gm)(a:List Fd):Nat->Nat->List D->M D
 | 0,_,_=>bad
 | k+1,i,ds=>match a[i]? with
  | none=>bad
  | some fd=>if ds.length=fd.ps.length then bind (N8 (ev Rs Γ (O2 Rs Γ a k) 40) (w6 fd) fd.body (V1 fd.N ds)) endD else bad
structure FnTx(T:Tx)(x:Str)(fd:Fd):Prop where
 ex:∃(f:Addr) (da:FuncData) (qual:Str) (st:Stmt),Fun T.K x qual st f da/\j6 st=fd.body/\c9 st=fd.sc/\FnScope fd.N fd.ps fd.sc/\Binds T.K da fd.ps []/\T.mg x=some (.ref f)
theorem fN{K:PySem.W.Frag}{μ:Mp}{H:Hp}{N:List Str}{ds:List D}{vs:List V}(r:RDs K μ H ds vs):EnvOk K μ H (V1 N ds) (L2.start N vs):=by
 unfold V1 L2.start;refine⟨by simp[r.length],λi d e=>?_⟩;by_cases hi:i<ds.length
 ·rw[Hj (by simpa using hi),HK]at e;cases q:ds[i]? with
  | none=>rw[q]at e;cases e
  | some d'=>
   rw[q]at e;cases e;obtain⟨v,e1,r1⟩:=r.get q;refine⟨v,?_,r1⟩;rw[Hj (by rw[Hc,<- r.length];exact hi),HK,e1];rfl
 ·rw[HC (by simpa using Jv hi),Ip]at e;split at e <;> cases e
section
variable {P:Program}{w:World}{K:PySem.W.Frag}{mg:Str->Option Value}{base:Heap}
theorem nq{x b:Str}{st:Stmt}{f:Addr}{fd:FuncData}{N ps:List Str}{k:Nat}{sp:Sp}(F:Fun K x b st f fd)(S:FnScope N ps (c9 st))(g:∀vs H Q E,sp vs H Q E->vs.length=ps.length)
  (d:∀(c:Value)(A:Around)(a:List PySem.Env)(s:Shared)(H:Hp)(vs:List V)(Q:VK)(E:XK),Room CX.q k (A.deeper (envOfC b (c9 st) s.heap.objs.size f c))->sp vs H Q E ->
   ∃t,PSs (bR CX P w K mg base N b (c9 st) f c A a s H E) (j6 st) t/\t { nx:=λ_ H'=>Q .non H',rt:=Q } (start N vs) H):FnOk P w K mg base CX (k+1) f fd ps sp:=by
 obtain⟨r,od,n,i,o,p,c,q,l,rfl,m,h⟩:=F.ex;exact xj m h S g λA a s H vs Q E j e=>d c A a s H vs Q E j e
theorem Post.fly{α:Type}{cl:ClW}{N:List Str}{qual:Str}{scope:Scope}{f:Addr}{cd:Value}{A:Around}{outer:List PySem.Env}{s:Shared}{H0 H:Hp}{E:XK}{μ:Mp}{r:R α}{G:α->Sto->Mp->Hp->Prop}(p:Post K cl (nD E) μ H r G) :
  Post K cl (xOf (bR (CXd P w K) P w K mg base N qual scope f cd A outer s H0 E)) μ H r G:=by
 cases r with
 | ok a S=>exact p
 | bad=>exact p
 | exn n S=>
  intro μ' H' a l rp e pins σ s' C d tb I fx;refine hJ I I.ok.frames rfl rfl fx λH2 s2 T I2 fx2 m2=>?_;obtain⟨l2,r2⟩:=rp.mv I.hok e fx.at_ m2;exact⟨a,C,d,some T,H2,rfl,I2.os,I2.bare,I2.base,I2.hok,fx2,p μ' H2 a (l.trans l2) r2 e⟩
end
theorem FnOk.unX{P:Program}{w:World}{K:PySem.W.Frag}{mg:Str->Option Value}{base:Heap}{k n:Nat}{f:Addr}{fd:FuncData}{ps:List Str}{cl:ClW}{run:List D->M D}(F:FnOk P w K mg base (CXd P w K) k f fd ps (spX K cl n run)):FnOk P w K mg base (CXq false) k f fd ps (spD K cl n run):=
 ⟨λvs H Q E h=>F.len vs H Q E0 h,λA outer s H args us vs Q E hr e0 hb r h=>IT (F.run A outer s H args us vs Q E0 hr e0 hb r h) λres s' hq=>by
  cases res with
  | ok fl=>cases fl <;> exact hq
  | error e=>obtain⟨_,_,_,_,_,_,_,_,_,_,_,z⟩:=hq;exact z⟩
section
variable {Rs:Rules}{T:Tx}{Γ:Gm}{Tb:List Fd}{k i:Nat}{x qual:Str}{st:Stmt}{f:Addr}{da:FuncData}{fd:Fd}
theorem gE(TX:TxOk T Γ (k+3) (O2 Rs Γ Tb k))(hi:Tb[i]?=some fd)(F:Fun T.K x qual st f da)(h1:j6 st=fd.body)(h2:c9 st=fd.sc)(S:FnScope fd.N fd.ps fd.sc)(hq:quiet (w6 fd)=false) :
  FnOk T.P T.w T.K T.mg T.base (CXd T.P T.w T.K) (k+4) f da fd.ps (spX T.K T.cl fd.ps.length (O2 Rs Γ Tb (k+1) i)):=by
 have S':FnScope fd.N fd.ps (c9 st):=by rw[h2];exact S
 refine nq F S' (λvs H Q E h=>h.1) λcdv A outer s H vs Q E hr hsp=>?_;obtain⟨hl,μ,S0,ds,rds,rp,p⟩:=hsp;have cx:CxOk T (k+3) (w6 fd) (bR (CXd T.P T.w T.K) T.P T.w T.K T.mg T.base fd.N qual (c9 st) f cdv A outer s H E):=⟨rfl,rfl,rfl,rfl,rfl,rfl,S.nd,h2,λ_=>rfl,by rw[hq];exact hr,λe s' z=>wpAny_leaving_again (SameStack.refl _) z,rfl,S.kind,λ_ _=>⟨rfl,rfl⟩⟩;have R:=qH (Rs:=Rs) TX 40;refine⟨_,by rw[h1];exact J7 R cx rfl,?_⟩;refine⟨μ,S0,V1 fd.N ds,fN rds,rp,?_⟩;have hd:ds.length=fd.ps.length:=by rw[rds.length];exact hl
 simp only[O2,hi,if_pos hd]at p;refine Post.fly (p.bind.imp λfl S1 μ1 H1 l1 r1 p1=>?_);cases fl with
 | nx ρ=>exact λσ _=>p1 μ1 H1 (Lat.refl _ _) r1 _ .non
 | rt d=>exact λv rv=>p1 μ1 H1 (Lat.refl _ _) r1 v rv
 | bk ρ=>exact False.elim p1
 | ct ρ=>exact False.elim p1
theorem nW(TX:TxOk T Γ (k+3) (O2 Rs Γ Tb k))(hi:Tb[i]?=some fd)(F:Fun T.K x qual st f da)(h1:j6 st=fd.body)(h2:c9 st=fd.sc)(S:FnScope fd.N fd.ps fd.sc)(hq:quiet (w6 fd)=true) :
  FnOk T.P T.w T.K T.mg T.base (CXq true) (k+4) f da fd.ps (spD T.K T.cl fd.ps.length (O2 Rs Γ Tb (k+1) i)):=by
 have S':FnScope fd.N fd.ps (c9 st):=by rw[h2];exact S
 refine nq F S' (λvs H Q E h=>h.1) λcdv A outer s H vs Q E hr hsp=>?_;obtain⟨hl,μ,S0,ds,rds,rp,p⟩:=hsp;have cx:CxOk T (k+3) (w6 fd) (bR (CXq true) T.P T.w T.K T.mg T.base fd.N qual (c9 st) f cdv A outer s H E).nox:=⟨rfl,rfl,rfl,rfl,rfl,rfl,S.nd,h2,λz=>(by rw[hq]at z;exact absurd z (by decide)),by rw[hq];exact hr,PassesOwn.never,rfl,S.kind,λ_ z=>(by rw[hq]at z;exact absurd z (by decide))⟩;have R:=qH (Rs:=Rs) TX 40;refine⟨_,by rw[h1];exact PSs.nox (PSs.x0 (J7 R cx rfl)),?_⟩;refine⟨μ,S0,V1 fd.N ds,fN rds,rp,?_⟩;have hd:ds.length=fd.ps.length:=by rw[rds.length];exact hl
 simp only[O2,hi,if_pos hd]at p;refine p.bind.imp λfl S1 μ1 H1 l1 r1 p1=>?_;cases fl with
 | nx ρ=>exact λσ _=>p1 μ1 H1 (Lat.refl _ _) r1 _ .non
 | rt d=>exact λv rv=>p1 μ1 H1 (Lat.refl _ _) r1 v rv
 | bk ρ=>exact False.elim p1
 | ct ρ=>exact False.elim p1
theorem wA(d:TxOk T Γ (k+3) (O2 Rs Γ Tb k))(a:Tb[i]?=some fd)(F:Fun T.K x qual st f da)(e:j6 st=fd.body)(b:c9 st=fd.sc)(S:FnScope fd.N fd.ps fd.sc)(c:quiet (w6 fd)=false:=by rfl) :
  FnOk T.P T.w T.K T.mg T.base (CXq false) (k+4) f da fd.ps (spD T.K T.cl fd.ps.length (O2 Rs Γ Tb (k+1) i)):=FnOk.unX (gE d a F e b S c)
def zN(Γ:Gm)(a:List Fd):Bool:=(List.range a.length).all λi=>match a[i]? with
 | some fd=>quiet (w6 fd)==Γ.qs.contains i
 | none=>false
theorem jy(h:zN Γ Tb=true)(hi:Tb[i]?=some fd):quiet (w6 fd)=Γ.qs.contains i:=by
 unfold zN at h;have:=(HL.mp h) i (Ij.mpr (Hb.mp hi).1);rw[hi]at this;simpa using this
end
structure TxSt(T:Tx)(Γ:Gm):Prop where
 blt:∀x∈bnames,Γ.gl.lookup x=none->T.mg x=none
 val:∀x d,Γ.gl.lookup x=some (.val d)->∃u v,T.mg x=some u/\RelV v u/\∀μ H,RD T.K μ H d v
 err:∀x c fs,Γ.gl.lookup x=some (.err c fs)->ErrAt T x c fs/\(∀g∈fs,z9 T.K (T.cl c) g)
 sub:∀x c c0 fs,Γ.gl.lookup x=some (.err c0 fs)->XC T.K (T.cl c)->PySem.W.kitOne T.K (.ref (T.cl c)) (.ref (T.cl c0))=some (Γ.sub c c0)
 subV:∀c,XC T.K (T.cl c)->PySem.W.kitOne T.K (.ref (T.cl c)) (.type "ValueError")=some true
 subT:∀c,XC T.K (T.cl c)->∀t∈tys,PySem.W.kitOne T.K (.ref (T.cl c)) (.type t)=some false
 fld:∀g∈Γ.flds,∀c,XC T.K (T.cl c)->z9 T.K (T.cl c) g
 dct:∀x kvs,Γ.gl.lookup x=some (.dct kvs)->oj T x kvs
def ny(T:Tx)(Γ:Gm)(a:List Fd):Prop:=∀x i n,Γ.gl.lookup x=some (.fn i n)->∃fd,a[i]?=some fd/\fd.ps.length=n/\FnTx T x fd
theorem TxSt.ok(h:TxSt T Γ){k:Nat}{C:Cf}(f:∀x i n,Γ.gl.lookup x=some (.fn i n)->i∉Γ.qs->FnX T (k+3) i n x (C i))(a:∀x i n,Γ.gl.lookup x=some (.fn i n)->i∈Γ.qs->FnAt T (k+3) i n x (C i)):TxOk T Γ (k+3) C:=⟨h.blt,h.val,f,a,h.err,h.sub,h.subV,h.subT,h.fld,h.dct,by omega⟩
theorem vh{T:Tx}{Γ:Gm}{q:List Fd}(h:TxSt T Γ)(fs:ny T Γ q)(k:Nat)(w:zN Γ q=true:=by rfl):TxOk T Γ (k+3) (O2 Rs Γ q k):=by
 induction k with
 | zero=>
  have l:∀x i n,Γ.gl.lookup x=some (.fn i n)->∃(a:Addr) (fd:FuncData) (ps:List Str),ps.length=n/\(∀CX,FnOk T.P T.w T.K T.mg T.base CX 3 a fd ps (spX T.K T.cl n (O2 Rs Γ q 0 i)))/\T.mg x=some (.ref a)/\PySem.W.keepIn T.K (.ref a)=true/\Binds T.K fd ps []:=λx i n e=>by
   obtain⟨fd,d,c,g⟩:=fs x i n e;obtain⟨f,o,j,st,F,_,_,_,b,m⟩:=g.ex;refine⟨f,o,fd.ps,c,λCX=>⟨λvs H Q E h=>by rw[c];exact h.1,λA v s H z us vs Q E _ _ _ _ u=>?_⟩,m,F.kp,b⟩;obtain⟨_,μ,S,ds,_,_,p⟩:=u;exact p.elim
  refine h.ok (λx i n e _=>?_) λx i n e _=>?_
  ·obtain⟨a,fd,ps,d,c,g⟩:=l x i n e;exact⟨a,fd,ps,d,c _,g⟩
  ·obtain⟨a,fd,ps,d,c,g⟩:=l x i n e;exact⟨a,fd,ps,d,FnOk.imp (c _) λvs H Q E ⟨_,μ,S,ds,_,_,p⟩=>p.elim,g⟩
 | succ k y=>
  refine h.ok (λx i n e B=>?_) λx i n e m=>?_
  ·obtain⟨fd,d,c,g⟩:=fs x i n e;subst c;obtain⟨f,o,j,st,F,r,t,S,b,m2⟩:=g.ex;exact⟨f,o,fd.ps,rfl,gE y d F r t S (by rw[jy w d];simpa using B),m2,F.kp,b⟩
  ·obtain⟨fd,d,c,g⟩:=fs x i n e;subst c;obtain⟨f,o,j,st,F,r,t,S,b,m2⟩:=g.ex;exact⟨f,o,fd.ps,rfl,nW y d F r t S (by rw[jy w d];simpa using m),m2,F.kp,b⟩
def runK(Rs:Rules)(Γ:Gm)(C:Cf)(fd:Fd)(ds:List D):M D:=if ds.length=fd.ps.length then k0 (evK Rs Γ C 40) ⟨fd.N,fd.sc,true,fd.mu⟩ fd.body (V1 fd.N ds) endD else bad
theorem b8{a:List Fd}{k i:Nat}{fd:Fd}(h:a[i]?=some fd)(ds:List D):O2 Rs Γ a (k+1) i ds=runK Rs Γ (O2 Rs Γ a k) fd ds:=by
 simp only[O2,h,runK];split
 ·rw[V0 (xw 40)]
 ·rfl
def pw(a:Arguments):List Str:=a.args.map (·.arg)
def xA(ps:List Str)(a:Scope):List Str:=ps++(a.names.filter λy=>(y.2==.local||y.2==.cell)&&!ps.contains y.1).map (·.1)
def j9(st:Stmt)(a:List Str):Fd:=⟨pw (t6 st),xA (pw (t6 st)) (c9 st),c9 st,j6 st,a⟩
def dW(fd:Fd):Bool:=decide (fd.sc.kind=.function)&&!fd.sc.isCoroutine&&!fd.sc.isGenerator&&decide fd.N.Nodup&&decide (fd.N.take fd.ps.length=fd.ps)&&fd.ps.all (λx=>bP fd.sc x)&&fd.sc.names.all (λy=>decide (y.2≠.free))
theorem aj(h:dW fd=true):FnScope fd.N fd.ps fd.sc:=by
 simp only[dW,Gz,Hw,HL,Ix]at h;obtain⟨⟨⟨⟨⟨⟨i,b⟩,c⟩,d⟩,f⟩,e⟩,a⟩:=h;exact⟨i,b,c,d,f,λx g=>y4 (e x g),a⟩
section
variable {K:PySem.W.Frag}{cl:ClW}{xe:Addr->Hp->Prop}{μ:Mp}{H:Hp}{S:Sto}
theorem fJ{p:Addr}{u:HO}{ob:O}{rs:List Addr}{kz:List V}(er:μ.rs=p::rs)(nr:p∉rs)(hp:H p=some (.lst kz))(rp:Rep K cl μ S H)(ho:OAt K cl ⟨μ.pl++[p],rs⟩ (upd H p u) p ob):Rep K cl ⟨μ.pl++[p],rs⟩ (S++[ob]) (upd H p u):=by
 have np:p∉μ.pl:=(rp.res p (by rw[er];exact Hf)).1;have hp':∀(n:Nat)(a:Addr),μ.pl[n]?=some a->(μ.pl++[p])[n]?=some a:=λn a e=>by rw[Hj (Hb.mp e).1];exact e
 have ho':∀a w,H a=some w->a∉μ.pl->a∉μ.rs->upd H p u a=some w/\a∉(⟨μ.pl++[p],rs⟩:Mp).pl/\a∉(⟨μ.pl++[p],rs⟩:Mp).rs:=λa w e n1 n2=>by
  have ne:a≠p:=λz=>n2 (by rw[er,z];exact Hf);refine⟨by rw[a9 ne];exact e,λz=>?_,λz=>n2 (by rw[er];exact Hh _ z)⟩;rcases Hz.mp z with z | z
  ·exact n1 z
  ·exact ne (Hm.mp z)
 refine⟨by simp[rp.len],?_,λn o a e1 e2=>?_,λa m=>?_⟩
 ·show(μ.pl++[p]).Nodup;rw[Kn];exact⟨rp.nd,by simp,λa m b m2=>by rw[Hm.mp m2];rintro rfl;exact np m⟩
 ·have e2:(μ.pl++[p])[n]?=some a:=e2;by_cases hn:n<S.length
  ·rw[Hj hn]at e1;rw[Hj (by rw[rp.len];exact hn)]at e2;have h:=rp.ats n o a e1 e2;have ka:upd H p u a=H a:=a9 λz=>np (z▸HE e2);cases o with
   | lst ds=>obtain⟨xs,e,q⟩:=h;exact⟨xs,by rw[ka];exact e,q.move hp' ho'⟩
   | dct kvs=>obtain⟨xs,e,q⟩:=h;exact⟨xs,by rw[ka];exact e,Paired.mono (λ_ _ ⟨z,w⟩=>⟨z,w.move hp' ho'⟩) q⟩
   | dcT kvs=>obtain⟨es,e,h1,h2,q⟩:=h;exact⟨es,by rw[ka];exact e,h1,h2,Paired.mono (λ_ _ ⟨b,v,z,a1,a2,a3,a4,a5,a6⟩=>⟨b,v,z,a1,a2.move hp' ho',a3,a4,a5,a6.move hp' ho'⟩) q⟩
   | exc c fs=>
    obtain⟨xc,gs,q,fr,h⟩:=h;refine⟨xc,gs,Paired.mono (λ_ _ ⟨z,w⟩=>⟨z,w.move hp' ho'⟩) q,fr,?_⟩;rcases h with ⟨z,e⟩ | ⟨d,h1,h2,e,e3⟩
    ·exact .inl ⟨z,by rw[ka];exact e⟩
    ·have ne:d≠p:=kY e3 hp (by intro z;cases z);refine .inr ⟨d,h1,λz=>?_,by rw[ka];exact e,by rw[a9 ne];exact e3⟩;rcases Hz.mp z with z | z
     ·exact h2 z
     ·exact ne (Hm.mp z)
  ·have hn2:n=S.length:=by
    have:=(Hb.mp e1).1;simp at this;omega
   subst hn2;rw[<- rp.len]at e2;simp at e1 e2;subst e1;subst e2;exact ho
 ·have m:a∈rs:=m;obtain⟨h1,w,h2⟩:=rp.res a (by rw[er];exact Hh _ m);have ne:a≠p:=λz=>nr (z▸m);refine⟨λz=>?_,w,by rw[a9 ne];exact h2⟩;rcases Hz.mp z with z | z
  ·exact h1 z
  ·exact ne (Hm.mp z)
theorem fY(h:H p=some u):upd H p u=H:=by
 funext a;by_cases e:a=p
 ·rw[e,b9,h]
 ·rw[a9 e]
end
theorem wt(m:M (List D))(S:Sto):bind (nx m) newL S=nx (bind m newL) S:=by
 cases h:m S with
 | ok a S1=>
  have e2:nx m S=.ok a S1:=by unfold L3.nx;rw[h]
  have e3:bind (nx m) newL S=newL a S1:=by unfold L3.bind;rw[e2]
  have e:bind m newL S=newL a S1:=by unfold L3.bind;rw[h]
  rw[e3];unfold L3.nx;rw[e];simp only[newL];split <;> rfl
 | exn n S1=>
  have e:bind m newL S=.exn n S1:=by unfold L3.bind;rw[h]
  have e2:nx m S=.bad:=by unfold L3.nx;rw[h]
  have e3:bind (nx m) newL S=.bad:=by unfold L3.bind;rw[e2]
  rw[e3];unfold L3.nx;rw[e]
 | bad=>
  have e:bind m newL S=.bad:=by unfold L3.bind;rw[h]
  have e2:nx m S=.bad:=by unfold L3.nx;rw[h]
  have e3:bind (nx m) newL S=.bad:=by unfold L3.bind;rw[e2]
  rw[e3];unfold L3.nx;rw[e]
def rGd(K:PySem.W.Frag)(a:Addr):R2:=λx y H Q=>x=.ref a/\∃z u v,y=.str z/\PySem.W.nsIn K a z=some (some u)/\RelV v u/\Q v H
theorem FD(g:X.K.lookup a=some ⟨.type "dict",none,.dict es n,#[]⟩) (k:PySem.W.KeysLit X.w.params es.toList):IxR X (rGd X.K a):=by
 intro d c pins s σ H x y v u Q I i j h hs;obtain⟨rfl,z,r,m,rfl,e,p,q⟩:=h;cases i;obtain⟨t,rfl⟩:=j;have f:=LG (prog:=X.prog) (λb o l=>I.kIn b o l) g k;exact tail_any f.typeIs slot_dict_getitem.lookup (wpAny_getItem_of (LP X.prog X.w z t) f (LM g e) ⟨m,H,I.tok _,p,q⟩) hs
def gdD(a:List (Str×D))(y:D):M D:=match y with
 | .str z=>(match a.lookup z with
  | some d=>ret d
  | none=>bad)
 | _=>bad
def aU(Γ:Gm)(x:Str):Bool:=match Γ.gl.lookup x with
 | some (.dct _)=>true
 | _=>false
def gdE(r:Ev)(Γ:Gm)(b:Lc)(x:Str)(i:Expr)(ρ:Env):M D:=match Γ.gl.lookup x with
 | some (.dct a)=>bind (r.e b i ρ) (gdD a)
 | _=>bad
def gdK(q:EvK)(Γ:Gm)(c:Lc)(x:Str)(i:Expr)(ρ:Env){b:Type}(k:D->M b):M b:=match Γ.gl.lookup x with
 | some (.dct a)=>q.e c i ρ λd=>bind (gdD a d) k
 | _=>bad
theorem Ef(h:EqK r q)(x:Str)(i:Expr)(ρ:Env){α:Type}(k:D->M α):gdK q Γ lc x i ρ k=bind (gdE r Γ lc x i ρ) k:=by
 unfold gdK gdE;cases Γ.gl.lookup x with
 | none=>rfl
 | some g=>
  cases g with
  | dct kvs=>simp only[h.e,bind_assoc]
  | _=>rfl
theorem Dn{C:Cf}{lc:Lc}{X:Cx}{x:Str}{p pos:Pos}{i:Expr}(R:EvOk T k r)(TX:TxOk T Γ k C)(h:CxOk T k lc X)(c1:n4 x=true)(c2:glB lc.sc x=true)(c3:t9 i=true):PE X (.Subscript (.Name x p) i pos) (tD X.K T.cl (xOf X) (gdE r Γ lc x i)):=by
 obtain⟨n1,n2,n3⟩:=o9 c1;unfold gdE;cases e1:Γ.gl.lookup x with
 | none=>exact f9
 | some g=>
  cases g with
  | dct kvs=>
   obtain⟨a,es,n,hm,hl,hk,_,_,hv⟩:=TX.dct x kvs e1;refine PE.imp (yB (FD (by rw[h.K];exact hl) (by rw[h.w];exact hk)) (Z5 (v:=.ref a) (h.gl c2) (by rw[h.mg];exact hm) rfl n1) (R.ex h i) (N7 c3)) λσ H Q ⟨μ,S,ρ,eo,rp,q⟩=>?_;refine⟨μ,S,ρ,eo,rp,q.bind.imp λy S2 μ2 H2 l2 r2 p2 u ru=>?_⟩;cases y with
   | str z=>
    cases ru;cases e2:kvs.lookup z with
    | none=>simp only[gdD,e2]at p2;exact p2.elim
    | some d=>
     simp only[gdD,e2]at p2;obtain⟨u,v,f1,f2,f3⟩:=hv z d e2;exact⟨rfl,z,u,v,rfl,by rw[h.K];exact f1,f2,p2 μ2 H2 (Lat.refl _ _) r2 v (by rw[h.K];exact f3 μ2 H2)⟩
   | _=>exact p2.elim
  | val d=>exact f9
  | fn i n=>exact f9
  | err c fs=>exact f9
def ER:RuE where
 is Γ lc e:=match e with
  | .Subscript (.Name x _) i _=>n4 x&&glB lc.sc x&&t9 i&&aU Γ x
  | _=>false
 run r Γ C lc e ρ:=match e with
  | .Subscript (.Name x _) i _=>gdE r Γ lc x i ρ
  | _=>bad
 ok {T k r Γ C lc X} e R TX h hi:=by
  split at hi
  ·simp at hi;exact Dn R TX h hi.1.1.1 hi.1.1.2 hi.1.2
  ·cases hi
 runK q Γ C lc e ρ _ k:=match e with
  | .Subscript (.Name x _) i _=>gdK q Γ lc x i ρ k
  | _=>bad
 eq {r q Γ C lc} e ρ _ k h:=by
  split
  ·exact Ef h _ _ ρ k
  ·first
   | rfl
   | (rename_i a;split;exact(a _ _ _ _ rfl).elim;rfl)
def X8(i:Nat)(ρ:Env):M D:=match ρ[i]? with
 | some (some d)=>ret d
 | _=>bad
def iQ(f:Int->Int->Int)(x y:D):M D:=match x,y with
 | .int i,.int j=>ret (.int (f i j))
 | _,_=>bad
section
variable {X:Cx}{cl:ClW}{xe:Addr->Hp->Prop}{e:Expr}{f:Env->M D}{pos:Pos}
theorem vg{op:Operator}{g:Int->Int->Int}(ho:PIp X op (ipI g))(hN:X.N.Nodup)(hi:X.N[i]?=some x)(hx:Loc X.env.scope x)(he:PE X e (tD X.K cl xe f))(hf:X.fn x=true\/X.env.scope.names.lookup x=some .local) :
  PS X (.AugAssign (.Name x pos') op e pos) (sD X.K cl xe λρ=>bind (X8 i ρ) λa=>bind (f ρ) λb=>bind (iQ g a b) λd=>ret (.nx (ρ.set i (some d)))):=PS.imp (Be hN hi hx he ho hf) λD σ H ⟨μ,S,ρ,eo,rp,p⟩=>by
 have p:Post X.K cl xe μ H (bind (X8 i ρ) (λa=>bind (f ρ) λb=>bind (iQ g a b) λd=>ret (Fl.nx (ρ.set i (some d)))) S) _:=p;cases q:ρ[i]? with
 | none=>
  have e0:X8 i ρ=bad:=by unfold X8;rw[q]
  rw[e0]at p;exact p.elim
 | some o=>
  cases o with
  | none=>
   have e0:X8 i ρ=bad:=by unfold X8;rw[q]
   rw[e0]at p;exact p.elim
  | some a=>
   have e0:X8 i ρ=ret a:=by unfold X8;rw[q]
   rw[e0]at p;have p:Post X.K cl xe μ H (bind (f ρ) (λb=>bind (iQ g a b) λd=>ret (Fl.nx (ρ.set i (some d)))) S) _:=p;obtain⟨v,e1,rv⟩:=eo.2 i a q;refine⟨v,e1,μ,S,ρ,eo,rp,p.bind.imp λb S1 μ1 H1 l1 r1 p1 w rw'=>?_⟩;have rv1:=rv.later l1;cases a with
   | int i1=>
    cases b with
    | int j1=>
     cases rv1;cases rw';have p1:=p1;exact⟨i1,j1,rfl,rfl,p1 μ1 H1 (Lat.refl _ _) r1 _ ((eo.later l1).set (.int _) i)⟩
    | _=>exact False.elim p1
   | _=>exact False.elim p1
end
def tP(c:Lc)(x:Str)(ρ:Env)(m:M D):M Fl:=match d8 c.N x with
 | some i=>bind (X8 i ρ) λa=>bind m λb=>bind (iQ (λi j=>i+j) a b) λd=>ret (.nx (ρ.set i (some d)))
 | none=>bad
def ye(b:Lc)(x:Str)(ρ:Env){a:Type}(k:Nat->D->M a):M a:=match d8 b.N x with
 | some i=>(match ρ[i]? with
  | some (some d)=>k i d
  | _=>bad)
 | none=>bad
theorem zp(c:Lc)(x:Str)(ρ:Env)(m:M D){e:Type}(k:Fl->M e):bind (tP c x ρ m) k=ye c x ρ λi a=>bind m λb=>bind (iQ (λi j=>i+j) a b) λd=>k (.nx (ρ.set i (some d))):=by
 unfold tP ye;cases d8 c.N x with
 | none=>rfl
 | some i=>
  cases q:ρ[i]? with
  | none=>simp only[X8,q];rfl
  | some o=>
   cases o with
   | none=>simp only[X8,q];rfl
   | some a=>simp only[X8,q,bind_assoc,i3]
def FP:RuS where
 is _ lc e:=match e with
  | .AugAssign (.Name x _) .Add _ _=>U1 lc x
  | _=>false
 run r _ _ lc e ρ:=match e with
  | .AugAssign (.Name x _) .Add e _=>tP lc x ρ (r.e lc e ρ)
  | _=>bad
 ok e R TX h hf c:=by
  split at c
  ·rename_i x p e pos;rw[U1,Gz,HW]at c;obtain⟨⟨i,c⟩,g⟩:=c;have:=vg (pos:=pos) (pos':=p) zf h.nd' (by rw[h.N];exact k6 c) (by rw[h.sc];exact y4 g) (R.ex h e) (.inl (h.fn1 hf));simp only[tP,c];exact this
  ·cases c
 runK q _ _ lc e ρ _ k:=match e with
  | .AugAssign (.Name x _) .Add e _=>ye lc x ρ λi a=>q.e lc e ρ λb=>bind (iQ (λi j=>i+j) a b) λd=>k (.nx (ρ.set i (some d)))
  | _=>bad
 eq e ρ _ k h:=by
  split
  ·simp only[zp,h.e]
  ·first
   | rfl
   | (rename_i f;split;exact(f _ _ _ _ rfl).elim;rfl)
def cn(m a d:D):M D:=
 bind (O5 d (.int 1000003)) λq=>bind (L0 (.int 31) a) λh=>bind (L0 h a) λs=>bind (n8 q s) λn=>bind (L0 (.int 7) a) λr=>bind (n8 n r) λp=>bind (n8 p (.int 11)) λe=>bind (L0 e (.int 48271)) λi=>bind (O5 i (.int 2147483647)) λc=>
 bind (E7 c (.int 64)) λj=>bind (L0 j (.int 69621)) λl=>bind (L0 (.int 7919) a) λf=>bind (n8 l f) λk=>bind (O5 k (.int 2147483587)) λb=>
 bind (E7 b (.int 64)) λg=>bind (O5 g m) λo=>ret o
def cz(p m b cells a:D)(z:Bool):M D:=
 if z=true then bind (E7 a m) λv=>bind (S9 p (.str "left") v) λ_=>bind (O5 a m) λd=>ret d
 else cn m b a
def G0(p m b cells a:D):M D:=
 bind (ixD p (.str "at")) λx=>bind (n8 x (.int 1)) λv=>bind (S9 p (.str "at") v) λ_=>
 bind (wN (.int 10) (.int 18)) λy=>bind (b7 .GtE a y) λd=>bind (asB d) λc=>
 if c=true then bind (ixD p (.str "at")) λx=>bind (J0 cells) λy=>bind (b7 .LtE x y) λd=>bind (asB d) λz=>cz p m b cells a z
 else cz p m b cells a false
def jF(p m:D):M D:=
 bind (ixD p (.str "turn")) λx=>bind (n8 x (.int 1)) λa=>bind (S9 p (.str "turn") a) λ_=>
 bind (ixD p (.str "left")) λx=>bind (b7 .Gt x (.int 0)) λd=>bind (asB d) λz=>
 if z=true then bind (ixD p (.str "left")) λx=>bind (O5 x m) λb=>bind (ixD p (.str "left")) λx=>bind (E7 x m) λv=>bind (S9 p (.str "left") v) λ_=>ret b
 else bind (ixD p (.str "cells")) λcells=>bind (J0 cells) λx=>bind (b7 .Gt x (.int 0)) λd=>bind (asB d) λz=>
  if z=true then bind (ixD p (.str "at")) λx=>bind (J0 cells) λy=>bind (O5 x y) λi=>bind (ixD cells i) λc=>G0 p m a cells c
  else G0 p m a cells (.int 0)
theorem a8{k:α->M β}{S S':Sto}{a:α}(e:m S=.ok a S'):bind m k S=k a S':=by unfold bind;rw[e]
theorem Y3{d:D}(h:S[p]?=some (.dct kvs))(e:X7 kvs (.inr x)=some d):ixD (.ref p) (.str x) S=.ok d S:=by
 simp only[ixD,h,A6,IY,e,Y1,ret]
theorem bD{v:D}(h:S[p]?=some (.dct kvs))(a:kvs.length<sizeLine)(e:ly kvs (.inr x) v=kvs'):S9 (.ref p) (.str x) v S=.ok .non (S.set p (.dct kvs')):=by
 simp only[S9,h,A6,if_pos a,e]
theorem nZ{S:Sto}{p:Nat}{o o':O}(h:S[p]?=some o):(S.set p o')[p]?=some o':=HV (Hb.mp h).1
def j4(ns:List Int)(a l t:Int):O:=.dct [(.inr "cells",.lst (ns.map D.int)),(.inr "at",.int a),(.inr "left",.int l),(.inr "turn",.int t)]
section
variable {S:Sto}{p:Nat}{ns:List Int}{a l t:Int}(h:S[p]?=some (j4 ns a l t))
include h
theorem vB:ixD (.ref p) (.str "cells") S=.ok (.lst (ns.map D.int)) S:=Y3 h rfl
theorem yX:ixD (.ref p) (.str "at") S=.ok (.int a) S:=Y3 h rfl
theorem hU:ixD (.ref p) (.str "left") S=.ok (.int l) S:=Y3 h rfl
theorem Ad:ixD (.ref p) (.str "turn") S=.ok (.int t) S:=Y3 h rfl
theorem DQ(v:Int):S9 (.ref p) (.str "at") (.int v) S=.ok .non (S.set p (j4 ns v l t)):=bD h (by show 4<sizeLine;decide) rfl
theorem ir(v:Int):S9 (.ref p) (.str "left") (.int v) S=.ok .non (S.set p (j4 ns a v t)):=bD h (by show 4<sizeLine;decide) rfl
theorem tH(v:Int):S9 (.ref p) (.str "turn") (.int v) S=.ok .non (S.set p (j4 ns a l v)):=bD h (by show 4<sizeLine;decide) rfl
end
theorem br(i j:Int)(S:Sto):n8 (.int i) (.int j) S=.ok (.int (i+j)) S:=rfl
theorem bL{i j:Int}(h:0<j)(S:Sto):O5 (.int i) (.int j) S=.ok (.int (i % j)) S:=by simp only[O5,if_pos h,ret]
theorem cY{i j:Int}(h:0<j)(b:j<1073741824)(S:Sto):E7 (.int i) (.int j) S=.ok (.int (i / j)) S:=by
 have a:pX i j:=⟨h,b⟩;simp only[E7,if_pos a,ret]
theorem cV(h:CMul i j)(S:Sto):L0 (.int i) (.int j) S=.ok (.int (i * j)) S:=by simp only[L0,if_pos h,ret]
theorem bK(ns:List Int)(S:Sto):J0 (.lst (ns.map D.int)) S=.ok (.int ns.length) S:=by
 show R.ok (D.int ((ns.map D.int).length:Nat)) S=_;rw[Hc]
theorem tU{ns:List Int}{a:Int}(f:0<=a)(g:0<ns.length)(S:Sto):∃z:Int,ixD (.lst (ns.map D.int)) (.int (a % (ns.length:Int))) S=.ok (.int z) S:=by
 have c:(0:Int)<(ns.length:Int):=by omega
 have e:=KD a (Lz c);have h:=Ke a c;obtain⟨j,d⟩:=Lp e;have b:j<ns.length:=by omega
 refine⟨ns[j],?_⟩;rw[d];show Y1 (atI (ns.map D.int) (j:Int)) S=_;rw[Y6 (by rw[HK,Hi b];rfl)];rfl
theorem iD(a:0<m)(d:0<=t)(b:t<2000000)(S:Sto):∃r:Int,cn (.int m) (.int t) (.int c) S=.ok (.int r) S/\0<=r/\r<m:=by
 unfold cn;rw[a8 (bL (by decide) S),a8 (cV (.inl ⟨by decide,by decide⟩) S),a8 (cV (.inr ⟨by omega,by omega⟩) S),a8 (br _ _ S),a8 (cV (.inl ⟨by decide,by decide⟩) S),a8 (br _ _ S),a8 (br _ _ S),a8 (cV (.inr ⟨by decide,by decide⟩) S),a8 (bL (by decide) S),
  a8 (cY (by decide) (by decide) S),a8 (cV (.inr ⟨by decide,by decide⟩) S),a8 (cV (.inl ⟨by decide,by decide⟩) S),a8 (br _ _ S),a8 (bL (by decide) S),a8 (cY (by decide) (by decide) S),a8 (bL a S)]
 exact⟨_,rfl,KD _ (Lz a),Ke _ a⟩
theorem set_set{S:Sto}{p:Nat}{o o':O}:(S.set p o).set p o'=S.set p o':=List.set_set ..
theorem fb(h:S[p]?=some (j4 ns a l t))(x:0<=a)(s:0<=l)(o:0<=t)(k:t<2000000)(b:0<m)(i:m<1073741824) :
  ∃r g d,G0 (.ref p) (.int m) (.int t) (.lst (ns.map D.int)) (.int c) S=.ok (.int r) (S.set p (j4 ns g d t))/\0<=r/\r<m/\0<=g/\0<=d:=by
 unfold G0;rw[a8 (yX h),a8 (br _ _ S),a8 (DQ h _)];have n:=nZ (o':=j4 ns (a+1) l t) h;have v:wN (.int 10) (.int 18) (S.set p (j4 ns (a+1) l t))=.ok (.int 1000000000000000000) (S.set p (j4 ns (a+1) l t)):=rfl;rw[a8 v];have w:b7 .GtE (.int c) (.int 1000000000000000000) (S.set p (j4 ns (a+1) l t))=.ok (.bl (decide (1000000000000000000<=c))) (S.set p (j4 ns (a+1) l t)):=rfl;rw[a8 w,a8 (show asB _ _=_ from rfl)];have f:∀z:Bool,(z=true->1000000000000000000<=c)->∃r g d,cz (.ref p) (.int m) (.int t) (.lst (ns.map D.int)) (.int c) z (S.set p (j4 ns (a+1) l t))=.ok (.int r) (S.set p (j4 ns g d t))/\0<=r/\r<m/\0<=g/\0<=d:=λz hz=>by
  unfold cz;cases z with
  | true=>
   rw[if_pos rfl,a8 (cY b i _),a8 (ir n _),set_set,a8 (bL b _)];exact⟨_,a+1,c / m,rfl,KD _ (Lz b),Ke _ b,by omega,Int.ediv_nonneg (Int.le_trans (by decide) (hz rfl)) (Int.le_of_lt b)⟩
  | false=>
   rw[if_neg He];obtain⟨r,e,q,u⟩:=iD b o k (S.set p (j4 ns (a+1) l t));exact⟨r,a+1,l,e,q,u,by omega,s⟩
 by_cases hz:(1000000000000000000:Int)<=c
 ·rw[Hv hz,if_pos rfl,a8 (yX n),a8 (bK ns _)];have j:b7 .LtE (.int (a+1)) (.int (ns.length:Int)) (S.set p (j4 ns (a+1) l t))=.ok (.bl (decide (a+1<=(ns.length:Int)))) (S.set p (j4 ns (a+1) l t)):=rfl;rw[a8 j,a8 (show asB _ _=_ from rfl)];exact f _ λ_=>hz
 ·rw[Hs hz,if_neg He];exact f _ λz=>by cases z
theorem qX(h:S[p]?=some (j4 ns a l t))(ha:0<=a)(hl:0<=l)(ht:0<=t)(htb:t<1000000)(hm:0<m)(hm2:m<1073741824) :
  ∃r a' l',jF (.ref p) (.int m) S=.ok (.int r) (S.set p (j4 ns a' l' (t+1)))/\0<=r/\r<m/\0<=a'/\0<=l':=by
 unfold jF;rw[a8 (Ad h),a8 (br _ _ S),a8 (tH h _)];have h1:=nZ (o':=j4 ns a l (t+1)) h;have hc:b7 .Gt (.int l) (.int 0) (S.set p (j4 ns a l (t+1)))=.ok (.bl (decide (0<l))) (S.set p (j4 ns a l (t+1))):=rfl;rw[a8 (hU h1),a8 hc,a8 (show asB _ _=_ from rfl)];by_cases hz:0<l
 ·rw[Hv hz,if_pos rfl,a8 (hU h1),a8 (bL hm _),a8 (hU h1),a8 (cY hm hm2 _),a8 (ir h1 _),set_set];exact⟨_,a,l / m,rfl,KD _ (Lz hm),Ke _ hm,ha,Int.ediv_nonneg hl (Int.le_of_lt hm)⟩
 ·rw[Hs hz,if_neg He,a8 (vB h1),a8 (bK ns _)];have hc2:b7 .Gt (.int (ns.length:Int)) (.int 0) (S.set p (j4 ns a l (t+1)))=.ok (.bl (decide (0<(ns.length:Int)))) (S.set p (j4 ns a l (t+1))):=rfl;rw[a8 hc2,a8 (show asB _ _=_ from rfl)];have fin:∀c:Int,∃r a' l',G0 (.ref p) (.int m) (.int (t+1)) (.lst (ns.map D.int)) (.int c) (S.set p (j4 ns a l (t+1)))=.ok (.int r) (S.set p (j4 ns a' l' (t+1)))/\0<=r/\r<m/\0<=a'/\0<=l':=λc=>by
   obtain⟨r,a',l',e,q⟩:=fb h1 ha hl (by omega) (by omega) hm hm2;rw[set_set]at e;exact⟨r,a',l',e,q⟩
  by_cases hn:0<(ns.length:Int)
  ·rw[Hv hn,if_pos rfl,a8 (yX h1),a8 (bK ns _),a8 (bL hn _)];obtain⟨z,e⟩:=tU (ns:=ns) ha (by omega) (S.set p (j4 ns a l (t+1)));rw[a8 e];exact fin z
  ·rw[Hs hn,if_neg He];exact fin 0
theorem ya(h1:ds.length=fs.length)(h2:ds.all (E6 S)=true):F8 c fs ds S=.ok (.ref S.length) (S++[.exc c (fs.zip ds)]):=by
 unfold F8;rw[if_pos ⟨h1,h2⟩]
theorem i8(b:Bool)(S:Sto):asB (.bl b) S=.ok b S:=rfl
def cN(o:Option (Option Value))(x:String):Bool:=match o with
 | some (some (.builtin y))=>decide (y=x)
 | _=>false
theorem R7(h:cN o x=true):o=some (some (.builtin x)):=by
 unfold cN at h;split at h
 ·rw[HR h]
 ·cases h
def isNo(o:Option (Option Value)):Bool:=match o with
 | some none=>true
 | _=>false
theorem Y9(h:isNo o=true):o=some none:=by
 unfold isNo at h;split at h
 ·rfl
 ·cases h
def isB(o:Option Bool)(b:Bool):Bool:=match o with
 | some c=>c==b
 | none=>false
theorem V2(h:isB o b=true):o=some b:=by
 unfold isB at h;split at h
 ·rw[Lm h]
 ·cases h
def xcB(K:PySem.W.Frag)(C:Addr):Bool:=
 cN (PySem.W.findIn K (.ref C) "__getattribute__") "BaseException.__getattribute__" && (isNo (PySem.W.findIn K (.ref C) "__getattr__")&&(isB (PySem.W.mroIn K C (.type "BaseException")) true&&(isB (PySem.W.mroIn K C (.type "object")) true &&
 (PySem.W.hasDictIn K C&&(cN (PySem.W.findIn K (.ref C) "__class__") "object.__class__" && (cN (PySem.W.specialIn K (.builtin "object.__class__") "__get__") "getset_descriptor.__get__" && (isB (PySem.W.takesIn K (.builtin "object.__class__")) true &&
 (W7 K C&&((PySem.W.clsIn K C).any (λa=>z0 a.mro)&&(cN (PySem.W.findIn K (.ref C) "__setattr__") "object.__setattr__" && PySem.W.keepIn K (.ref C)))))))))))
theorem gp{K:PySem.W.Frag}{C:Addr}(h:xcB K C=true):XC K C:=by
 simp only[xcB,Gz]at h;obtain⟨d,e,l,m,j,f,g,i,k,a,b,c⟩:=h;exact⟨⟨R7 d,Y9 e,V2 l,V2 m,j,R7 f,R7 g,V2 i⟩,k,a,R7 b,c⟩
def aL(cs:List Addr)(a:Addr)(c:Nat):Addr:=cs.getD c a
structure RowB(K:PySem.W.Frag)(Γ:Gm)(cs:List Addr)(junk:Addr):Prop where
 xc:cs.all (xcB K)=true
 jk:W7 K junk=false
 sub:((List.range cs.length).all λc=>(List.range cs.length).all λc0=>isB (PySem.W.kitOne K (.ref (aL cs junk c)) (.ref (aL cs junk c0))) (Γ.sub c c0))=true
 sV:(cs.all λC=>isB (PySem.W.kitOne K (.ref C) (.type "ValueError")) true)=true
 sT:(cs.all λC=>tys.all λt=>isB (PySem.W.kitOne K (.ref C) (.type t)) false)=true
 fl:(Γ.flds.all λg=>cs.all λC=>isNo (PySem.W.findIn K (.ref C) g))=true
 bl:(bnames.all λx=>(Γ.gl.lookup x).isSome||isNo (PySem.W.nsIn K mainGlobals x))=true
theorem Ed{K:PySem.W.Frag}{cs:List Addr}{a:Addr}(d:W7 K a=false){c:Nat}(h:XC K (aL cs a c)):c<cs.length/\aL cs a c∈cs:=by
 by_cases b:c<cs.length
 ·refine⟨b,?_⟩;unfold aL;rw[IF,Hi b];exact HG b
 ·have e:aL cs a c=a:=by
   unfold aL;rw[IF,HM (Jv b)];rfl
  rw[e]at h;have:=h.ex;rw[d]at this;cases this
theorem RowB.st{Γ:Gm}{cs:List Addr}{j:Addr}{h:Heap}(B:RowB T.K Γ cs j)(X:T.K.In h)(G:h.Ns mainGlobals T.mg)(o:T.cl=aL cs j)(w:∀x d,Γ.gl.lookup x=some (.val d)->∃u v,T.mg x=some u/\RelV v u/\∀μ H,RD T.K μ H d v)
  (r:∀x c fs,Γ.gl.lookup x=some (.err c fs)->c<cs.length/\ErrAt T x c fs/\∀g∈fs,g∈Γ.flds) (hd:∀x k,Γ.gl.lookup x=some (.dct k)->oj T x k):TxSt T Γ:=by
 have i:∀c,XC T.K (T.cl c)->c<cs.length/\T.cl c∈cs:=λc f=>by rw[o]at f ⊢;exact Ed B.jk f
 have p:=λg l c f=>by
  have:=(HL.mp B.fl) g l;exact Y9 ((HL.mp this) _ (i c f).2)
 refine⟨λx s y=>?_,w,λx c fs e=>?_,λx c c0 fs e f=>?_,λc f=>?_,λc f t z=>?_,p,hd⟩
 ·have:=(HL.mp B.bl) x s;rw[y]at this;exact PySem.W.mg_none_of X G (Y9 this)
 ·obtain⟨n,m,q⟩:=r x c fs e;exact⟨m,λg l=>p g (q g l) c m.xc⟩
 ·obtain⟨n,m,q⟩:=r x c0 fs e;have a:=(HL.mp B.sub) c (Ij.mpr (i c f).1);have b:=(HL.mp a) c0 (Ij.mpr n);rw[o];exact V2 b
 ·exact V2 ((HL.mp B.sV) _ (i c f).2)
 ·have a:=(HL.mp B.sT) _ (i c f).2;exact V2 ((HL.mp a) t z)
def dR(K:PySem.W.Frag):Sp:=λvs H Q _=>∃(a:Addr) (ns:List Int),vs=[.ref a]/\SqL K H a (ns.map V.int)/\∀H',Q (.bl true) H'
theorem lX{K:PySem.W.Frag}{cl:ClW}{run:List D->M D}(hr:∀ns:List Int,∃S',run [.scr (ns.map D.int)] []=.ok (.bl true) S'):∀vs H Q E,dR K vs H Q E->spD K cl 1 run vs H Q E:=by
 rintro vs H Q E ⟨a,ns,rfl,hS,q⟩;obtain⟨S',e⟩:=hr ns;refine⟨rfl,⟨[],[]⟩,[],[.scr (ns.map D.int)],.cons (.scr ?_ (RDs.ints ns)) .nil,⟨rfl,by simp,λn o a e=>by simp at e,λa m=>by simp at m⟩,?_⟩
 ·rcases hS with h | h
  ·exact .inl ⟨h,by simp,by simp⟩
  ·exact .inr h
 ·rw[e];intro μ' H' l r v rv;cases rv;exact q H'
theorem ln0{α:Type}{p:List α->Prop}{us:List α}(hl:us.length=0)(h:p []):p us:=by
 rw[List.length_eq_zero_iff.mp hl];exact h
theorem ln1{α:Type}{p:List α->Prop}{us:List α}(hl:us.length=1)(h:∀a,p [a]):p us:=by
 obtain⟨a,rfl⟩:=List.length_eq_one_iff.mp hl;exact h a
theorem lnS{α:Type}{p:List α->Prop}{us:List α}{n:Nat}(hl:us.length=n+1)(h:∀a ws,ws.length=n->p (a::ws)):p us:=by
 cases us with
 | nil=>cases hl
 | cons a ws=>exact h a ws (Nat.succ.inj hl)
theorem ln2{α:Type}{p:List α->Prop}{us:List α}(hl:us.length=2)(h:∀a b,p [a,b]):p us:=lnS hl λa _ e=>ln1 (p:=λw=>p (a::w)) e (h a)
theorem ln3{α:Type}{p:List α->Prop}{us:List α}(hl:us.length=3)(h:∀a b c,p [a,b,c]):p us:=lnS hl λa _ e=>ln2 (p:=λw=>p (a::w)) e (h a)
theorem Cv{fd:FuncData}{ps:List Str}{us:List Value}(hl:us.length=0)(h:bindArgs fd ⟨[],[]⟩=pure (ps.zip [])):bindArgs fd ⟨us,[]⟩=pure (ps.zip us):=ln0 (p:=λus=>bindArgs fd ⟨us,[]⟩=pure (ps.zip us)) hl h
theorem V8{fd:FuncData}{ps:List Str}{us:List Value}(hl:us.length=1)(h:∀a,bindArgs fd ⟨[a],[]⟩=pure (ps.zip [a])):bindArgs fd ⟨us,[]⟩=pure (ps.zip us):=ln1 (p:=λus=>bindArgs fd ⟨us,[]⟩=pure (ps.zip us)) hl h
theorem F7{fd:FuncData}{ps:List Str}{us:List Value}(hl:us.length=2)(h:∀a b,bindArgs fd ⟨[a,b],[]⟩=pure (ps.zip [a,b])):bindArgs fd ⟨us,[]⟩=pure (ps.zip us):=ln2 (p:=λus=>bindArgs fd ⟨us,[]⟩=pure (ps.zip us)) hl h
theorem lV{fd:FuncData}{ps:List Str}{us:List Value}(hl:us.length=3)(h:∀a b c,bindArgs fd ⟨[a,b,c],[]⟩=pure (ps.zip [a,b,c])):bindArgs fd ⟨us,[]⟩=pure (ps.zip us):=ln3 (p:=λus=>bindArgs fd ⟨us,[]⟩=pure (ps.zip us)) hl h
structure GF(K:PySem.W.Frag)(x:Str)(st:Stmt)(g:Addr):Prop where
 a:PySem.W.nsIn K mainGlobals x=some (some (.ref g))
 f:∃fd,Fun K x x st g fd
theorem gf_mk{K:PySem.W.Frag}{x:Str}{st:Stmt}{g:Addr}{oc:Value}{od an:Option Addr}{osl:Array (Option Value)}{kV doc pm cdv ct:Value}(a:PySem.W.nsIn K mainGlobals x=some (some (.ref g)))(l:K.lookup g=some ⟨oc,od,.func (PySem.W.fnOf x x (t6 st) (j6 st) (c9 st) .none kV doc pm an cdv ct),osl⟩)(c:PySem.W.codeIn K cdv x=true)(k:PySem.W.keepIn K (.ref g)=true):GF K x st g:=⟨a,_,az l c k⟩
theorem fe{T:Tx}{h:Heap}(X:T.K.In h)(G:h.Ns mainGlobals T.mg){x:Str}{st:Stmt}{g:Addr}{m:List Str}{Tb:List Fd}{i n:Nat}(d:GF T.K x st g)(sc:dW (j9 st m)=true)(hb:∀(kV doc pm:Value)(an:Option Addr)(cdv ct:Value)(us:List Value),us.length=(j9 st m).ps.length->bindArgs (PySem.W.fnOf x x (t6 st) (j6 st) (c9 st) .none kV doc pm an cdv ct) ⟨us,[]⟩=pure ((j9 st m).ps.zip us))(hT:Tb[i]?=some (j9 st m))(hn:(j9 st m).ps.length=n):∃fd,Tb[i]?=some fd/\fd.ps.length=n/\FnTx T x fd:=by
 obtain⟨fd,F⟩:=d.f;exact⟨_,hT,hn,⟨g,_,_,st,F,rfl,rfl,aj sc,F.binds hb,Iu X G d.a⟩⟩
def BZ(T:Tx)(Tb:List Fd):List (Str×G)->Prop
 | []=>True
 | (x,.fn i n)::l=>(∃fd,Tb[i]?=some fd/\fd.ps.length=n/\FnTx T x fd)/\BZ T Tb l
 | _::l=>BZ T Tb l
theorem Cy{T:Tx}{Γ:Gm}{Tb:List Fd}(h:BZ T Tb Γ.gl):ny T Γ Tb:=λx i n e=>by
 have m:=L2.mem_of_lookup e;generalize Γ.gl=l at h m;induction l with
 | nil=>cases m
 | cons y l ih=>
  obtain⟨z,g⟩:=y;rcases Ho.mp m with q | q
  ·cases q;exact h.1
  ·refine ih ?_ q;cases g with
   | fn j k=>exact h.2
   | _=>exact h
theorem T7{n:Nat}(I:Nat->Sto->List D->Prop)(a:∀S es,I n S es->src n S=some none)
  (c:∀i S es,i<n->I i S es->∃d b S1,src i S=some (some d)/\t d S=.ok b S1/\(if b=true then ∃y S2,f d S1=.ok y S2/\es.length<sizeLine/\I (i+1) S2 (es++[y])else I (i+1) S1 es)) :
  ∀(k i:Nat)(S:Sto)(es:List D),k+i=n->I i S es->∃es' S',i5 src t f (k+1) i es S=.ok es' S'/\I n S' es'
 | 0,i,S,es,j,h=>by
  have:i=n:=by omega
  subst this;refine⟨es,S,?_,h⟩;simp only[i5,a S es h]
 | k+1,i,S,es,j,h=>by
  obtain⟨d,b,S1,l,m,e⟩:=c i S es (by omega) h;have g:i5 src t f (k+1+1) i es S=bind (t d) (λb=>if b=true then bind (f d) (λy=>if es.length<sizeLine then i5 src t f (k+1) (i+1) (es++[y])else bad)else i5 src t f (k+1) (i+1) es) S:=by
   conv=>lhs;unfold i5
   simp only[l]
  rw[g,a8 m];cases b with
  | true=>
   rw[if_pos rfl]at e ⊢;obtain⟨y,S2,p,o,q⟩:=e;rw[a8 p,if_pos o];exact T7 I a c k (i+1) S2 _ (by omega) q
  | false=>
   rw[if_neg He]at e ⊢;exact T7 I a c k (i+1) S1 _ (by omega) e
theorem nk{S:Sto}(hl:ds.length<sizeLine)(h:∀d∈ds,f d S=.ok (g d) S):i5 (B9 ds) (λ_=>ret true) f (ds.length+1) 0 [] S=.ok (ds.map g) S:=by
 obtain⟨es,S',e,e1,e2⟩:=T7 (src:=B9 ds) (t:=λ_=>ret true) (λi S' es=>S'=S/\es=(ds.take i).map g) (λS es _=>by show some ds[ds.length]?=some none;rw[HM (Hd _)])
  (λi S' es hi ⟨h1,h2⟩=>by
   subst h1 h2;refine⟨ds[i],true,S',?_,rfl,?_⟩
   ·show some ds[i]?=some (some ds[i]);rw[Hi hi]
   ·rw[if_pos rfl];refine⟨g ds[i],S',h _ (HG hi),?_,rfl,?_⟩
    ·rw[Hc,Jt];omega
    ·rw[IG hi,IB];rfl) ds.length 0 S [] (by omega) ⟨rfl,rfl⟩
 rw[e];subst e1 e2;rw[Lq]
def Ok{b:Type}(m:M b)(S:Sto)(Q:b->Sto->Prop):Prop:=∃a S',m S=.ok a S'/\Q a S'
section
variable {α β:Type}{S S1:Sto}{m m':M α}{k:α->M β}{a:α}{Q Q':α->Sto->Prop}{P:β->Sto->Prop}
theorem Ok.ret(h:Q a S):Ok (ret a) S Q:=⟨a,S,rfl,h⟩
theorem Ok.of(e:m S=.ok a S1)(h:Q a S1):Ok m S Q:=⟨a,S1,e,h⟩
theorem Ok.bind(h:Ok m S λa S1=>Ok (k a) S1 P):Ok (L3.bind m k) S P:=by
 obtain⟨a,S1,e,b,S2,c,q⟩:=h;exact⟨b,S2,by rw[a8 e];exact c,q⟩
theorem Ok.eq(e:m S=.ok a S1)(h:Ok (k a) S1 P):Ok (L3.bind m k) S P:=Ok.bind ⟨a,S1,e,h⟩
theorem Ok.mono(h:Ok m S Q)(i:∀a S1,Q a S1->Q' a S1):Ok m S Q':=by
 obtain⟨a,S1,e,q⟩:=h;exact⟨a,S1,e,i _ _ q⟩
theorem Ok.cg(e:m=m')(h:Ok m' S Q):Ok m S Q:=e▸h
theorem Ok.cgS(e:m S=m' S)(h:Ok m' S Q):Ok m S Q:=by
 obtain⟨a,S1,b,q⟩:=h;exact⟨a,S1,by rw[e];exact b,q⟩
theorem Ok.ite{c:Prop}[Decidable c]{m1 m2:M α}(h1:c->Ok m1 S Q)(h2:¬ c->Ok m2 S Q):Ok (if c then m1 else m2) S Q:=by
 by_cases h:c
 ·rw[if_pos h];exact h1 h
 ·rw[if_neg h];exact h2 h
end
theorem Ok.comp{n:Nat}(I:Nat->Sto->List D->Prop)(c:∀S es,I n S es->src n S=some none)
  (a:∀i S es,i<n->I i S es->∃d,src i S=some (some d)/\Ok (t d) S λb S1=>if b=true then Ok (f d) S1 λy S2=>es.length<sizeLine/\I (i+1) S2 (es++[y])else I (i+1) S1 es) {S:Sto} (h:I 0 S []) :
  Ok (i5 src t f (n+1) 0 []) S λes S'=>I n S' es:=by
 obtain⟨es,S',e,q⟩:=T7 I c (λi S es o h=>by
  obtain⟨d,l,b,S1,m,q⟩:=a i S es o h;refine⟨d,b,S1,l,m,?_⟩;cases b with
  | true=>
   rw[if_pos rfl]at q ⊢;obtain⟨y,S2,g,j,k⟩:=q;exact⟨y,S2,g,j,k⟩
  | false=>
   rw[if_neg He]at q ⊢;exact q) n 0 S [] (by omega) h
 exact⟨es,S',e,q⟩
def FlI(I:L3.Env->Sto->Prop)(J:L3.Env->Sto->Prop)(R:D->Sto->Prop)(a:Fl)(S:Sto):Prop:=match a with
 | .nx ρ=>I ρ S
 | .ct ρ=>I ρ S
 | .bk ρ=>J ρ S
 | .rt d=>R d S
theorem Ok.for_{n:Nat}(I:Nat->L3.Env->Sto->Prop)(J:L3.Env->Sto->Prop)(R:D->Sto->Prop)(hend:∀ρ S,I n ρ S->src n S=some none)
  (step:∀i ρ S,i<n->I i ρ S->∃d ρ1,src i S=some (some d)/\tg d ρ=some ρ1/\Ok (body ρ1) S (FlI (I (i+1)) J R)) :
  ∀(k i:Nat)(ρ:L3.Env)(S:Sto),k+i=n->I i ρ S->Ok (u4 src tg body (k+1) i ρ) S λfl S'=>match fl with
   | .nx ρ'=>I n ρ' S'\/J ρ' S'
   | .rt d=>R d S'
   | _=>False
 | 0,i,ρ,S,hk,h=>by
  have:i=n:=by omega
  subst this;exact⟨.nx ρ,S,by simp only[u4,hend ρ S h],.inl h⟩
 | k+1,i,ρ,S,hk,h=>by
  obtain⟨d,ρ1,e1,e2,h2⟩:=step i ρ S (by omega) h;have un:u4 src tg body (k+1+1) i ρ S=L3.bind (body ρ1) (λfl=>match fl with
    | .nx ρ2=>u4 src tg body (k+1) (i+1) ρ2
    | .ct ρ2=>u4 src tg body (k+1) (i+1) ρ2
    | .bk ρ2=>L3.ret (.nx ρ2)
    | .rt d=>L3.ret (.rt d)) S:=by
   conv=>lhs;unfold u4
   simp only[e1,e2]
   all_goals rfl
  refine Ok.cgS un (Ok.bind (h2.mono λfl S1 q=>?_));cases fl with
  | nx ρ2=>exact Ok.for_ I J R hend step k (i+1) ρ2 S1 (by omega) q
  | ct ρ2=>exact Ok.for_ I J R hend step k (i+1) ρ2 S1 (by omega) q
  | bk ρ2=>exact Ok.ret (.inr q)
  | rt d=>exact Ok.ret q
theorem Ok.while_(I:Nat->L3.Env->Sto->Prop)(J:L3.Env->Sto->Prop)(R:D->Sto->Prop)
  (step:∀k ρ S,I k ρ S->Ok (t ρ) S λb S1=>if b=true then Ok (body ρ) S1 (FlI (λρ2 S2=>∃j,j<k/\I j ρ2 S2) J R)else J ρ S1) :
  ∀(m k:Nat)(ρ:L3.Env)(S:Sto),k<m->I k ρ S->Ok (D4 t body m ρ) S λfl S'=>match fl with
   | .nx ρ'=>J ρ' S'
   | .rt d=>R d S'
   | _=>False
 | 0,k,ρ,S,hk,h=>by omega
 | m+1,k,ρ,S,hk,h=>by
  refine Ok.bind ((step k ρ S h).mono λb S1 q=>?_);cases b with
  | false=>
   rw[if_neg He]at q ⊢;exact Ok.ret q
  | true=>
   rw[if_pos rfl]at q ⊢;refine Ok.bind (q.mono λfl S2 q2=>?_);cases fl with
   | nx ρ2=>obtain⟨j,hj,q3⟩:=q2;exact Ok.while_ I J R step m j ρ2 S2 (by omega) q3
   | ct ρ2=>obtain⟨j,hj,q3⟩:=q2;exact Ok.while_ I J R step m j ρ2 S2 (by omega) q3
   | bk ρ2=>exact Ok.ret q2
   | rt d=>exact Ok.ret q2
theorem k5{α:Type}{l:List α}{h g:α->D}{p:α->Bool}{t:D->M Bool}{f:D->M D}{S:Sto}(hl:l.length<sizeLine)(ht:∀a∈l,t (h a) S=.ok (p a) S)(hf:∀a∈l,p a=true->f (h a) S=.ok (g a) S):i5 (B9 (l.map h)) t f (l.length+1) 0 [] S=.ok ((l.filter p).map g) S:=by
 obtain⟨es,S',e,e1,e2⟩:=Ok.comp (src:=B9 (l.map h)) (λi S' es=>S'=S/\es=((l.take i).filter p).map g) (λS es _=>by show some (l.map h)[l.length]?=some none;rw[HM (by simp)])
  (λi S' es hi ⟨h1,h2⟩=>by
   subst h1 h2;refine⟨h l[i],?_,p l[i],S',ht _ (HG hi),?_⟩
   ·show some (l.map h)[i]?=some (some (h l[i]));rw[HK,Hi hi];rfl
   ·have ta:=IG hi;cases hp:p l[i] with
    | true=>
     dsimp only;rw[if_pos rfl];refine⟨g l[i],S',hf _ (HG hi) hp,?_,rfl,?_⟩
     ·rw[Hc];have:=IJ p (l.take i);have:=List.length_take_le i l;omega
     ·rw[ta,Je,IB,IM hp];rfl
    | false=>
     dsimp only;rw[if_neg He];refine⟨rfl,?_⟩;rw[ta,Je,IN (by rw[hp];exact He),LH,HU]) ⟨rfl,rfl⟩
 rw[e];subst e1 e2;rw[Lq]
def Asc(x:Str):Prop:=∀c∈x.cps.toList,c<128
def dZ(j:Nat):Nat:=1000000000000000000000000000000000000000+j
mutual
def Pln(j:Nat):D->Prop
 | .non=>True
 | .bl _=>True
 | .int i=>i.natAbs<=dZ j
 | .str x=>x.length<=45+j/\Asc x
 | .tup ds=>Plns j ds
 | .lst ds=>Plns j ds
 | .scr _=>False
 | .ref _=>False
def Plns(j:Nat):List D->Prop
 | []=>True
 | d::ds=>Pln j d/\Plns j ds
end
mutual
noncomputable def py:D->PyData
 | .non=>.none
 | .bl b=>.bool b
 | .int i=>.int i
 | .str x=>.str x
 | .tup ds=>.tuple (pys ds)
 | .lst ds=>.list (pys ds)
 | .scr _=>.none
 | .ref _=>.none
noncomputable def pys:List D->List PyData
 | []=>[]
 | d::ds=>py d::pys ds
end
mutual
noncomputable def dp:D->Nat
 | .tup ds=>dps ds+1
 | .lst ds=>dps ds+1
 | _=>0
noncomputable def dps:List D->Nat
 | []=>0
 | d::ds=>max (dp d) (dps ds)
end
mutual
noncomputable def sz:D->Nat
 | .int _=>60
 | .str x=>10 * x.length+2
 | .tup ds=>szs ds+3
 | .lst ds=>szs ds+3
 | _=>5
noncomputable def szs:List D->Nat
 | []=>0
 | d::ds=>sz d+2+szs ds
end
theorem Plns.mem:∀{ds:List D},Plns j ds->∀d∈ds,Pln j d
 | _::_,h,d,hd=>by
  rcases Ho.mp hd with rfl | hd
  ·exact h.1
  ·exact Plns.mem h.2 d hd
theorem Plns.of:∀{ds:List D},(∀d∈ds,Pln j d)->Plns j ds
 | [],_=>trivial
 | d::ds,h=>⟨h d (Hf ..),Plns.of λe a=>h e (Hh _ a)⟩
mutual
theorem Pln.up:∀(d:D),Pln j d->Pln (j+1) d
 | .non,_=>trivial
 | .bl _,_=>trivial
 | .int i,h=>by have h:i.natAbs<=dZ j:=h;show i.natAbs<=dZ (j+1);unfold dZ at *;omega
 | .str x,h=>⟨by have:=h.1;omega,h.2⟩
 | .tup ds,h=>Plns.up ds h
 | .lst ds,h=>Plns.up ds h
 | .scr _,h=>h.elim
 | .ref _,h=>h.elim
theorem Plns.up:∀(ds:List D),Plns j ds->Plns (j+1) ds
 | [],_=>trivial
 | d::ds,h=>⟨Pln.up d h.1,Plns.up ds h.2⟩
end
theorem iq:∀{ds:List D}{d:D},d∈ds->dp d<=dps ds
 | e::ds,d,h=>by
  rcases Ho.mp h with rfl | h
  ·show dp d<=max (dp d) (dps ds);omega
  ·have:=iq h;show dp d<=max (dp e) (dps ds);omega
theorem oe:∀{ds:List D},(∀d∈ds,dp d<=n)->dps ds<=n
 | [],_=>HY _
 | d::ds,h=>by
  have:=h d (Hf ..);have:=oe λe a=>h e (Hh _ a);show max (dp d) (dps ds)<=n;omega
theorem jC:∀(xs ys:List D),szs (xs++ys)=szs xs+szs ys
 | [],_=>by simp[szs]
 | d::xs,ys=>by
  show sz d+2+szs (xs++ys)=sz d+2+szs xs+szs ys;rw[jC xs ys];omega
theorem iz:∀(xs:List D),2 * xs.length<=szs xs
 | []=>Hd _
 | d::xs=>by
  have:=iz xs;show 2 * (xs.length+1)<=sz d+2+szs xs;omega
theorem ze(h:xs[i]?=some d):szs xs=szs (xs.take i)+(sz d+2)+szs (xs.drop (i+1)):=by
 have a:=(Hb.mp h).1;have e:xs=xs.take i++(d::xs.drop (i+1)):=by
  have:=Hb.mp h
  conv=>lhs;rw[<- List.take_append_drop i xs,JN a]
  rw[this.2]
 conv=>lhs;rw[e,jC]
 show szs _+(sz d+2+szs _)=_;omega
mutual
theorem kF(S:Sto):∀(d:D)(n:Nat),Pln j d->dp d<n->j7 n S d=some (py d)
 | .non,n+1,_,_=>rfl
 | .bl _,n+1,_,_=>rfl
 | .int _,n+1,_,_=>rfl
 | .str _,n+1,_,_=>rfl
 | .tup ds,n+1,h,a=>by
  show(e9 (j7 n S) ds).map PyData.tuple=_;rw[av S ds n h (by have:dps ds+1<n+1:=a;omega)];rfl
 | .lst ds,n+1,h,a=>by
  show(e9 (j7 n S) ds).map PyData.list=_;rw[av S ds n h (by have:dps ds+1<n+1:=a;omega)];rfl
 | .scr _,_,h,_=>h.elim
 | .ref _,_,h,_=>h.elim
 | .non,0,_,h=>by omega
 | .bl _,0,_,h=>by omega
 | .int _,0,_,h=>by omega
 | .str _,0,_,h=>by omega
 | .tup _,0,_,h=>by omega
 | .lst _,0,_,h=>by omega
theorem av(S:Sto):∀(ds:List D)(n:Nat),Plns j ds->dps ds<n->e9 (j7 n S) ds=some (pys ds)
 | [],n,_,_=>rfl
 | d::ds,n,h,hn=>by
  have hn:max (dp d) (dps ds)<n:=hn;simp only[e9,kF S d n h.1 (by omega),av S ds n h.2 (by omega)];rfl
end
theorem qB(h:Asc x):PyData.strOk x=true:=by
 unfold PyData.strOk;rw[Array.all_eq_true'];intro c hc;have:=h c (by simpa using hc);exact Hv (by omega)
mutual
theorem hW:∀d:D,Pln j d->(py d).canLay0=true
 | .non,_=>rfl
 | .bl _,_=>rfl
 | .int _,_=>rfl
 | .str x,h=>by show PyData.canLay0 (.str x)=true;simp only[PyData.canLay0];exact qB h.2
 | .tup ds,h=>by show PyData.canLay0 (.tuple (pys ds))=true;simp only[PyData.canLay0];exact dH ds h
 | .lst ds,h=>by show PyData.canLay0 (.list (pys ds))=true;simp only[PyData.canLay0];exact dH ds h
 | .scr _,h=>h.elim
 | .ref _,h=>h.elim
theorem dH:∀ds:List D,Plns j ds->PyData.canLayAll0 (pys ds)=true
 | [],_=>rfl
 | d::ds,h=>by show PyData.canLayAll0 (py d::pys ds)=true;simp only[PyData.canLayAll0,hW d h.1,dH ds h.2,Le]
end
mutual
theorem ae:∀d:D,(py d).depth<=dp d
 | .non=>by show PyData.depth .none<=_;simp[PyData.depth]
 | .bl b=>by show PyData.depth (.bool b)<=_;simp[PyData.depth]
 | .int i=>by show PyData.depth (.int i)<=_;simp[PyData.depth]
 | .str x=>by show PyData.depth (.str x)<=_;simp[PyData.depth]
 | .tup ds=>by show PyData.depth (.tuple (pys ds))<=dps ds+1;simp only[PyData.depth];have:=V9 ds;omega
 | .lst ds=>by show PyData.depth (.list (pys ds))<=dps ds+1;simp only[PyData.depth];have:=V9 ds;omega
 | .scr _=>by show PyData.depth .none<=_;simp[PyData.depth]
 | .ref _=>by show PyData.depth .none<=_;simp[PyData.depth]
theorem V9:∀ds:List D,PyData.depthAll (pys ds)<=dps ds
 | []=>by show PyData.depthAll []<=0;simp[PyData.depthAll]
 | d::ds=>by
  have:=ae d;have:=V9 ds;show PyData.depthAll (py d::pys ds)<=max (dp d) (dps ds);simp only[PyData.depthAll];omega
end
structure Any(j N:Nat)(d:D):Prop where
 pl:Pln j d
 dp:dp d<=3+j
 sz:sz d<=N
def inW(ws:List Str):D->Bool
 | .str x=>decide (x∈ws)
 | _=>false
theorem vP(ws:List Str)(x:Str):((ws.map PyData.str).any λy=>PyData.eqv y (.str x))=decide (x∈ws):=by
 induction ws with
 | nil=>rfl
 | cons w ws ih=>
  rw[Ht,IW,ih];rw[II,JZ,Hw,Hw,Ho];have:PyData.eqv (.str w) (.str x)=(w==x):=by simp only[PyData.eqv]
  rw[this];constructor
  ·rintro(a | a)
   ·exact .inl (Lm a).symm
   ·exact .inr a
  ·rintro(a | a)
   ·exact .inl (by rw[a];exact Lr _)
   ·exact .inr a
theorem wV(a:∀x,p≠.str x)(ws:List Str):((ws.map PyData.str).any λy=>PyData.eqv y p)=false:=by
 induction ws with
 | nil=>rfl
 | cons w ws b=>
  rw[Ht,IW,b,Bool.or_false];cases p <;> first | (simp only[PyData.eqv];done) | exact absurd rfl (a _)
theorem FH(h:Pln j d)(ws:List Str):((ws.map PyData.str).any λy=>PyData.eqv y (py d))=inW ws d:=by
 cases d with
 | str x=>exact vP ws x
 | scr _=>exact h.elim
 | ref _=>exact h.elim
 | _=>exact wV (λx e=>by cases e) ws
theorem cU(n:Nat)(S:Sto):∀ws:List Str,e9 (j7 (n+1) S) (ws.map D.str)=some (ws.map PyData.str)
 | []=>rfl
 | w::ws=>by
  have e:j7 (n+1) S (.str w)=some (.str w):=rfl;simp only[Ht,e9,e,cU n S ws]
theorem fM:∀ws:List Str,(∀w∈ws,Asc w)->PyData.canLayAll0 (ws.map PyData.str)=true
 | [],_=>rfl
 | w::ws,h=>by simp only[Ht,PyData.canLayAll0,PyData.canLay0,qB (h w (Hf ..)),fM ws λv a=>h v (Hh _ a),Le]
theorem iM(h:Any j N d)(b:j<=40){ws:List Str}(a:∀w∈ws,Asc w)(S:Sto):b7 .In d (.tup (ws.map D.str)) S=.ok (.bl (inW ws d)) S:=by
 show inD false d (.tup (ws.map D.str)) S=_;unfold inD;have e:j7 64 S (.tup (ws.map D.str))=some (.tuple (ws.map PyData.str)):=by
  show(e9 (j7 63 S) (ws.map D.str)).map PyData.tuple=_;rw[cU 62 S ws];rfl
 rw[kF S d 64 h.pl (by have:=h.dp;omega),e];show X9 false (py d) (ws.map PyData.str) S=_;unfold X9;have hd:=ae d;rw[if_pos ⟨hW d h.pl,fM ws a,by have:=h.dp;omega⟩,FH h.pl];rfl
theorem dC:∀a:List Bool,G7 (a.map D.bl)=some a
 | []=>rfl
 | b::a=>by simp only[Ht,G7,dC a,LC]
theorem any_ok(a:List Bool)(S:Sto):uI (.lst (a.map D.bl)) S=.ok (.bl (a.any id)) S:=by
 show bind (lstOf (.lst (a.map D.bl))) _ S=_;rw[a8 (show lstOf (.lst (a.map D.bl)) S=.ok (a.map D.bl) S from rfl),dC];rfl
theorem all_ok(a:List Bool)(S:Sto):oW (.lst (a.map D.bl)) S=.ok (.bl (a.all id)) S:=by
 show bind (lstOf (.lst (a.map D.bl))) _ S=_;rw[a8 (show lstOf (.lst (a.map D.bl)) S=.ok (a.map D.bl) S from rfl),dC];rfl
theorem Any.at(h:Any j N (.tup ds))(hd:d∈ds):Any j N d:=by
 obtain⟨i,a,e⟩:=JR hd;have g:dps ds+1<=3+j:=h.dp;have b:szs ds+3<=N:=h.sz;have c:=iq hd;have f:=ze (by rw[Hi a,e]);exact⟨Plns.mem h.pl d hd,by omega,by omega⟩
theorem Any.len(h:Any j N (.tup ds)):ds.length<=N:=by
 have h2:szs ds+3<=N:=h.sz;have:=iz ds;omega
mutual
noncomputable def plB:D->Bool
 | .non=>true
 | .bl _=>true
 | .int i=>decide (i.natAbs<=dZ 0)
 | .str x=>decide (x.length<=45)&&x.cps.toList.all (· < 128)
 | .tup ds=>pj ds
 | .lst ds=>pj ds
 | .scr _=>false
 | .ref _=>false
noncomputable def pj:List D->Bool
 | []=>true
 | d::ds=>plB d&&pj ds
end
mutual
theorem rY:∀d:D,plB d=true->Pln 0 d
 | .non,_=>trivial
 | .bl _,_=>trivial
 | .int i,h=>by
  have h:decide (i.natAbs<=dZ 0)=true:=h;exact(HR h:i.natAbs<=dZ 0)
 | .str x,h=>by
  have h:(decide (x.length<=45)&&x.cps.toList.all (· < 128))=true:=h;rw[Gz,Hw,HL]at h;exact⟨h.1,λc hc=>HR (h.2 c hc)⟩
 | .tup ds,h=>dU ds h
 | .lst ds,h=>dU ds h
 | .scr _,h=>Bool.noConfusion h
 | .ref _,h=>Bool.noConfusion h
theorem dU:∀ds:List D,pj ds=true->Plns 0 ds
 | [],_=>trivial
 | d::ds,h=>by
  have h:(plB d&&pj ds)=true:=h;rw[Gz]at h;exact⟨rY d h.1,dU ds h.2⟩
end
def smB(n N:Nat)(d:D):Bool:=plB d&&decide (dp d<=n)&&decide (sz d<=N)
theorem bA(h:smB n N d=true):Pln 0 d/\dp d<=n/\sz d<=N:=by
 unfold smB at h;rw[Gz,Gz,Hw,Hw]at h;exact⟨rY d h.1.1,h.1.2,h.2⟩
theorem vi(ds:List D)(lo a:Option Int):(B6 ds lo a).Sublist ds:=(List.take_sublist _ _).trans (List.drop_sublist _ _)
theorem Pln.ups{d:D}(h:Pln 0 d):Pln j d:=by
 induction j with
 | zero=>exact h
 | succ j a=>exact a.up
theorem dg(n:Nat)(S:Sto):∀ns:List Int,e9 (j7 (n+1) S) (ns.map D.int)=some (ns.map PyData.int)
 | []=>rfl
 | b::a=>by
  have e:j7 (n+1) S (.int b)=some (.int b):=rfl;simp only[Ht,e9,e,dg n S a]
theorem gz:∀ns:List Int,PyData.canLayAll0 (ns.map PyData.int)=true
 | []=>rfl
 | b::a=>by simp only[Ht,PyData.canLayAll0,PyData.canLay0,gz a,Le]
theorem ow{i:Nat}(h:i<=ds.length):B6 ds none (some (i:Int))=ds.take i:=by
 have e:HT.sIx ds.length ds.length (some (i:Int))=i:=by
  show(if (i:Int)<0 then ((i:Int)+(ds.length:Int)).toNat else min (i:Int).toNat ds.length)=i;rw[if_neg (by omega)];simp;omega
 unfold B6;rw[e,HT.sIx_none];simp
theorem fh{i:Nat}(h:i<=ds.length):B6 ds (some (i:Int)) none=ds.drop i:=by
 have e:HT.sIx ds.length 0 (some (i:Int))=i:=by
  show(if (i:Int)<0 then ((i:Int)+(ds.length:Int)).toNat else min (i:Int).toNat ds.length)=i;rw[if_neg (by omega)];simp;omega
 unfold B6;rw[e,HT.sIx_none];rw[IV (by simp)]
theorem cat_tup(h:xs.length+ys.length<=sizeLine):n8 (.tup xs) (.tup ys) S=.ok (.tup (xs++ys)) S:=by
 show(if xs.length+ys.length<=sizeLine then ret (D.tup (xs++ys))else bad) S=_;rw[if_pos h];rfl
theorem A8(ds:List D)(S:Sto):J0 (.tup ds) S=.ok (.int ds.length) S:=rfl
theorem cj(ds:List D)(S:Sto):k4 (.tup ds) S=.ok (B9 ds,ds.length+1) S:=rfl
theorem gT{n:Nat}(h:n<1000)(S:Sto):u7 [.int (n:Int)] S=.ok (iA 0 n,n+1) S:=by
 unfold u7;have a:(n:Int)<1000:=by omega
 have b:(0:Int)<=n:=by omega
 have c:-(2 ^ 62)<=(n:Int)/\(n:Int)<2 ^ 62:=⟨Int.le_trans (by decide) b,Int.lt_trans a (by decide)⟩;simp only[if_pos c,JE];rfl
theorem i7{i:Nat}{d:D}(S:Sto)(h:ds[i]?=some d):ixD (.tup ds) (.int (i:Int)) S=.ok d S:=by
 show Y1 (atI ds (i:Int)) S=_;rw[Y6 h];rfl
theorem FX{i:Nat}{d:D}(S:Sto)(h:ds[i]?=some d):ixD (.lst ds) (.int (i:Int)) S=.ok d S:=by
 show Y1 (atI ds (i:Int)) S=_;rw[Y6 h];rfl
theorem Dh{i n:Nat}{d:D}{S:Sto}(e:S[n]?=some (.lst ds))(h:ds[i]?=some d):ixD (.ref n) (.int (i:Int)) S=.ok d S:=by
 simp only[ixD,e,Y6 h];rfl
theorem Q2{α:Type}{src:Src}{l:List α}{h g:α->D}{p:α->Bool}{t:D->M Bool}{f:D->M D}{S:Sto}(hs:∀i,src i S=some (l.map h)[i]?)(hl:l.length<sizeLine)(ht:∀a∈l,t (h a) S=.ok (p a) S)(hf:∀a∈l,p a=true->f (h a) S=.ok (g a) S):i5 src t f (l.length+1) 0 [] S=.ok ((l.filter p).map g) S:=by
 obtain⟨es,S',e,e1,e2⟩:=Ok.comp (src:=src) (t:=t) (f:=f) (n:=l.length) (λi S' es=>S'=S/\es=((l.take i).filter p).map g) (λS' es q=>by obtain⟨q,_⟩:=q;subst q;rw[hs,HM (by simp)])
  (λi S' es hi ⟨h1,h2⟩=>by
   subst h1 h2;refine⟨h l[i],?_,p l[i],S',ht _ (HG hi),?_⟩
   ·rw[hs,HK,Hi hi];rfl
   ·have ta:l.take (i+1)=l.take i++[l[i]]:=IG hi;cases hp:p l[i] with
    | true=>
     dsimp only;rw[if_pos rfl];refine⟨g l[i],S',hf _ (HG hi) hp,?_,rfl,?_⟩
     ·rw[Hc];have:=IJ p (l.take i);have:=List.length_take_le i l;omega
     ·rw[ta,Je,IB,IM hp];rfl
    | false=>
     dsimp only;rw[if_neg He];refine⟨rfl,?_⟩;rw[ta,Je,IN (by rw[hp];exact He),LH,HU]) (S:=S) ⟨rfl,rfl⟩
 rw[e];subst e1 e2;rw[Lq]
theorem BJ(n i:Nat)(S:Sto):iA 0 n i S=some ((List.range n).map λ(k:Nat)=>D.int (k:Int))[i]?:=by
 show some (if i<n then some (D.int (0+i))else none)=_;by_cases h:i<n
 ·rw[if_pos h,HK,List.getElem?_range h,Int.zero_add];rfl
 ·rw[if_neg h,HM (by simpa using h)]
theorem w9{α β:Type}{f:α->β}{l:List α}{i:Nat}{a:α}(h:l[i]?=some a):(l.map f)[i]?=some (f a):=by rw[HK,h];rfl
theorem iE(x:Int):∀ns:List Int,((ns.map PyData.int).any λy=>PyData.eqv y (.int x))=decide (x∈ns)
 | []=>by simp
 | y::ns=>by
  simp only[Ht,IW,iE x ns,PyData.eqv];rw[II,JZ,Hw,Hw,Ho];constructor
  ·rintro(a | a)
   ·exact .inl (Lm a).symm
   ·exact .inr a
  ·rintro(a | a)
   ·exact .inl (by rw[a];exact Lr _)
   ·exact .inr a
theorem vS(x:Int)(ns:List Int)(S:Sto):b7 .In (.int x) (.tup (ns.map D.int)) S=.ok (.bl (decide (x∈ns))) S:=by
 have e:j7 64 S (.tup (ns.map D.int))=some (.tuple (ns.map PyData.int)):=by
  show(e9 (j7 63 S) (ns.map D.int)).map PyData.tuple=_;rw[dg 62 S ns];rfl
 show inD false (.int x) (.tup (ns.map D.int)) S=_;unfold inD;rw[e];show X9 false (.int x) (ns.map PyData.int) S=_;unfold X9;have hd:PyData.depth (.int x)=0:=by simp[PyData.depth]
 rw[if_pos ⟨rfl,gz ns,by rw[hd];omega⟩,iE];rfl
theorem vc{d:D}(S:Sto)(h:ds.getLast?=some d):ixD (.tup ds) (.int (-1)) S=.ok d S:=by
 have a:ds≠[]:=λz=>by subst z;cases h
 have b:=List.length_pos_iff.mpr a;show Y1 (atI ds (-1)) S=_;have:atI ds (-1)=some d:=by
  unfold atI ixN;rw[if_neg (by omega),if_pos (by omega)];show ds[((-1:Int)+(ds.length:Int)).toNat]?=some d;rw[show((-1:Int)+(ds.length:Int)).toNat=ds.length-1 by omega,<- List.getLast?_eq_getElem?];exact h
 rw[this];rfl
def Ex(S S':Sto):Prop:=∃T,S'=S++T
theorem Ex.refl(S:Sto):Ex S S:=⟨[],by simp⟩
theorem Ex.trans(h:Ex a b)(k:Ex b c):Ex a c:=by
 obtain⟨t,rfl⟩:=h;obtain⟨u,rfl⟩:=k;exact⟨t++u,by simp⟩
theorem Ex.at{S S':Sto}(h:Ex S S'){q:Nat}(hq:q<S.length):S'[q]?=S[q]?:=by
 obtain⟨t,rfl⟩:=h;rw[Hj hq]
theorem pE(e:S[n]?=some (.lst es)):lstOf (.ref n) S=.ok es S:=by simp only[lstOf,e]
def Tk(p:Nat)(S S':Sto):Prop:=S.length<=S'.length/\∀q,q<S.length->q≠p->S'[q]?=S[q]?
theorem Tk.refl(p:Nat)(S:Sto):Tk p S S:=⟨Hd _,λ_ _ _=>rfl⟩
theorem Tk.trans(h:Tk p a b)(k:Tk p b c):Tk p a c:=⟨HJ h.1 k.1,λq e d=>by rw[k.2 q (Hx e h.1) d,h.2 q e d]⟩
theorem Ex.tk{a b:Sto}(h:Ex a b):Tk p a b:=⟨by obtain⟨t,rfl⟩:=h;simp,λq c _=>h.at c⟩
theorem xY{y:D}(e:S[n]?=some (.lst es))(a:es.length<sizeLine):P7 (.ref n) [y] S=.ok .non (S.set n (.lst (es++[y]))):=by simp only[P7,e,if_pos a]
def Fw(ns:List Int)(p N:Nat)(S:Sto):Prop:=∃a l t:Int,S[p]?=some (j4 ns a l t)/\0<=a/\0<=l/\0<=t/\t+N<1000000
theorem Fw.less{p N K:Nat}{S:Sto}(h:Fw ns p N S)(g:K<=N):Fw ns p K S:=by
 obtain⟨a,l,t,e,b,d,c,f⟩:=h;exact⟨a,l,t,e,b,d,c,by omega⟩
theorem Fw.keep(h:Fw ns p N S)(e:S'[p]?=S[p]?):Fw ns p N S':=by
 obtain⟨a,l,t,c,b⟩:=h;exact⟨a,l,t,by rw[e];exact c,b⟩
theorem Fw.lt(h:Fw ns p N S):p<S.length:=by
 obtain⟨a,l,t,e,_⟩:=h;exact(Hb.mp e).1
theorem Fw.push(h:Fw ns p N S)(o:O):Fw ns p N (S++[o]):=h.keep (by rw[Hj h.lt])
def Xn{a:Type}(m:M a)(S:Sto)(Q:Nat->Sto->Prop):Prop:=∃n S',m S=.exn n S'/\Q n S'
theorem Xn.bind{k:α->M β}{S:Sto}{Q:Nat->Sto->Prop}(h:Xn m S Q):Xn (L3.bind m k) S Q:=by
 obtain⟨n,S',e,q⟩:=h;exact⟨n,S',by unfold L3.bind;rw[e],q⟩
theorem Xn.ok{k:α->M β}{S:Sto}{Q:Nat->Sto->Prop}(h:Ok m S λa S1=>Xn (k a) S1 Q):Xn (L3.bind m k) S Q:=by
 obtain⟨a,S1,e,n,S',b,q⟩:=h;exact⟨n,S',by unfold L3.bind;rw[e];exact b,q⟩
theorem Xn.cg(e:m=m')(h:Xn m' S Q):Xn m S Q:=e▸h
theorem Ok.nx(h:Ok m S Q):Ok (L3.nx m) S Q:=by
 obtain⟨a,S1,e,q⟩:=h;exact⟨a,S1,by unfold L3.nx;rw[e],q⟩
theorem Ok.try_{b:Nat->Bool}{c:Option Nat}{ρ:L3.Env}{S:Sto}{Q:Fl->Sto->Prop}(k:Ok (g ρ) S Q):Ok (ap g b c h ρ) S Q:=by
 obtain⟨a,S1,e,q⟩:=k;exact⟨a,S1,by unfold ap;rw[e],q⟩
theorem Ok.caught{a:Nat->Bool}{b:Option Nat}{ρ:L3.Env}{S:Sto}{Q:Fl->Sto->Prop}(k:Xn (g ρ) S λn S1=>∃c fs,S1[n]?=some (.exc c fs)/\a c=true/\Ok (h (pz b n ρ)) S1 λd S2=>Q (kC b d) S2):Ok (ap g a b h ρ) S Q:=by
 obtain⟨n,S1,e,c,fs,j,hs,i⟩:=k;obtain⟨d,S2,f,q⟩:=i;refine⟨kC b d,S2,?_,q⟩;unfold ap;rw[e];simp only[j,hs,LQ];unfold L3.bind L3.nx;rw[f];rfl
def nxt{d:Type}(q:EvK)(e:Lc)(c:List Stmt)(k:Fl->M d):Fl->M d:=λb=>match b with
 | .nx a=>k0 q e c a k
 | b=>k b
section
variable {α:Type}{q:EvK}{lc:Lc}{st:Stmt}{sts:List Stmt}{ρ:L3.Env}{k:Fl->M α}{S:Sto}{Q:α->Sto->Prop}{P:Nat->Sto->Prop}
theorem Ok.first(h:Ok (q.s lc st ρ (nxt q lc sts k)) S Q):Ok (k0 q lc (st::sts) ρ k) S Q:=h
theorem Ok.nxt(h:Ok (q.s lc st ρ (L3.nxt q lc sts k)) S Q):Ok (L3.nxt q lc (st::sts) k (.nx ρ)) S Q:=h
theorem Xn.first(h:Xn (q.s lc st ρ (nxt q lc sts k)) S P):Xn (k0 q lc (st::sts) ρ k) S P:=h
theorem Xn.nxt(h:Xn (q.s lc st ρ (L3.nxt q lc sts k)) S P):Xn (L3.nxt q lc (st::sts) k (.nx ρ)) S P:=h
theorem Ok.pos[Decidable c]{a b:M α}(h:c)(k:Ok a S Q):Ok (if c then a else b) S Q:=by rw[if_pos h];exact k
theorem Ok.neg[Decidable c]{a b:M α}(h:¬ c)(k:Ok b S Q):Ok (if c then a else b) S Q:=by rw[if_neg h];exact k
theorem Xn.pos[Decidable c]{a b:M α}(h:c)(k:Xn a S P):Xn (if c then a else b) S P:=by rw[if_pos h];exact k
theorem Xn.neg[Decidable c]{a b:M α}(h:¬ c)(k:Xn b S P):Xn (if c then a else b) S P:=by rw[if_neg h];exact k
end
def fin{b:Type}(κ:Fl->M b):Fl->M b:=λa=>match a with
 | .nx ρ=>κ (.nx ρ)
 | a=>κ a
theorem Xn.cgS(e:m S=m' S)(h:Xn m' S Q):Xn m S Q:=by
 obtain⟨n,S1,a,q⟩:=h;exact⟨n,S1,by rw[e];exact a,q⟩
theorem Xn.eq{k:α->M β}{S S1:Sto}{a:α}{Q:Nat->Sto->Prop}(e:m S=.ok a S1)(h:Xn (k a) S1 Q):Xn (L3.bind m k) S Q:=Xn.ok ⟨a,S1,e,h⟩
theorem Xn.mono(h:Xn m S Q)(i:∀n S1,Q n S1->Q' n S1):Xn m S Q':=by
 obtain⟨n,S1,e,q⟩:=h;exact⟨n,S1,e,i _ _ q⟩
theorem ee{i:Nat}{x:D}{S:Sto}(h:i<ds.length)(n:ds.length<=1000) :
  Ok (bind (U2 (.int (i:Int))) λc=>bind (slD (.tup ds) none c) λk=>bind (n8 k (.tup [x])) λb=>bind (n8 (.int (i:Int)) (.int 1)) λj=>bind (U2 j) λf=>bind (slD (.tup ds) f none) λx6=>bind (n8 b x6) λx7=>ret x7) S λd S'=>d=.tup (ds.set i x)/\S'=S:=by
 have m:(1001:Nat)<=sizeLine:=by decide
 have e:((i:Int)+1)=((i+1:Nat):Int):=by omega
 have l:B6 ds none (some (i:Int))=ds.take i:=ow (by omega);have g:B6 ds (some ((i:Int)+1)) none=ds.drop (i+1):=by rw[e];exact fh (by omega)
 refine Ok.eq rfl (Ok.eq (a:=.tup (ds.take i)) (by rw[<- l];rfl) (Ok.eq (cat_tup (by simp;omega)) (Ok.eq rfl (Ok.eq rfl (Ok.eq (a:=.tup (ds.drop (i+1))) (by rw[<- g];rfl) (Ok.eq (cat_tup (by simp;omega)) (Ok.ret ⟨?_,rfl⟩)))))));rw[List.set_eq_take_append_cons_drop,if_pos h,JD];rfl
theorem kJ(S:Sto)(a b:O):(S++[a]).set S.length b=S++[b]:=by simp
theorem BA{r:Nat}(h:r<100):Pln 0 (.int (r:Int)):=by
 show((r:Int)).natAbs<=dZ 0;have:dZ 0≥100:=by decide +kernel
 omega
theorem dG:∀{ds:List D},(∀d∈ds,sz d<=n)->szs ds<=(n+2) * ds.length
 | [],_=>Hd _
 | d::ds,h=>by
  have c:=h d (by simp);have b:=dG (ds:=ds) λx a=>h x (by simp[a]);show sz d+2+szs ds<=(n+2) * (ds.length+1);rw[Nat.mul_add];omega
theorem mz(ns:List Int):∃ms:List Int,B6 (ns.map D.int) none (some 63)=ms.map D.int:=⟨(ns.drop (HT.sIx ns.length 0 none)).take (HT.sIx ns.length ns.length (some 63)-HT.sIx ns.length 0 none),by simp[B6,List.map_drop,List.map_take]⟩
theorem T9(n:Nat)(S:Sto):iA 0 n n S=some none:=by
 show some (if n<n then _ else none)=some none;rw[if_neg (Jn _)]
theorem aJ{n i:Nat}(h:i<n)(S:Sto):iA 0 n i S=some (some (.int (i:Int))):=by rw[BJ,w9 (List.getElem?_range h)]
structure Sml(n N:Nat)(d:D):Prop where
 pl:Pln 0 d
 dp:dp d<=n
 sz:sz d<=N
def Smls(n N:Nat)(ds:List D):Prop:=∀d∈ds,Sml n N d
theorem Smls.nil:Smls n N []:=λd h=>by cases h
theorem Smls.cons(h:Sml n N d)(hs:Smls n N ds):Smls n N (d::ds):=λx a=>by
 rcases Ho.mp a with z | z
 ·rw[z];exact h
 ·exact hs x z
theorem Smls.map{b:Type}{n N:Nat}{f:b->D}{l:List b}(h:∀a∈l,Sml n N (f a)):Smls n N (l.map f):=λx c=>by
 obtain⟨a,d,rfl⟩:=HN.mp c;exact h a d
theorem Sml.mono{d:D}(h:Sml n N d)(b:n<=n')(a:N<=N'):Sml n' N' d:=⟨h.pl,HJ h.dp b,HJ h.sz a⟩
theorem Sml.up{n N a N':Nat}{d:D}(h:Sml n N d)(c:n<=a:=by decide)(b:N<=N':=by decide):Sml a N' d:=h.mono c b
theorem Sml.tup{ds:List D}(h:Smls n N ds)(a:ds.length<=m):Sml (n+1) ((N+2) * m+3) (.tup ds):=by
 have s:=dG λd hd=>(h d hd).sz;have b:=oe λd hd=>(h d hd).dp;refine⟨Plns.of λd hd=>(h d hd).pl,by show dps ds+1<=n+1;omega,?_⟩;show szs ds+3<=_;have:=Nat.mul_le_mul_left (N+2) a;omega
theorem Sml.nat{n N i:Nat}(h:i<100)(a:60<=N:=by decide):Sml n N (.int (i:Int)):=⟨BA h,HY _,a⟩
theorem Sml.non{n N:Nat}(a:5<=N:=by decide):Sml n N .non:=⟨trivial,HY _,a⟩
theorem Sml.bl{n N:Nat}{b:Bool}(a:5<=N:=by decide):Sml n N (.bl b):=⟨trivial,HY _,a⟩
theorem Sml.w(h:smB n N d=true:=by decide +kernel):Sml n N d:=⟨(bA h).1,(bA h).2.1,(bA h).2.2⟩
theorem Sml.any(h:Sml n N d)(hn:n<=43):Any 40 N d:=⟨h.pl.ups,by have:=h.dp;omega,h.sz⟩
theorem C7(a b:Int)(S:Sto):b7 .Eq (.int a) (.int b) S=.ok (.bl (decide (a=b))) S:=rfl
theorem DL(a b:Int)(S:Sto):b7 .NotEq (.int a) (.int b) S=.ok (.bl (!decide (a=b))) S:=rfl
theorem fT(a b:Int)(S:Sto):b7 .Lt (.int a) (.int b) S=.ok (.bl (decide (a<b))) S:=rfl
theorem bz(a b:Int)(S:Sto):b7 .Gt (.int a) (.int b) S=.ok (.bl (decide (b<a))) S:=rfl
theorem zi(a b:Nat)(S:Sto):n8 (.int (a:Int)) (.int (b:Int)) S=.ok (.int ((a+b:Nat):Int)) S:=by
 show R.ok (D.int ((a:Int)+(b:Int))) S=_;rw[show((a:Int)+(b:Int))=((a+b:Nat):Int) by omega]
theorem ic{a b:Nat}(h:b<=a)(S:Sto):iI (.int (a:Int)) (.int (b:Int)) S=.ok (.int ((a-b:Nat):Int)) S:=by
 show R.ok (D.int ((a:Int)-(b:Int))) S=_;rw[show((a:Int)-(b:Int))=((a-b:Nat):Int) by omega]
theorem nx_bind{k:α->M β}{S:Sto}{Q:β->Sto->Prop}(h:Ok m S λa S1=>Ok (k a) S1 Q):Ok (L3.bind (L3.nx m) k) S Q:=Ok.bind (Ok.nx h)
theorem i4(h:Ok m S λd S'=>d=a/\S'=S):m S=.ok a S:=by
 obtain⟨d,S',e,rfl,rfl⟩:=h;exact e
theorem vH{κ:Fl->M α}(b:ds.length=fs.length)(a:ds.all (E6 S)=true):Xn (L3.bind (F8 c fs ds) λd=>L3.bind (v5 d) κ) S λn S'=>n=S.length/\S'=S++[.exc c (fs.zip ds)]:=by
 refine Xn.ok ⟨_,_,ya b a,Xn.bind ⟨S.length,S++[.exc c (fs.zip ds)],?_,rfl,rfl⟩⟩;simp[v5]
theorem Ok.loop{n:Nat}(I:Nat->L3.Env->Sto->Prop)(hend:∀ρ S,I n ρ S->src n S=some none)
  (step:∀i ρ S,i<n->I i ρ S->∃d ρ1,src i S=some (some d)/\tg d ρ=some ρ1/\Ok (body ρ1) S λfl S'=>∃ρ',(fl=.nx ρ'\/fl=.ct ρ')/\I (i+1) ρ' S') {ρ:L3.Env} {S:Sto} (h:I 0 ρ S) :
  Ok (u4 src tg body (n+1) 0 ρ) S λfl S'=>∃ρ',fl=.nx ρ'/\I n ρ' S':=by
 refine(Ok.for_ I (λ_ _=>False) (λ_ _=>False) hend (λi ρ S hi h=>?_) n 0 ρ S (by omega) h).mono ?_
 ·obtain⟨d,ρ1,e1,e2,k⟩:=step i ρ S hi h;refine⟨d,ρ1,e1,e2,k.mono ?_⟩;rintro fl S' ⟨ρ',rfl | rfl,q⟩
  ·exact q
  ·exact q
 ·rintro fl S' hf;cases fl with
  | nx ρ'=>
   rcases hf with q | q
   ·exact⟨ρ',rfl,q⟩
   ·exact q.elim
  | rt d=>exact hf.elim
  | bk ρ=>exact hf.elim
  | ct ρ=>exact hf.elim
theorem Xn.for_{i0:Nat}(I:Nat->L3.Env->Sto->Prop)
  (e:∀i ρ S,i<i0->I i ρ S->∃d a,src i S=some (some d)/\tg d ρ=some a/\Ok (body a) S λl S'=>∃c,l=.nx c/\I (i+1) c S')
  (f:∀ρ S,I i0 ρ S->∃d a,src i0 S=some (some d)/\tg d ρ=some a/\Xn (body a) S P) :
  ∀(k i:Nat)(ρ:L3.Env)(S:Sto),i<=i0->i0<k+i->I i ρ S->Xn (u4 src tg body k i ρ) S P
 | 0,i,ρ,S,o,n,_=>by omega
 | k+1,i,ρ,S,o,n,h=>by
  have m:∀d a,src i S=some (some d)->tg d ρ=some a->u4 src tg body (k+1) i ρ S=L3.bind (body a) (λl=>match l with
    | .nx b=>u4 src tg body k (i+1) b
    | .ct b=>u4 src tg body k (i+1) b
    | .bk b=>L3.ret (.nx b)
    | .rt d=>L3.ret (.rt d)) S:=λd a j g=>by
   conv=>lhs;unfold u4
   simp only[j,g]
   all_goals rfl
  by_cases z:i=i0
  ·subst z;obtain⟨d,a,j,g,x⟩:=f ρ S h;exact Xn.cgS (m d a j g) (Xn.bind x)
  ·obtain⟨d,a,j,g,x⟩:=e i ρ S (by omega) h;refine Xn.cgS (m d a j g) (Xn.ok (x.mono ?_));rintro _ S1 ⟨c,rfl,q⟩;exact Xn.for_ I e f k (i+1) c S1 (by omega) (by omega) q
def zr(n:Nat):D->Bool
 | .tup ds=>decide (ds.length=n)
 | _=>false
theorem om(a b:Nat):decide ((a:Int)=(b:Int))=decide (a=b):=by
 by_cases q:a=b
 ·rw[Hv q,Hv (by omega)]
 ·rw[Hs q,Hs (by omega)]
theorem tW{f:D->M D}{S:Sto}(hl:ds.length<sizeLine)(hf:∀d∈ds,f d S=.ok (.bl (p d)) S):i5 (B9 ds) (λ_=>ret true) f (ds.length+1) 0 [] S=.ok ((ds.map p).map D.bl) S:=by
 have c:=k5 (h:=id) (t:=λ_=>ret true) hl (λ_ _=>rfl) (λd hd _=>hf d hd);rw[List.map_id,JT.mpr (λ_ _=>rfl)]at c;rw[c,Jm];rfl
theorem wP(h:zr m d=true):∃ds,d=.tup ds/\ds.length=m:=by
 cases d with
 | tup ds=>exact⟨ds,rfl,HR h⟩
 | _=>cases h
theorem all_map(ds:List D)(p:D->Bool):(ds.map p).all id=ds.all p:=by rw[KH];rfl
theorem BN(h:inW ws d=true):∃w,d=.str w/\w∈ws:=by
 cases d with
 | str w=>exact⟨w,rfl,HR h⟩
 | _=>cases h
theorem pR{c:Type}{p:D->Bool}{f:c->D}{q:c->Prop}(h:∀d,p d=true->∃b,f b=d/\q b):∀{ds:List D},ds.all p=true->∃a:List c,a.map f=ds/\∀b∈a,q b
 | [],_=>⟨[],rfl,λb z=>by cases z⟩
 | d::ds,e=>by
  rw[Ib,Gz]at e;obtain⟨b,rfl,g⟩:=h d e.1;obtain⟨a,rfl,hs⟩:=pR h e.2;exact⟨b::a,rfl,λx i=>by
   rcases Ho.mp i with rfl | z
   ·exact g
   ·exact hs x z⟩
end L3
namespace L2
open PySem PySem.Spec PyProof.Rows
section
variable {prog:Program}{w:World}{A:Around}{elt target iter:Expr}{ifs:List Expr}{gens:List Comprehension}{scope:Scope}{pos:Pos}{k:Nat}{it acc:Value}{env:PySem.Env}
theorem nA(hg:gens[k]?=some ⟨target,iter,ifs,0⟩)(hl:gens[k+1]?=none):compTurn (.ListComp elt gens scope pos) k it acc env=(do
   standAt iter.pos
   match <- pyNext it with
   | none=>pure (.done .next)
   | some v=>
    letOwnedTupleGo target it v
    assign target env v
    let mut ok:=true
    for c in ifs do
     if ok then ok <- isTrue c env (eval c env)
    if ok then
     (do let _ <- call (.builtin "list.append") [acc,<- eval elt env])
    again (.compLoop (.ListComp elt gens scope pos) k it acc env)):=by
 unfold compTurn;simp only[hg,hl];rfl
theorem wH(hg:gens[k]?=some ⟨target,iter,ifs,0⟩)(hl:gens[k+1]?=some ⟨t1,i1,ifs1,0⟩):compTurn (.ListComp elt gens scope pos) k it acc env=(do
   standAt iter.pos
   match <- pyNext it with
   | none=>pure (.done .next)
   | some v=>
    letOwnedTupleGo target it v
    assign target env v
    let mut ok:=true
    for c in ifs do
     if ok then ok <- isTrue c env (eval c env)
    if ok then
     let x <- eval i1 env
     standAt i1.pos
     let x <- foldedSetIterable i1 env x
     let _ <- runOwn (.compStart (.ListComp elt gens scope pos) (k+1) (<- holding [x] (pyIter x)) acc env) env
    again (.compLoop (.ListComp elt gens scope pos) k it acc env)):=by
 unfold compTurn;simp only[hg,hl];rfl
abbrev BT:=(Shared->Prop)->Shared->Prop
def J2(prog:Program)(w:World)(A:Around)(e:Expr)(k:Nat)(it i:Value)(a:PySem.Env)(b:Expr)(ifs:List Expr)(B:BT):Prop:=
 ∀(I:Nat->Shared->Prop)(R:Result->Shared->Prop)(n:Nat)(s:Shared),(∀n s,I n s->wpAny (model prog w) A (pyNext it) (λr d=>match r with
   | none=>R (.ok .next) d
   | some v=>wpAny (model prog w) A (assign b a v) (λ_ g=>
     wpAny (model prog w) A (forIn ifs true λc r=>if r=true then do let h <- isTrue c a (eval c a);pure (ForInStep.yield h)else pure (ForInStep.yield r)) (λh f=>
      if h=true then B (λs'=>∃m,m<n/\I m s') f else ∃m,m<n/\I m f) (λ_ _=>False) g) (λ_ _=>False) d) (λ_ _=>False) s) ->
  I n s->codeAny (model prog w) A (.compLoop e k it i a) R s
def iu(prog:Program)(w:World)(A:Around)(d:Expr)(e:Value)(c:PySem.Env):BT:=λP s=>wpAny (model prog w) A (eval d c) (λx a=>
 wpAny (model prog w) A (call (.builtin "list.append") [e,x]) (λ_ b=>P b) (λ_ _=>False) a) (λ_ _=>False) s
def sP(prog:Program)(w:World)(A:Around)(e h:Expr)(k:Nat)(g:Value)(d:PySem.Env):BT:=λP s=>wpAny (model prog w) A (eval h d) (λx b=>
 wpAny (model prog w) A (pyIter x) (λf c=>codeAny (model prog w) A (.compStart e (k+1) f g d) (λr a=>match r with
  | .ok _=>P a
  | .error _=>False) c) (λ_ _=>False) b) (λ_ _=>False) s
theorem L4(o:gens[k]?=some ⟨target,iter,ifs,0⟩)(u:gens[k+1]?=none)(t:∀v,letOwnedTupleGo target it v=pure ()) :
  J2 prog w A (.ListComp elt gens scope pos) k it acc env target ifs (iu prog w A elt acc env):=by
 intro I R n s c h;refine Lx rfl I (λn s p=>?_) n h;refine LL ?_;rw[nA o u];refine Gx (Iz (Gx (Hy (c n s p) (λr g b=>?_) λ_ _ h'=>h'.elim)));cases r with
 | none=>exact Gy b
 | some v=>
  refine Gx (Ky (t v) ?_);refine Gx (Hy b (λ_ m d=>Gx (Hy d (λq l a=>?_) λ_ _ h'=>h'.elim)) λ_ _ h'=>h'.elim);cases q with
  | false=>exact Gy ⟨rfl,a⟩
  | true=>
   exact Gx (Gx (Hy a (λx i f=>Gx (Hy f (λ_ j e=>Gy (Gy ⟨rfl,e⟩)) λ_ _ h'=>h'.elim)) λ_ _ h'=>h'.elim))
theorem Z6(hg:gens[k]?=some ⟨target,iter,ifs,0⟩)(hl:gens[k+1]?=some ⟨t1,i1,ifs1,0⟩)(hfs:∀x,foldedSetIterable i1 env x=pure x)(ht:∀v,letOwnedTupleGo target it v=pure ()) :
  J2 prog w A (.ListComp elt gens scope pos) k it acc env target ifs (sP prog w A (.ListComp elt gens scope pos) i1 k acc env):=by
 intro I R n s turn h;refine Lx rfl I (λn s hI=>?_) n h;refine LL ?_;rw[wH hg hl];refine Gx (Iz (Gx (Hy (turn n s hI) (λr s₁ h₁=>?_) λ_ _ h'=>h'.elim)));cases r with
 | none=>exact Gy h₁
 | some v=>
  refine Gx (Ky (ht v) ?_);refine Gx (Hy h₁ (λ_ s₂ h₂=>Gx (Hy h₂ (λok s₃ h₃=>?_) λ_ _ h'=>h'.elim)) λ_ _ h'=>h'.elim);cases ok with
  | false=>exact Gy ⟨rfl,h₃⟩
  | true=>
   refine Gx (Hy h₃ (λx s₄ h₄=>Gx (Iz ?_)) λ_ _ h'=>h'.elim);rw[hfs x];refine Gx (Gy (Gx (HX (Hy h₄ (λitv s₅ h₅=>?_) λ_ _ h'=>h'.elim))));refine Gx (wpAny_runOwn (IT h₅ λr s₆ h₆=>?_));cases r with
   | ok f=>exact Gy ⟨rfl,h₆⟩
   | error e=>exact h₆.elim
theorem AQ(d:gens[k]?=some ⟨target,iter,ifs,0⟩)
  (b:codeAny (model prog w) A (.compLoop (.ListComp elt gens scope pos) k it acc env) R s)
  (h:wpAny (model prog w) A (pyIter it) (λa s'=>codeAny (model prog w) A (.compLoop (.ListComp elt gens scope pos) k a acc env) R s')
   (notedBy (model prog w) A env λx s'=>R (.error x) s') s) :
  codeAny (model prog w) A (.compStart (.ListComp elt gens scope pos) k it acc env) R s:=by
 refine LD ?_;refine wpAny_notedAt ?_;have c:(clausesOf (.ListComp elt gens scope pos))[k]?=some ⟨target,iter,ifs,0⟩:=d;unfold compStart;rw[c];refine Gx (wpAny_askSetting (wpAny_ite ?_));split
 ·first
   | exact Gx (Gy (Gy (And.intro rfl b)))
   | exact Gy (And.intro rfl b)
 ·refine Gx (Lw ?_);exact Gx (Iz (Gx (Hy h (λa s' h'=>Gy (And.intro rfl h')) λ_ _ x=>x)))
end
abbrev TBo(β:Type):=Nat->St->Hp->β->(β->Hp->Prop)->Prop
abbrev TB:=TBo (List V)
def tEl(te:TE):TB:=λa b H ys Q=>te b H λz H'=>H' a=some (.lst ys)/\ys.length<sizeLine/\Q (ys++[z]) (upd H' a (.lst (ys++[z])))
def pS{c:Type}(J:It)(h:TT)(k:Nat)(o:TBo c):TBo c:=λd f j ys Q=>∃W:Nat->Nat->c->Hp->Prop,(∃m,W 0 m ys j) /\
 ∀i m ys a,W i m ys a->(J.stop i a/\Q ys a)\/(J.go i a/\∀x g,J.yld i a x g->h (f.set k (some x)) g λb e=>
  if b=true then o d (f.set k (some x)) e ys (λn l=>∃m',m'<m/\W (i+1) m' n l)else ∃m',m'<m/\W (i+1) m' ys e)
def tLv{c:Type}(e:TI)(d:TT)(k:Nat)(g:TBo c):TBo c:=λa b H ys Q=>e b H λJ f=>pS J d k g a b f ys Q
def Zn(n k:Nat)(a:St):Prop:=∀i,k<i->i<n->a[i]?=some none
def G6{b:Type}(Y:Cx)(n k:Nat)(B:BT)(c:Nat)(e:TBo b):Prop:=∀(pins:List (Addr×Obj)) (s:Shared) (a:St) (H:Hp) (ys:b) (Q:b->Hp->Prop) (P:Shared->Prop),Zn n k a->Inv Y pins a H s->e c a H ys Q->(∀d H' s',Inv Y pins a H' s'->Q d H'->P s')->B P s
section
variable {X:Cx}{pins0:List (Addr×Obj)}{N':List Str}{scope:Scope}{C:Addr}{fp0:List Addr}{s0:Shared}{H0:Hp}
theorem D0{acc:Nat}{te:TE}{n k:Nat}(he:PE (b6 X pins0 N' scope C fp0 s0 H0) elt te):G6 (b6 X pins0 N' scope C fp0 s0 H0) n k (iu X.prog X.w X.A elt (.ref acc) (b6 X pins0 N' scope C fp0 s0 H0).env) acc (tEl te):=by
 intro pins s σ H ys Q P _ I h hP;refine i6 (thn (he pins s σ H _ I h) λz s9 ⟨y,H9,I9,r9,hacc9,hl9,q⟩=>?_);refine i6 (thn (V3 _ s9 _ H9 (.ref acc) [y] (.ref acc) [z] (λ_ H'=>H'=upd H9 acc (.lst (ys++[y]))) I9 rfl (.cons r9 .nil) ⟨_,ys,y,rfl,rfl,hacc9,hl9,rfl⟩) λ_ s10 ⟨_,H10,I10,_,e10⟩=>?_);subst e10;exact hP _ _ _ I10 q
theorem dS{n k:Nat}{x:Str}{px:Pos}{ifs:List Expr}{B:BT}{tc:TT}{β:Type}{tb:TBo β}{acc it:Nat}{fp:List Addr}{tn:Nat->Heap->Prop}{J:It}{pins:List (Addr×Obj)}{σ:St}{H:Hp}{s:Shared}{ys:β}{Q:β->Hp->Prop}{R:Result->Shared->Prop}
  (hc:X.calm=true) (hN:N'.Nodup) (hx0:N'[k]?=some x) (hxl:scope.names.lookup x=some .local)
  (L:J2 X.prog X.w X.A e k (.ref it) (.ref acc) (b6 X pins0 N' scope C fp0 s0 H0).env (.Name x px) ifs B)
  (ht:PTL (b6 X pins0 N' scope C fp0 s0 H0) ifs tc) (hb:G6 (b6 X pins0 N' scope C fp0 s0 H0) n k B acc tb) (Tn:Turn X.prog X.w X.K (.Name x px) J fp it tn)
  (stat:∀{H':Hp},(∀b∈fp,H' b=none)->∀b∈fp,C6 (b6 X pins0 N' scope C fp0 s0 H0) pins H' b)
  (I0:Inv (b6 X pins0 N' scope C fp0 s0 H0) pins σ H s) (st:tn 0 s.heap) (fr:∀b∈fp,H b=none) (hσ:σ[k]?=some none) (hz:Zn n k σ) (h:pS J tc k tb acc σ H ys Q)
  (fin:∀zs H' s',Inv (b6 X pins0 N' scope C fp0 s0 H0) pins σ H' s'->Q zs H'->R (.ok .next) s'):codeAny (model X.prog X.w) X.A (.compLoop e k (.ref it) (.ref acc) (b6 X pins0 N' scope C fp0 s0 H0).env) R s:=by
 obtain⟨W,⟨m0,w0⟩,turn⟩:=h;refine L (λn s'=>∃i ys H',Inv (b6 X pins0 N' scope C fp0 s0 H0) pins σ H' s'/\tn i s'.heap/\(∀b∈fp,H' b=none)/\W i n ys H') R m0 s ?_ ⟨0,ys,H,I0,st,fr,w0⟩;rintro q s4 ⟨i,ys,H4,I4,st4,fr4,w4⟩;rcases turn i q ys H4 w4 with ⟨stop,q⟩ | ⟨go,step⟩
 ·refine thn (Tn.done (b6 X pins0 N' scope C fp0 s0 H0) rfl rfl rfl hc i pins s4 _ H4 (λ_ _=>False) I4 (stat fr4) st4 stop) λr s5 ⟨hr,I5⟩=>?_;subst hr;exact fin _ _ _ I5 q
 ·refine thn (Tn.item (b6 X pins0 N' scope C fp0 s0 H0) rfl rfl rfl hc i pins s4 _ H4 (λ_ _=>False) I4 (stat fr4) st4 go) λr s5 ⟨u,hr,h5⟩=>?_;subst hr;refine i6 (dm rfl (thn h5 λ_ s6 ⟨xv,H6,I6,r6,y6,st6,fr6⟩=>?_));have I6':=I6.pinned (stat fr6) (Tn.obj _ _ st6);refine thn (L9 (X:=(b6 X pins0 N' scope C fp0 s0 H0)) hN hx0 (.inl (IK hxl)) (.inr (IK hxl)) _ s6 _ H6 xv u (λσ2 H4=>σ2=σ.set k (some xv)/\H4=H6) I6' r6 ⟨rfl,rfl⟩) λ_ s7 ⟨σ7,H7,I7,e7,e7'⟩=>?_;subst e7 e7';have back:∀{σ8:St}{H8:Hp}{s8:Shared},Inv (b6 X pins0 N' scope C fp0 s0 H0) (pins++J8 fp s6.heap) σ8 H8 s8->tn (i+1) s8.heap/\∀b∈fp,H8 b=none:=λ{σ8 H8 s8} I8=>by
   refine⟨Tn.keep _ _ _ st6 λb hb o e=>(I8.pin (b,o) (HI _ (HI _ (v1 hb e)))).1,λb hb=>?_⟩;obtain⟨o,e,d⟩:=Tn.obj _ _ st6 b hb;exact(I8.pin (b,o) (HI _ (HI _ (v1 hb e)))).2.1
  have wk:∀{H9:Hp}{s9:Shared},Inv (b6 X pins0 N' scope C fp0 s0 H0) (pins++J8 fp s6.heap) (σ.set k (some xv)) H9 s9->Inv (b6 X pins0 N' scope C fp0 s0 H0) pins σ H9 s9:=λ{H9 s9} I9=>
   I9.unpinned.weak (by simp) λj v e=>by
    by_cases hj:k=j
    ·subst hj;rw[hσ]at e;cases e
    ·rw[HP hj];exact e
  refine i6 (thn (ht _ s7 _ _ _ I7 (step xv _ y6)) λb s8 ⟨H8,I8,q8⟩=>?_);cases b with
  | false=>
   obtain⟨m',hm,w'⟩:=q8;exact⟨m',hm,i+1,ys,H8,wk I8,(back I8).1,(back I8).2,w'⟩
  | true=>
   rw[if_pos rfl]at q8 ⊢;exact hb _ s8 _ H8 ys _ _ (λi h1 h2=>by rw[HP (by omega)];exact hz i h1 h2) I8 q8 λzs H' s' I9 ⟨m',hm,w'⟩=>⟨m',hm,i+1,zs,H',wk I9,(back I9).1,(back I9).2,w'⟩
theorem R6{a:List Comprehension}{pos:Pos}{n k:Nat}{x:Str}{w:Pos}{u:Expr}{ifs:List Expr}{B:BT}{E:TI}{G:TT}{U:Type}{F:TBo U}{c:Nat}(O:a[k+1]?=some ⟨.Name x w,u,ifs,0⟩)(z:k+1<n)
  (Y:X.calm=true) (W:N'.Nodup) (y:N'[k+1]?=some x) (v:scope.names.lookup x=some .local)
  (L:∀it,J2 X.prog X.w X.A (.ListComp elt a scope pos) (k+1) (.ref it) (.ref c) (b6 X pins0 N' scope C fp0 s0 H0).env (.Name x w) ifs B)
  (M:PI (b6 X pins0 N' scope C fp0 s0 H0) (.Name x w) u E) (T:PTL (b6 X pins0 N' scope C fp0 s0 H0) ifs G) (f:G6 (b6 X pins0 N' scope C fp0 s0 H0) n (k+1) B c F) :
  G6 (b6 X pins0 N' scope C fp0 s0 H0) n k (sP X.prog X.w X.A (.ListComp elt a scope pos) u k (.ref c) (b6 X pins0 N' scope C fp0 s0 H0).env) c (tLv E G (k+1) F):=by
 intro pins s V H ys Q P hz I h J;refine i6 (thn (M pins s V H _ I h) λv9 s9 R=>i6 (thn R λD p t=>?_));obtain⟨m,S,Z,J1,N,rfl,A,g,d,j,q⟩:=t;have o:∀e:Shared,e=p->codeAny (model X.prog X.w) X.A (.compLoop (.ListComp elt a scope pos) (k+1) (.ref m) (.ref c) (b6 X pins0 N' scope C fp0 s0 H0).env) (λr l=>match r with
  | .ok _=>P l
  | .error _=>False) e:=by
  rintro e rfl;exact dS Y W y v (L m) T f g (λz b f=>⟨z b f,(j b f).2⟩) A d (λb f=>(j b f).1) (hz _ (HS _) z) (λi h1 K=>hz i (by omega) K) q J
 exact AQ O (o _ rfl) (g.self _ 0 _ _ _ d (o _ rfl))
end
def aA(n:Nat)(caps:List Nat)(f:TI)(e:TT)(g:TB):TE:=λb H Q=>f b H λJ d=>∀a,d a=none->pS J e 0 g a (List.replicate n none++A3 caps b) (upd d a (.lst [])) [] λys c=>c a=some (.lst ys)/\Q (.ref a) c
section
variable {X:Cx}{elt iter:Expr}{x:Str}{px:Pos}{ifs:List Expr}{gens:List Comprehension}{scope:Scope}{pos:Pos}{N':List Str}{n:Nat}{caps:List Nat}{wi:TI}{tc:TT}{tb:TB}{B:Cx->Nat->BT}
theorem bJ(Y:0<n)(T:CompText X.N X.env N' n caps scope)(hc:X.calm=true)(hN:N'.Nodup)(Z:N'[0]?=some x)(R:scope.names.lookup x=some .local)(hi:PI X (.Name x px) iter wi)
  (L:∀it j env,J2 X.prog X.w X.A (.ListComp elt (⟨.Name x px,iter,ifs,0⟩::gens) scope pos) 0 (.ref it) (.ref j) env (.Name x px) ifs (B { X with env:=env } j))
  (ht:∀pins C k s H,PTL (b6 X pins N' scope C k s H) ifs tc)
  (d:∀pins C k s H j,G6 (b6 X pins N' scope C k s H) n 0 (B { X with env:=(b6 X pins N' scope C k s H).env } j) j tb)
  (hs:∀x,foldedSetIterable iter X.env x=pure x):PE X (.ListComp elt (⟨.Name x px,iter,ifs,0⟩::gens) scope pos) (aA n caps wi tc tb):=by
 intro pins s U H Q I h;have fr:∀x∈scope.names,x.2=NameKind.free->∃c,X.env.cells.lookup x.1=some c:=λx hx hk=>I.ok.has x.1 (T.free x hx hk).2;rw[eval_ListComp];refine Jo rfl hs (v6 fr) T.kind T.loc ?_;refine thn (hi pins s U H _ I h) λv s1 h1=>thn h1 λitv s2 M=>?_;obtain⟨it,k,tn,J,O,rfl,S,K,D,F,M⟩:=M;have V:=M s2.heap.objs.size (S.hok.fresh (Hd _));have E:=λb d=>let ⟨o,e,_⟩:=K.obj _ _ D b d;Hk e
 refine HF (JJ T.cell (by intro y hy;simp at hy) (λz f a=>?_) T.kind);have hC:(s2.heap.push { cls:=.type "list",dict:=none,data:=.seq ([]:List Value).toArray }).objs.size=s2.heap.objs.size+1:=IA ..;rw[hC]at f a;have r:=λb o e=>a.extBut b o (Hq (Ig (Hk e))) (Ha _ (Ha _ e));have u:=a.extBut _ _ (Hq (HS _)) (Ha _ (Hr _ rfl));have g:=K.keep _ _ _ D λb _ o e=>r b o e;have G:=P0 (t:=s2.toks+([]:List (Str×Value)).length) T S F E f r u;have A:∀{H':Hp},(∀b∈k,H' b=none)->∀b∈k,C6 (b6 X pins N' scope (s2.heap.objs.size+1) k s2 O) [] H' b:=λY b d=>by
  refine⟨Y b d,(G.ok.exf b d).1,G.ok.exfs b d,.inl d,(G.ok.exf b d).2,λp hp=>?_⟩;have N:p∈X.pn++pins:=by
   have:=hp;rwa [HU]at this
  exact(F b d).2.2.2.2.2 p N
 have zn:∀i,i<n->(List.replicate n none++A3 caps U)[i]?=some none:=λi h=>by
  rw[Hj (by simpa using h),Ip,if_pos h]
 have l:∀W:Shared,W={ s2 with heap:=z,toks:=s2.toks+([]:List (Str×Value)).length } ->
   codeAny (model X.prog X.w) X.A (.compLoop (.ListComp elt (⟨.Name x px,iter,ifs,0⟩::gens) scope pos) 0 (.ref it) (.ref s2.heap.objs.size) (compEnvC scope (O9 X.env.cells scope.names) (s2.heap.objs.size+1) X.env))
    (compPost (model X.prog X.w) X.A X.xe none (EP X pins U Q) (.ref s2.heap.objs.size) (s2.heap.objs.size+1)) W:=by
  rintro W rfl;refine dS hc hN Z R (L it _ _) (ht pins _ k s2 O) (d pins _ k s2 O _) K A G g (λb d=>by rw[a9 (Hq (E b d))];exact(F b d).1) (zn 0 Y) (λi _ h=>zn i h) V λzs H4 s5 m ⟨_,q⟩=>?_;obtain⟨m5,P,_⟩:=id m.loc;refine⟨m5,P,λh' hs'=>?_⟩;refine⟨.ref s2.heap.objs.size,H4,?_,rfl,q⟩;refine S.call' m.os (Un.sameBut m.base hs' (Ir _)) (m.hok.sameBut m.free hs') m.bare λb d=>?_;have:=F b d;exact⟨this.2.2.2.1,this.2.1,this.2.2.2.2.1,this.2.2.2.2.2⟩
 have w:=Kq (l _ rfl) (K.self _ 0 _ _ _ g (l _ rfl));rw[<- hC]at w;exact w
theorem eY{iy:Nat}(hsw:swapsWith (.ListComp elt (⟨.Name x px,iter,ifs,0⟩::gens) scope pos) (some (.Name y py)) spos.line X.env=pure true)(hNX:X.N.Nodup)(hiy:X.N[iy]?=some y)(hy:Loc X.env.scope y)(hf:X.fn y=true\/X.env.scope.names.lookup y=some .local)
  (hn:0<n) (T:CompText X.N X.env N' n caps scope) (hc:X.calm=true) (hN:N'.Nodup) (hx0:N'[0]?=some x) (hxl:scope.names.lookup x=some .local) (hi:PI X (.Name x px) iter wi)
  (L:∀it acc env,J2 X.prog X.w X.A (.ListComp elt (⟨.Name x px,iter,ifs,0⟩::gens) scope pos) 0 (.ref it) (.ref acc) env (.Name x px) ifs (B { X with env:=env } acc))
  (ht:∀pins C fp s H,PTL (b6 X pins N' scope C fp s H) ifs tc)
  (hb:∀pins C fp s H acc,G6 (b6 X pins N' scope C fp s H) n 0 (B { X with env:=(b6 X pins N' scope C fp s H).env } acc) acc tb)
  (hs:∀x,foldedSetIterable iter X.env x=pure x):PS X (.Assign [.Name y py] (.ListComp elt (⟨.Name x px,iter,ifs,0⟩::gens) scope pos) spos) (qJ (aA n caps wi tc tb) (aK iy)):=by
 intro pins s σ H D I h;have fr:∀x∈scope.names,x.2=NameKind.free->∃c,X.env.cells.lookup x.1=some c:=λx hx hk=>I.ok.has x.1 (T.free x hx hk).2;rw[exec_Assign_Name_used _ _ _ _ hsw];refine Gx (Iz (Gx ?_));refine Gx (Hy (Jo rfl hs (v6 fr) T.kind T.loc ?_) (λ_ s' hq=>Gy (Gy hq)) λ_ _ e=>e);refine thn (hi pins s σ H _ I h) λv s1 h1=>thn h1 λitv s2 h2=>?_;obtain⟨it,fp,tn,J,H2,rfl,I2,Tn,st2,f2,h2⟩:=h2;have run:=h2 s2.heap.objs.size (I2.hok.fresh (Hd _));have hlt:=λb hb=>let ⟨o,e,_⟩:=Tn.obj _ _ st2 b hb;Hk e
 refine HF (JJ T.cell (by intro y hy;simp at hy) (λh₁ hns₁ hsb₁=>?_) T.kind);have hC:(s2.heap.push { cls:=.type "list",dict:=none,data:=.seq ([]:List Value).toArray }).objs.size=s2.heap.objs.size+1:=IA ..;rw[hC]at hns₁ hsb₁;have old:=λb o e=>hsb₁.extBut b o (Hq (Ig (Hk e))) (Ha _ (Ha _ e));have hacc:=hsb₁.extBut _ _ (Hq (HS _)) (Ha _ (Hr _ rfl));have hst₁:=Tn.keep _ _ _ st2 λb _ o e=>old b o e;have I3:=P0 (t:=s2.toks+([]:List (Str×Value)).length) T I2 f2 hlt hns₁ old hacc;have stat:∀{H':Hp},(∀b∈fp,H' b=none)->∀b∈fp,C6 (b6 X pins N' scope (s2.heap.objs.size+1) fp s2 H2) [] H' b:=λhn b hb=>by
  refine⟨hn b hb,(I3.ok.exf b hb).1,I3.ok.exfs b hb,.inl hb,(I3.ok.exf b hb).2,λp hp=>?_⟩;have hp':p∈X.pn++pins:=by
   have:=hp;rwa [HU]at this
  exact(f2 b hb).2.2.2.2.2 p hp'
 have zn:∀i,i<n->(List.replicate n none++A3 caps σ)[i]?=some none:=λi h=>by
  rw[Hj (by simpa using h),Ip,if_pos h]
 have loop:∀s3:Shared,s3={ s2 with heap:=h₁,toks:=s2.toks+([]:List (Str×Value)).length } ->
   codeAny (model X.prog X.w) X.A (.compLoop (.ListComp elt (⟨.Name x px,iter,ifs,0⟩::gens) scope pos) 0 (.ref it) (.ref s2.heap.objs.size) (compEnvC scope (O9 X.env.cells scope.names) (s2.heap.objs.size+1) X.env))
    (compPost (model X.prog X.w) X.A X.xe (some (assign (.Name y py) X.env)) (λ_ s'=>SP X pins D .next s') (.ref s2.heap.objs.size) (s2.heap.objs.size+1)) s3:=by
  rintro s3 rfl;refine dS hc hN hx0 hxl (L it _ _) (ht pins _ fp s2 H2) (hb pins _ fp s2 H2 _) Tn stat I3 hst₁ (λb hb=>by rw[a9 (Hq (hlt b hb))];exact(f2 b hb).1) (zn 0 hn) (λi _ h=>zn i h) run λzs H4 s5 I5 ⟨_,q⟩=>?_;obtain⟨m5,hn5,_⟩:=id I5.loc;have IX:=I2.call' I5.os I5.base I5.hok I5.bare λb hb=>by
   have:=f2 b hb;exact⟨this.2.2.2.1,this.2.1,this.2.2.2.2.1,this.2.2.2.2.2⟩
  have C0:s2.heap.objs.size<=s2.heap.objs.size+1:=Ir _;have cC:∀z c,X.env.cells.lookup z=some c->c≠s2.heap.objs.size+1:=λz c e=>by
   obtain⟨v,oc,ho,_⟩:=I2.cell z c e;exact Hq (Ig (Hk ho))
  have lC:=Hq (Ig I2.lt);refine wpAny_assign_Name (bb (v:=.ref s2.heap.objs.size) IX hNX hiy hy rfl (λs6 I6 ⟨a,sb,ha⟩=>?_) hf);have aC:s2.heap.objs.size+1≠a:=λz=>by
   rcases ha with ha | ha
   ·exact lC (by rw[<- ha,<- z])
   ·exact cC _ _ ha z.symm
  refine⟨m5,hn5.sameBut sb aC,λh' hs'=>?_⟩;refine⟨_,H4,I6.turned (λb o hb e=>hs'.extBut b o hb e) I5.free lC.symm (.inr (HJ I2.sz C0)) cC (λp hp=>?_),q⟩;exact Hq (Ig (Hk (I2.pin p hp).1))
 have fin:=Kq (loop _ rfl) (Tn.self _ 0 _ _ _ hst₁ (loop _ rfl));rw[<- hC]at fin;exact fin
end
end L2
namespace L3
open PySem PySem.Spec PyProof.Rows L2
def lvM(src:Src)(t:D->M Bool)(b:D->List D->M (List D)):Nat->Nat->List D->M (List D)
 | 0,_,_=>bad
 | m+1,i,es=>λS=>match src i S with
  | none=>.bad
  | some none=>.ok es S
  | some (some d)=>bind (t d) (λz=>if z=true then bind (b d es) (λes'=>lvM src t b m (i+1) es')else lvM src t b m (i+1) es) S
abbrev TBM:=Env->List D->M (List D)
def elM(f:Env->M D):TBM:=λρ es=>bind (f ρ) λy=>if es.length<sizeLine then ret (es++[y])else bad
def lvB(c:Env->M (Src×Nat))(t:Env->M Bool)(k:Nat)(b:TBM):TBM:=λρ es=>bind (c ρ) λa=>lvM a.1 (λd=>t (ρ.set k (some d))) (λd=>b (ρ.set k (some d))) a.2 0 es
def D5(n:Nat)(caps:List Nat)(ρ:Env):Env:=List.replicate n none++A4 caps ρ
def X3(n:Nat)(caps:List Nat)(c:Env->M (Src×Nat))(t:Env->M Bool)(b:TBM)(ρ:Env):M (List D):=bind (c ρ) λa=>lvM a.1 (λd=>t ((D5 n caps ρ).set 0 (some d))) (λd=>b ((D5 n caps ρ).set 0 (some d))) a.2 0 []
theorem CW(src:Src)(t:D->M Bool)(b:D->List D->M (List D))(m i:Nat)(es:List D)(κ:List D->M α)(S:Sto):bind (lvM src t b (m+1) i es) κ S=(match src i S with
  | none=>.bad
  | some none=>κ es S
  | some (some d)=>bind (t d) (λz=>if z=true then bind (b d es) (λes'=>bind (lvM src t b m (i+1) es') κ)else bind (lvM src t b m (i+1) es) κ) S):=by
 cases h:src i S with
 | none=>exact(cH (by simp only[lvM,h];rfl)).trans rfl
 | some o=>
  cases o with
  | none=>exact(cH (by simp only[lvM,h];rfl)).trans rfl
  | some d=>
   refine(cH (m':=bind (t d) (λz=>if z=true then bind (b d es) (λes'=>lvM src t b m (i+1) es')else lvM src t b m (i+1) es)) (by simp only[lvM,h])).trans ?_;rw[M5];congr 1;congr 1;funext z;cases z with
   | true=>rw[if_pos rfl,if_pos rfl,M5]
   | false=>rfl
section
variable {K:PySem.W.Frag}{cl:ClW}{xe:Addr->Hp->Prop}
structure Hl(K:PySem.W.Frag)(cl:ClW)(μ1:Mp)(H1:Hp)(acc:Addr)(μ:Mp)(H:Hp)(S:Sto)(ys:List V)(es:List D):Prop where
 h:HLat μ1 H1 acc μ H
 n:acc∉μ.pl
 a:H acc=some (.lst ys)
 r:Rep K cl μ S H
 d:RDs K μ H es ys
theorem Hl.later{b H H':Hp}{a:Addr}{S S':Sto}{ys:List V}{es:List D}(h:Hl K cl μ1 b a μ H S ys es)(l:Lat μ H μ' H')(r:Rep K cl μ' S' H'):Hl K cl μ1 b a μ' H' S' ys es:=
 ⟨h.h.step l,l.out h.a h.n,l.oth _ _ h.a h.n,r,h.d.later l⟩
theorem EnvOk.laterU{H a:Hp}{ρ:Env}{b:L2.St}(h:EnvOk K μ H ρ b)(l:LatU μ H μ1 a):EnvOk K μ1 a ρ b:=⟨h.1,λi d e=>let ⟨v,q,r⟩:=h.2 i d e;⟨v,q,r.laterU l⟩⟩
theorem LatU.tr{H H1 H2:Hp}{S:Sto}(u:LatU μ H μ1 H1)(e:μ1.rs=μ.rs)(r:Rep K cl μ1 S H1)(l:LatU μ1 H1 μ2 H2):LatU μ H μ2 H2:=by
 have key:∀a,H1 a=none->a∈μ.pl\/a∈μ.rs\/H a=none:=λa q=>by
  by_cases n1:a∈μ.pl
  ·exact .inl n1
  ·by_cases n2:a∈μ.rs
   ·exact .inr (.inl n2)
   ·refine .inr (.inr ?_);cases e:H a with
    | none=>rfl
    | some o=>rw[(u.out a o e n1 n2).1]at q;cases q
 have nrs:∀a,H1 a=none->a∉μ.rs:=λa q m=>by
  obtain⟨_,w,hw⟩:=r.res a (by rw[e];exact m);rw[hw]at q;cases q
 refine⟨λn a e=>l.pre n a (u.pre n a e),λa o e n1 n2=>?_,λa mm=>?_,λa mm=>?_⟩
 ·obtain⟨q1,q2,q3⟩:=u.out a o e n1 n2;exact l.oth a o q1 q2 q3
 ·rcases l.new a mm with q | q
  ·exact u.new a q
  ·rcases key a q with z | z | z
   ·exact .inl z
   ·exact absurd z (nrs a q)
   ·exact .inr z
 ·rcases l.rsw a mm with q | q
  ·exact u.rsw a q
  ·rcases key a q with z | z | z
   ·have:a∈μ1.pl:=by
     obtain⟨n,hn⟩:=List.mem_iff_getElem?.mp z;exact List.mem_iff_getElem?.mpr ⟨n,u.pre n a hn⟩
    exact absurd this (r.notin q)
   ·exact .inl z
   ·exact .inr z
def Reads(K:PySem.W.Frag)(cl:ClW)(xe:Addr->Hp->Prop)(a:Mp)(d:Hp)(c:Addr)(i:TB)(b:TBM):Prop:=
 ∀(h:Type)(κ:List D->M h)(f:h->Sto->Mp->Hp->Prop)(g:L2.St)(H:Hp)(ys:List V)(Q:List V->Hp->Prop)(μ:Mp)(S:Sto)(ρ:Env)(es:List D),Hl K cl a d c μ H S ys es->EnvOk K μ H ρ g->Post K cl xe a d (bind (b ρ es) κ S) f ->
  (∀e vs μ' S' H',Hl K cl a d c μ' H' S' vs e->LatU μ H μ' H'->Post K cl xe a d (κ e S') f->Q vs H')->i c g H ys Q
variable {μ1:Mp}{H1:Hp}{acc:Addr}
theorem G5(d:H1 acc=none){f:Env->M D}:Reads K cl xe μ1 H1 acc (tEl (tD K cl xe f)) (elM f):=by
 intro w κ t u H ys Q μ S ρ es h r p i;unfold elM at p;rw[M5]at p;refine⟨μ,S,ρ,r,h.r,(Post.at p h.h).imp λy S2 μ2 s c k g v q=>?_⟩;have b:=h.later c k;have j:=b.h.rs;by_cases hz:es.length<sizeLine
 ·rw[if_pos hz]at g;refine⟨b.a,by rw[<- h.d.length];exact hz,i (es++[y]) _ μ2 S2 _ ⟨⟨⟨b.h.r.pre,λa o e n=>?_,b.h.r.new,b.h.r.rsw⟩,j⟩,b.n,b9,cK j b.a k,cW j (b.d.append (.cons q .nil))⟩ ?_ g⟩
  ·rw[a9 (c6 e d)];exact b.h.r.oth a o e n
  ·refine⟨c.pre,λa o e l m=>?_,c.new,c.r.rsw⟩;rw[a9 (λz=>m (by rw[h.h.rs,z];exact Hf))];exact c.oth a o e l
 ·rw[if_neg hz]at g;exact g.elim
theorem cG{tb:TB}{b:TBM}(hb:Reads K cl xe μ1 H1 acc tb b){α:Type}{κ:List D->M α}{Φ:α->Sto->Mp->Hp->Prop}{σ:L2.St}{H:Hp}{ys:List V}{Q:List V->Hp->Prop}{μ:Mp}{S:Sto}{ρ:Env}{es:List D}{m0:Nat}
  (h:Hl K cl μ1 H1 acc μ H S ys es) (eo:EnvOk K μ H ρ σ)
  (yl:∀i μ2 H2 S2 ys2 es2,Hl K cl μ1 H1 acc μ2 H2 S2 ys2 es2->LatU μ H μ2 H2->bY K cl J i μ2 H2 S2 (src i S2))
  (p:Post K cl xe μ1 H1 (bind (lvM src (λd=>t (ρ.set k (some d))) (λd=>b (ρ.set k (some d))) m0 0 es) κ S) Φ)
  (fin:∀zs vs μ' S' H',Hl K cl μ1 H1 acc μ' H' S' vs zs->LatU μ H μ' H'->Post K cl xe μ1 H1 (κ zs S') Φ->Q vs H'):pS J (tBo K cl xe t) k tb acc σ H ys Q:=by
 refine⟨λi m ys H2=>∃μ2 S2 es,Hl K cl μ1 H1 acc μ2 H2 S2 ys es/\LatU μ H μ2 H2/\Post K cl xe μ1 H1 (bind (lvM src (λd=>t (ρ.set k (some d))) (λd=>b (ρ.set k (some d))) m i es) κ S2) Φ,⟨m0,μ,S,es,h,(Lat.refl _ _).r.u,p⟩,?_⟩;rintro i m ys H2 ⟨μ2,S2,es,h2,u2,p2⟩;have rs2:=h2.h.rs.trans h.h.rs.symm;cases m with
 | zero=>exact p2.elim
 | succ m=>
  have y:=yl i μ2 H2 S2 ys es h2 u2;rw[CW]at p2;cases e1:src i S2 with
  | none=>rw[e1]at p2;exact p2.elim
  | some o=>
   rw[e1]at p2 y;cases o with
   | none=>exact .inl ⟨y,fin es ys μ2 S2 H2 h2 u2 p2⟩
   | some d=>
    obtain⟨y1,y2⟩:=y;refine .inr ⟨y1,λx H3 hy=>?_⟩;obtain⟨l3,r3,rd3⟩:=y2 x H3 hy;have h3:=h2.later l3 r3;have eo3:=((eo.laterU u2).later l3).set rd3 k;refine⟨μ2,S2,_,eo3,r3,(Post.at p2 h3.h).imp λz S5 μ5 H5 l5 r5 p5=>?_⟩;have h5:=h3.later l5 r5;have u5:=u2.tr rs2 h2.r (l3.trans l5).r.u;cases z with
    | false=>exact⟨m,HS _,μ5,S5,es,h5,u5,p5⟩
    | true=>
     refine uR ?_;rw[if_pos rfl]at p5;exact hb _ _ Φ _ H5 ys _ μ5 S5 _ es h5 (eo3.later l5) p5 λzs vs μ' S' H' h6 u6 p6=>⟨m,HS _,μ',S',zs,h6,u5.tr (h5.h.rs.trans h.h.rs.symm) r5 u6,p6⟩
theorem R9{d:TB}{b:TBM}(r:Reads K cl xe μ1 H1 acc d b):Reads K cl xe μ1 H1 acc (tLv (tIt K cl xe fi) (tBo K cl xe t) k d) (lvB fi t k b):=by
 intro z κ A y H ys Q μ S ρ es h e p c;unfold lvB at p;rw[M5]at p;refine⟨μ,S,ρ,e,h.r,(Post.at p h.h).imp λx w o v a f s J l=>?_⟩;have m:=h.later a f;exact cG r m (e.later a) (λi μ2 j S2 _ _ q u=>l i μ2 j S2 u q.r) s λg vs μ' S' H' q u n=>c g vs μ' S' H' q (a.r.u.tr a.rsv f u) n
theorem fj(n:Nat)(caps:List Nat)(eo:EnvOk K μ H ρ σ):EnvOk K μ H (D5 n caps ρ) (List.replicate n none++A3 caps σ):=by
 have c:EnvOk K μ H (A4 caps ρ) (A3 caps σ):=by
  have c:=kb (caps:=caps) eo .non;exact⟨by simpa using c.1,λi d e=>by simpa using c.2 (i+1) d (by simpa using e)⟩
 refine⟨by simp[D5,c.1],λi d e=>?_⟩;unfold D5 at e;by_cases hi:i<n
 ·rw[Hj (by simpa using hi),Ip,if_pos hi]at e;cases e
 ·rw[HC (by simp;omega)]at e ⊢;simp at e ⊢;exact c.2 _ _ e
theorem io{r:TB}{b:TBM}(F:∀f g c,g c=none->Reads K cl xe f g c r b){v:Type}{κ:List D->M v}{w:v->Sto->Mp->Hp->Prop}{s:L2.St}{H:Hp}{Q:VK}{μ:Mp}{S:Sto}{ρ:Env}(u:EnvOk K μ H ρ s)(x:Rep K cl μ S H)
  (p:Post K cl xe μ H (bind (X3 n caps fi t b ρ) κ S) w)
  (k:∀f g c j vs μ' S' H',g c=none->c∉f.rs->Hl K cl f g c μ' H' S' vs j->Post K cl xe f g (κ j S') w->Q (.ref c) H'):aA n caps (tIt K cl xe fi) (tBo K cl xe t) r s H Q:=by
 unfold X3 at p;rw[M5]at p;refine⟨μ,S,ρ,u,x,p.bind.imp λG S1 f g y h A J C c d=>?_⟩;have l:=h.notrs d;have z:Hl K cl f g c (f.hold c) (upd g c (.lst [])) S1 [] []:=by
  refine⟨⟨⟨λ_ _ e=>e,λa o e _=>by rw[a9 (c6 e d)];exact e,λa m=>.inl m,λa m=>?_⟩,rfl⟩,h.notin d,b9,aB h d,.nil⟩;rcases Ho.mp (m)with rfl | m
  ·exact .inr d
  ·exact .inl m
 exact cG (F f g c d) z (aa h d (fj n caps (u.later y))) (λi μ2 B S2 _ _ q _=>C i μ2 B S2 q.h.r.u q.r) A λj vs μ' S' H' q _ E=>⟨q.a,k f g c j vs μ' S' H' d l q E⟩
theorem Z2{f:TB}{b:TBM}(i:∀c d a,d a=none->Reads K cl xe c d a f b){g:L2.St}{H:Hp}{Q:VK}{μ:Mp}{S:Sto}{ρ:Env}(k:EnvOk K μ H ρ g)(j:Rep K cl μ S H)
  (p:Post K cl xe μ H (X3 n caps fi t b ρ S) λds _ μ' H'=>∀a ys,LstAt μ' H' a ys->RDs K μ' H' ds ys->Q (.ref a) H'):aA n caps (tIt K cl xe fi) (tBo K cl xe t) f g H Q:=by
 refine io i k j (by rw[k9];exact p) λc d a l vs μ' S' H' _ e q h=>?_;refine h μ'.free H' (q.h.lat (Lat.refl _ _)) (bM q.r) a vs ⟨q.a,q.n,?_⟩ (eN q.d);show a∉μ'.rs.tail;rw[q.h.rs];exact e
theorem vp{tb:TB}{b:TBM}(hb:∀μ1 H1 acc,H1 acc=none->Reads K cl xe μ1 H1 acc tb b){σ:L2.St}{H:Hp}{Q:VK}{μ:Mp}{S:Sto}{ρ:Env}(eo:EnvOk K μ H ρ σ)(rp:Rep K cl μ S H)
  (p:Post K cl xe μ H (bind (X3 n caps fi t b ρ) newL S) λd _ μ' H'=>∀v,RD K μ' H' d v->Q v H'):aA n caps (tIt K cl xe fi) (tBo K cl xe t) tb σ H Q:=by
 refine io hb eo rp p λμ1 H1 acc es ys μ2 S2 H2 hacc nrs q p2=>?_;simp only[newL]at p2;by_cases hz:es.length<=sizeLine
 ·rw[if_pos hz]at p2;have er:=q.h.rs;have mv:RDs K ⟨μ2.pl++[acc],μ1.rs⟩ H2 es ys:=q.d.move (λn a e=>by
   rw[Hj (Hb.mp e).1];exact e) λa u e n1 n2=>⟨e,λz=>by
    rcases Hz.mp z with z | z
    ·exact n1 z
    ·exact n2 (by rw[er,Hm.mp z];exact Hf),λz=>n2 (by rw[er];exact Hh _ z)⟩
  have rp':=fJ (ob:=.lst es) er nrs q.a q.r ⟨ys,b9,by rw[fY q.a];exact mv⟩;rw[fY q.a]at rp';refine p2 ⟨μ2.pl++[acc],μ1.rs⟩ H2 ⟨λn a e=>?_,λa o e n=>q.h.r.oth a o e n,λa ma=>?_,rfl⟩ rp' _ (.ref ?_)
  ·have e':=q.h.r.pre n a e;rw[Hj (Hb.mp e').1];exact e'
  ·rcases Hz.mp ma with z | z
   ·exact q.h.r.new a z
   ·rw[Hm.mp z];exact .inr hacc
  ·show(μ2.pl++[acc])[S2.length]?=some acc;rw[<- q.r.len];simp
 ·rw[if_neg hz]at p2;exact p2.elim
end
section
variable {K:PySem.W.Frag}{μ:Mp}{H:Hp}
mutual
theorem xZ:∀(d:D){v:V}{q:PyData},kP d=some q->RD K μ H d v->DAt K H v q/\HT.kDHt q=true
 | .non,_,_,e,r=>by cases r;cases e;exact⟨.non,rfl⟩
 | .bl b,_,_,e,r=>by cases r;cases e;exact⟨.bl b,rfl⟩
 | .int i,_,_,e,r=>by cases r;cases e;exact⟨.int i,rfl⟩
 | .str x,_,_,e,r=>by cases r;cases e;exact⟨.str x,rfl⟩
 | .tup ds,_,q,e,r=>by
  rw[kP]at e;obtain⟨ps,e1,rfl⟩:=Iv.mp e;cases r with
  | tup h rs=>
   obtain⟨a,b⟩:=mj ds e1 rs;exact⟨.tup h.sq a,by rw[HT.kDHt];exact b⟩
 | .lst _,_,_,e,_=>by cases e
 | .scr _,_,_,e,_=>by cases e
 | .ref _,_,_,e,_=>by cases e
theorem mj:∀(ds:List D){vs:List V}{f:List PyData},kPs ds=some f->RDs K μ H ds vs->DAll K H vs f/\HT.kDsHt f=true
 | [],_,_,e,r=>by cases r;cases e;exact⟨.nil,rfl⟩
 | d::ds,_,f,e,r=>by
  rw[kPs]at e;cases r with
  | cons i k=>
   cases c:kP d with
   | none=>rw[c]at e;cases e
   | some p=>
    cases g:kPs ds with
    | none=>rw[c,g]at e;cases e
    | some ps=>
     rw[c,g]at e;cases e;obtain⟨a,b⟩:=xZ d c i;obtain⟨j,h⟩:=mj ds g k;exact⟨.cons a j,by rw[HT.kDsHt,b,h];rfl⟩
end
end
section
variable {X:Cx}{μ:Mp}{H:Hp}{s:Shared}{pins:List (Addr×Obj)}{σ:L2.St}
theorem jz(e:w8 d=some k):∃ps,kP d=some (.tuple ps)/\(PyData.tuple ps).canLay0=true/\(PyData.tuple ps).depth<=6/\HT.nrmHt (.tuple ps)=k:=by
 unfold w8 at e;split at e
 ·rename_i ps e1;split at e
  ·rename_i c;cases e;exact⟨ps,e1,c.1,c.2,rfl⟩
  ·cases e
 ·cases e
theorem cr(I:Inv X pins σ H s){d:D}{k:PyData}{b:Addr}(e:w8 d=some k)(r:RD X.K μ H d (.ref b)):(HT.keyK X.prog X.w).is s.heap k b:=by
 obtain⟨ps,j,g,h,i⟩:=jz e;obtain⟨a,c⟩:=xZ d j r;obtain⟨f,l⟩:=a.reads I rfl;exact⟨_,f,l,c,g,h,i⟩
theorem gO(e:w8 d=some k)(r:RD X.K μ H d v):∃b,v=.ref b:=by
 obtain⟨ps,e1,_⟩:=jz e;cases r with
 | tup _ _=>exact⟨_,rfl⟩
 | non=>cases e1
 | bl _=>cases e1
 | int _=>cases e1
 | str _=>cases e1
 | lst _ _=>cases e1
 | scr _ _=>cases e1
 | ref _=>cases e1
def XAt(X:Cx)(μ:Mp)(H:Hp)(p:D×D)(x:PyData×Addr×Value):Prop:=w8 p.1=some x.1/\RD X.K μ H p.1 (.ref x.2.1)/\∃v,RelV v x.2.2/\RD X.K μ H p.2 v
theorem ik:∀{a:List (D×D)} {es:List DictEntry},Paired (ej X.K X.w μ H) a es->∃xs:List (PyData×Addr×Value),es=xs.map (entryOfKey (HT.keyK X.prog X.w))/\Paired (XAt X μ H) a xs
 | _,_,.nil=>⟨[],rfl,.nil⟩
 | _,_,.cons (b:=e) ⟨b,v,q,d,a2,a3,c,a5,a6⟩ t=>by
  obtain⟨xs,g,f⟩:=ik t;refine⟨(q,b,e.val)::xs,?_,.cons ⟨a3,a2,v,a5,a6⟩ f⟩;rw[Ht,<- g];congr 1;obtain⟨h,k,u⟩:=e;have d:k=.ref b:=d;have c:h=HT.hTHt X.w q:=c;rw[d,c];rfl
theorem nF:∀{a:List (D×D)} {xs:List (PyData×Addr×Value)},Paired (XAt X μ H) a xs->Paired (ej X.K X.w μ H) a (xs.map (entryOfKey (HT.keyK X.prog X.w)))
 | _,_,.nil=>.nil
 | _,_,.cons ⟨e,d,v,b,c⟩ t=>.cons ⟨_,v,_,rfl,d,e,rfl,b,c⟩ (nF t)
theorem ib:∀{a:List (D×D)} {xs:List (PyData×Addr×Value)},Paired (XAt X μ H) a xs->(a.map λp=>w8 p.1)=(xs.map (·.1)).map some
 | _,_,.nil=>rfl
 | _,_,.cons ⟨b,_⟩ t=>by rw[Ht,Ht,Ht,ib t,b]
theorem ao{xs:List PyData}(h:(xs.map some).Nodup):xs.Nodup:=by
 induction xs with
 | nil=>exact .nil
 | cons x xs ih=>
  rw[Ht,Jj]at h;exact Jj.mpr ⟨λm=>h.1 (HN.mpr ⟨x,m,rfl⟩),ih h.2⟩
theorem BQ(I:Inv X pins σ H s):∀{a:List (D×D)} {xs:List (PyData×Addr×Value)},Paired (XAt X μ H) a xs->∀x∈xs,(HT.keyK X.prog X.w).is s.heap x.1 x.2.1
 | _,_,.nil,x,m=>by cases m
 | _,_,.cons ⟨c,b,_⟩ t,x,m=>by
  rcases Ho.mp m with rfl | m
  ·exact cr I c b
  ·exact BQ I t x m
theorem tS(I:Inv X pins σ H s){a:Addr}{kvs:List (D×D)}{es:List DictEntry}(e:H a=some (DE a es))(ok:oT kvs)(r:Paired (ej X.K X.w μ H) kvs es):∃xs,s.heap.DictOfH (HT.keyK X.prog X.w) a xs/\Paired (XAt X μ H) kvs xs:=by
 obtain⟨xs,e1,e2⟩:=ik r;obtain⟨o,ep,h1,h2,h3,_⟩:=(I.hok a _ e).1;refine⟨xs,⟨o,es.toArray,ep,h1,h2,h3,e1,BQ I e2,?_⟩,e2⟩;have:=ok.2;rw[ib e2]at this;exact ao this
theorem sk{s:Shared}{d a:Addr}{xs:List (PyData×Addr×Value)}{k:PyData}{v:Value}{Q:Unit->Shared->Prop}{o:Obj}{es:Array DictEntry}(h:(HT.keyK P w).room A)(i:(HT.keyK P w).is s.heap k a)
  (b:s.heap.get? d=some o) (g:o.ExactDict) (hd:o.data=.dict es es.size) (c:es.toList=xs.map (entryOfKey (HT.keyK P w))) (n:∀x∈xs,(HT.keyK P w).is s.heap x.1 x.2.1) (f:(xs.map (·.1)).Nodup) (hz:xs.length<=sizeLine)
  (q:∀h' o' es',h'.get? d=some o'->o'.ExactDict->o'.data=.dict es' es'.size->es'.toList=(storedH xs k a v).map (entryOfKey (HT.keyK P w))->Heap.SameBut d s.heap h'->Q () { s with heap:=h',toks:=s.toks+(HT.keyK P w).draws k }):wpAny (model P w) A (dictSet d (.ref a) v) Q E s:=by
 unfold dictSet;try with_reducible refine HX ?_
 refine Gx ((HT.keyK P w).pyHash h i ?_);unfold dictSetHashed;try with_reducible refine HX ?_
 have r:es.size=xs.length:=by rw[<- JP,c,Hc]
 refine Gx (wpAny_dictFind_heap h i b hd c n f (λz=>?_) λj p z=>?_)
 ·refine Gx (Lw (wpAny_updateDictKeys b hd ?_));refine q _ _ _ (HZ _ b (Obj.isFreed_of_dict (Obj.data_mapDictKeys hd _))) (g.mapDictKeys _) (by rw[Obj.data_mapDictKeys hd,Array.size_push]) ?_ (IR ..);rw[storedH_new (atKey_none_of_get z)];simp[c,entryOfKey]
 ·refine Gx (Lw (Gx (wpAny_updateDict b hd (wpAny_point ?_))));refine q _ _ _ (HZ _ b (Obj.isFreed_of_dict (Obj.data_mapDict hd _))) (g.mapDict _) (by rw[Obj.data_mapDict hd,Array.size_modify]) ?_ (IR ..);rw[storedH_old (atKey_of_get f z)];have m:=modify_map_putAt (entryOfKey (HT.keyK P w)) (λe:DictEntry=>{ e with val:=v }) k v (λ_ _=>rfl) f z;rw[<- c]at m;obtain⟨l⟩:=es;simpa using m
theorem wf(I:Inv X pins σ H s){a:Addr}{kvs:List (D×D)}{es:List DictEntry}(e:H a=some (DE a es))(ok:oT kvs)(r:Paired (ej X.K X.w μ H) kvs es):∃xs o,s.heap.get? a=some o/\o.ExactDict/\o.data=.dict es.toArray es.toArray.size/\es=xs.map (entryOfKey (HT.keyK X.prog X.w))/\(∀x∈xs,(HT.keyK X.prog X.w).is s.heap x.1 x.2.1)/\(xs.map (·.1)).Nodup/\Paired (XAt X μ H) kvs xs:=by
 obtain⟨xs,e1,e2⟩:=ik r;obtain⟨o,ep,h1,h2,h3,h4⟩:=(I.hok a _ e).1;refine⟨xs,o,h1,h2,by rw[h3,h4,Hg],e1,BQ I e2,?_,e2⟩;have:=ok.2;rw[ib e2]at this;exact ao this
def Q9(a:List (D×D))(k:PyData):Option D:=(a.find? λp=>decide (w8 p.1=some k)).map (·.2)
def mE(a:List (D×D))(k:PyData)(d v:D):List (D×D):=if (Q9 a k).isSome=true then a.map (λp=>if w8 p.1=some k then (p.1,v)else p)else a++[(d,v)]
theorem iY:∀{kvs:List (D×D)} {xs:List (PyData×Addr×Value)},Paired (XAt X μ H) kvs xs->match Q9 kvs k with
  | some d=>∃b u,atKey xs k=some (b,u)/\∃v,RelV v u/\RD X.K μ H d v
  | none=>atKey xs k=none
 | _,_,.nil=>rfl
 | _,_,.cons (a:=p) (b:=x) ⟨a1,a2,v,a3,a4⟩ t=>by
  have ih:=iY (k:=k) t;unfold Q9 atKey at ih ⊢;rw[Ik,Ik,a1];by_cases q:x.1=k
  ·rw[Hv (show some x.1=some k by rw[q]),Hv q];exact⟨x.2.1,x.2.2,rfl,v,a3,a4⟩
  ·rw[Hs (show ¬ some x.1=some k from λz=>q (HH z)),Hs q];exact ih
theorem kf{kvs:List (D×D)}{xs:List (PyData×Addr×Value)}(r:Paired (XAt X μ H) kvs xs):(Q9 kvs k).isSome=(atKey xs k).isSome:=by
 have:=iY (k:=k) r;cases e:Q9 kvs k with
 | none=>rw[e]at this;rw[this];rfl
 | some d=>rw[e]at this;obtain⟨b,u,e2,_⟩:=this;rw[e2];rfl
theorem jO{v:D}{u:Value}{vv:V}(e:RelV vv u)(d:RD X.K μ H v vv):∀{c:List (D×D)} {xs:List (PyData×Addr×Value)},Paired (XAt X μ H) c xs->Paired (XAt X μ H) (c.map (λp=>if w8 p.1=some k then (p.1,v)else p)) (xs.map (putAt k u))
 | _,_,.nil=>.nil
 | _,_,.cons (a:=p) (b:=x) ⟨a1,a2,w,a3,a4⟩ t=>by
  rw[Ht,Ht];refine .cons ?_ (jO e d t);unfold putAt;by_cases q:x.1=k
  ·rw[if_pos (by rw[a1,q])];have:(if (x.1==k)=true then (x.1,x.2.1,u)else x)=(x.1,x.2.1,u):=by rw[if_pos (by rw[q];exact Lr k)]
   first
   | (rw[if_pos q];exact⟨a1,a2,vv,e,d⟩)
   | (rw[this];exact⟨a1,a2,vv,e,d⟩)
   | (simp;exact⟨by rw[a1,q],a2,vv,e,d⟩)
  ·rw[if_neg (by rw[a1];exact λz=>q (HH z))];first
   | (rw[if_neg q];exact⟨a1,a2,w,a3,a4⟩)
   | (simp;exact⟨a1,a2,w,a3,a4⟩)
theorem CI{d v:D}{b:Addr}{u:Value}{vv:V}{a:List (D×D)}{xs:List (PyData×Addr×Value)}(r:Paired (XAt X μ H) a xs)(l:w8 d=some k)(m:RD X.K μ H d (.ref b))(g:RelV vv u)(i:RD X.K μ H v vv):Paired (XAt X μ H) (mE a k d v) (storedH xs k b u):=by
 unfold mE storedH;rw[kf r];split
 ·exact jO g i r
 ·have c:∀{f:List (D×D)} {e:List (PyData×Addr×Value)},Paired (XAt X μ H) f e->Paired (XAt X μ H) (f++[(d,v)]) (e++[(k,b,u)]):=by
   intro f e h;induction h with
   | nil=>exact .cons ⟨l,m,vv,g,i⟩ .nil
   | cons h _ j=>exact .cons h j
  exact c r
theorem sH{d v:D}{a:List (D×D)}(g:w8 d=some k)(b:oT a)(j:a.length<sizeLine):oT (mE a k d v):=by
 unfold mE;split
 ·refine⟨by rw[Hc];exact b.1,?_⟩;rw[Jm];have:((λp:D×D=>w8 p.1) ∘ λp=>if w8 p.1=some k then (p.1,v)else p)=λp=>w8 p.1:=by
   funext p;show w8 (if w8 p.1=some k then (p.1,v)else p).1=_;split <;> rfl
  rw[this];exact b.2
 ·rename_i h;refine⟨by rw[Hu,Ia];omega,?_⟩;rw[IB,Kn];refine⟨b.2,by simp,λx e y c z=>h ?_⟩;obtain⟨p,f,i⟩:=HN.mp e;have c:y=w8 d:=by simpa using c
  unfold Q9;rw[Option.isSome_map,List.find?_isSome];exact⟨p,f,Hv (by rw[i,z,c,g])⟩
end
def wF(a:List (Str×D))(x:D):M Bool:=match x with
 | .str z=>ret (a.lookup z).isNone
 | _=>bad
def X1(a:List (Str×D))(x:D):M D:=match x with
 | .str z=>ret ((a.lookup z).getD .non)
 | _=>bad
section
variable {X:Cx}{a:Addr}{es:Array DictEntry}{n:Nat}
def rNI(K:PySem.W.Frag)(a:Addr):R2:=λx y H Q=>y=.ref a/\∃z r,x=.str z/\PySem.W.nsIn K a z=some r/\Q (.bl r.isNone) H
theorem EO(hl:X.K.lookup a=some ⟨.type "dict",none,.dict es n,#[]⟩) (hk:PySem.W.KeysLit X.w.params es.toList) (hs:(a==sysModules)=false):OpR X (compareOp .NotIn) (rNI X.K a):=by
 intro pins s σ H x y v u Q I rx ry ⟨ey,z,r,ex,e,q⟩;subst ex ey;obtain⟨t,rfl⟩:=rx;cases ry;have hm:=LG (prog:=X.prog) (λb o hb=>I.kIn b o hb) hl hk;refine wpAny_notIn_of (LP X.prog X.w z t) hs hm ?_;rw[LM hl e];refine⟨.bl (!r.isSome),H,I.tok _,rfl,?_⟩;cases r <;> exact q
theorem Bg(c:X.K.lookup a=some ⟨.type "dict",none,.dict es n,#[]⟩) (h:PySem.W.KeysLit X.w.params es.toList) (hs:(a==sysModules)=false):MtR X "dict.get" (λx vs H Q=>x=.ref a/\∃z r v,vs=[.str z]/\PySem.W.nsIn X.K a z=some r/\RelV v (r.getD .none)/\Q v H):=by
 intro pins s p H x vs v us Q I l m ⟨i,z,r,f,k,e,g,q⟩;subst i k;cases l;obtain⟨u,rfl,t,rfl⟩:=m.one;have d:=LG (prog:=X.prog) (λb o j=>I.kIn b o j) c h;refine KG Iy d.typeIs IU (Kg _ _) (meets_dict_get (strKind X.prog X.w) a (LP X.prog X.w z t) hs) ⟨_,d,?_⟩;rw[LM c e];exact⟨f,H,I.tok _,g,q⟩
variable {e:Expr}{to:TE}{t:TA}{apos cpos:Pos}{p:Pos}{x:Str}
theorem Dt(k:X.K.lookup a=some ⟨.type "dict",none,.dict es n,#[]⟩) (t:PySem.W.KeysLit X.w.params es.toList) (hs:(a==sysModules)=false) (C:Gl X x) (E:X.mg x=some (.ref a)) (A:(x==("__debug__" : Str))=false) (K:PE X e to) (l:noStar e=true) (O:u3 (.Name x p)=true) (G:B0 [e]=true) (c:(apos.endLine==cpos.line)=true) :
  PE X (.Call (.Attribute (.Name x p) "get" apos) [e] [] cpos) (λd H Q=>to d H λy f=>∃z r v,y=.str z/\PySem.W.nsIn X.K a z=some r/\RelV v (r.getD .none)/\Q v f):=by
 intro pins s d H Q I h;have i:[e].all noStar=true:=by rw[Ib,l];rfl
 refine wpAny_Call_method_late (D8 O) (gh i G) c rfl (thn (Z5 (v:=.ref a) C E rfl A pins s d H _ I (show tC (.ref a) d H (λy f=>y=.ref a/\f=H) from ⟨rfl,rfl⟩)) λv N ⟨y,f,j,P,B,o⟩=>?_);subst B o;cases P;have g:=j.kIn a _ k;refine⟨"dict","dict.get",Lo,Iy,PySem.F.type_dict_get,⟨_,g,rfl⟩,λb L=>(by cases L;exact⟨_,g,rfl⟩),?_⟩;rw[h9 l];refine Kl rfl (Calls.evalArgs_plain ?_);refine Jc (thn (K pins N d f _ j h) λu s2 ⟨y,D,w,J,M⟩=>Jk ?_);obtain⟨z,r,v,rfl,F,m,q⟩:=M;exact Bg k t hs pins s2 d D (.ref a) [.str z] _ [u] Q w rfl (.cons J .nil) ⟨rfl,z,r,v,rfl,F,m,q⟩
end
def EK:RuT where
 is Γ lc e:=match e with
  | .Compare _ [.NotIn] [.Name x _] _=>n4 x&&glB lc.sc x&&aU Γ x
  | _=>false
 run r Γ _ lc e ρ:=match e with
  | .Compare a [.NotIn] [.Name x _] _=>(match Γ.gl.lookup x with
   | some (.dct kvs)=>bind (r.e lc a ρ) (wF kvs)
   | _=>bad)
  | _=>bad
 ok {T k r Γ C lc X} e R TX h hi:=by
  split at hi
  ·rename_i a x p pos;simp at hi;obtain⟨⟨h1,h2⟩,h3⟩:=hi;obtain⟨n1,n2,n3⟩:=o9 h1;cases e1:Γ.gl.lookup x with
   | none=>simp only[aU,e1]at h3;cases h3
   | some g=>
    cases g with
    | dct kvs=>
     obtain⟨ad,es,n,hm,hl,hk,hs,hz,hv⟩:=TX.dct x kvs e1;refine PT.imp (je (EO (by rw[h.K];exact hl) (by rw[h.w];exact hk) hs) (R.ex h a) (Z5 (v:=.ref ad) (h.gl h2) (by rw[h.mg];exact hm) rfl n1) rfl) λσ H Q ⟨μ,S,ρ,eo,rp,q⟩=>?_;refine⟨μ,S,ρ,eo,rp,q.bind.imp λy S2 μ2 H2 l2 r2 p2 u ru=>?_⟩;cases y with
     | str z=>
      cases ru;have hb:∀r,PySem.W.nsIn T.K ad z=some r->r.isNone=(kvs.lookup z).isNone:=λr er=>by
       cases e2:kvs.lookup z with
       | none=>rw[hz z e2]at er;cases er;rfl
       | some d=>obtain⟨u,v,f1,_⟩:=hv z d e2;rw[f1]at er;cases er;rfl
      obtain⟨r,er⟩:∃r,PySem.W.nsIn T.K ad z=some r:=by
       cases e2:kvs.lookup z with
       | none=>exact⟨_,hz z e2⟩
       | some d=>obtain⟨u,v,f1,_⟩:=hv z d e2;exact⟨_,f1⟩
      refine⟨rfl,z,r,rfl,by rw[h.K];exact er,?_⟩;rw[hb r er];exact⟨_,rfl,p2 μ2 H2 (Lat.refl _ _) r2⟩
     | _=>exact p2.elim
    | val d=>simp only[aU,e1]at h3;cases h3
    | fn i n=>simp only[aU,e1]at h3;cases h3
    | err c fs=>simp only[aU,e1]at h3;cases h3
  ·cases hi
 runK q Γ _ lc e ρ _ k:=match e with
  | .Compare a [.NotIn] [.Name x _] _=>(match Γ.gl.lookup x with
   | some (.dct kvs)=>q.e lc a ρ λy=>bind (wF kvs y) k
   | _=>bad)
  | _=>bad
 eq {r q Γ C lc} e ρ _ k h:=by
  split
  ·rename_i a x p pos;cases Γ.gl.lookup x with
   | none=>rfl
   | some g=>
    cases g with
    | dct kvs=>simp only[h.e,bind_assoc]
    | _=>rfl
  ·first
   | rfl
   | (rename_i hn;split;exact(hn _ _ _ _ rfl).elim;rfl)
def CC:RuE where
 is Γ lc e:=match e with
  | .Call (.Attribute (.Name x _) n apos) [a] [] cpos=>decide (n = "get")&&n4 x&&glB lc.sc x&&aU Γ x&&noStar a&&B0 [a]&&(apos.endLine==cpos.line)
  | _=>false
 run r Γ _ lc e ρ:=match e with
  | .Call (.Attribute (.Name x _) _ _) [a] [] _=>(match Γ.gl.lookup x with
   | some (.dct kvs)=>bind (r.e lc a ρ) (X1 kvs)
   | _=>bad)
  | _=>bad
 ok {T k r Γ C lc X} e R TX h hi:=by
  split at hi
  ·rename_i x p n apos a cpos;simp at hi;obtain⟨⟨⟨⟨⟨⟨rfl,h1⟩,h2⟩,h3⟩,h4⟩,h5⟩,h6⟩:=hi;obtain⟨n1,n2,n3⟩:=o9 h1;cases e1:Γ.gl.lookup x with
   | none=>simp only[aU,e1]at h3;cases h3
   | some g=>
    cases g with
    | dct kvs=>
     obtain⟨ad,es,n,hm,hl,hk,hs,hz,hv⟩:=TX.dct x kvs e1;refine PE.imp (Dt (by rw[h.K];exact hl) (by rw[h.w];exact hk) hs (h.gl h2) (by rw[h.mg];exact hm) n1 (R.ex h a) h4 rfl h5 (by simpa using h6)) λσ H Q ⟨μ,S,ρ,eo,rp,q⟩=>?_;refine⟨μ,S,ρ,eo,rp,q.bind.imp λy S2 μ2 H2 l2 r2 p2 u ru=>?_⟩;cases y with
     | str z=>
      cases ru;cases e2:kvs.lookup z with
      | none=>
       simp only[X1,e2]at p2;exact⟨z,none,.non,rfl,by rw[h.K];exact hz z e2,rfl,p2 μ2 H2 (Lat.refl _ _) r2 _ .non⟩
      | some d=>
       simp only[X1,e2]at p2;obtain⟨u,v,f1,f2,f3⟩:=hv z d e2;exact⟨z,some u,v,rfl,by rw[h.K];exact f1,f2,p2 μ2 H2 (Lat.refl _ _) r2 v (by rw[h.K];exact f3 μ2 H2)⟩
     | _=>exact p2.elim
    | val d=>simp only[aU,e1]at h3;cases h3
    | fn i n=>simp only[aU,e1]at h3;cases h3
    | err c fs=>simp only[aU,e1]at h3;cases h3
  ·cases hi
 runK q Γ _ lc e ρ _ k:=match e with
  | .Call (.Attribute (.Name x _) _ _) [a] [] _=>(match Γ.gl.lookup x with
   | some (.dct kvs)=>q.e lc a ρ λy=>bind (X1 kvs y) k
   | _=>bad)
  | _=>bad
 eq {r q Γ C lc} e ρ _ k h:=by
  split
  ·rename_i x p n apos a cpos;cases Γ.gl.lookup x with
   | none=>rfl
   | some g=>
    cases g with
    | dct kvs=>simp only[h.e,bind_assoc]
    | _=>rfl
  ·first
   | rfl
   | (rename_i hn;split;exact(hn _ _ _ _ _ _ rfl).elim;rfl)
def aD(ws:List Str):List Str:=HT.metKHt (λi=>ws.getD i "") ws.length
section
variable {X:Cx}{e:Expr}{te:TE}{p p2 pos pos2:Pos}{cl:ClW}{xe:Addr->Hp->Prop}
theorem gF:∀{ws:List Str}{a:List Value},Vals (ws.map V.str) a->∀(i:Nat)(v:Value),a[i]?=some v->∃t,v=.str (ws.getD i "") t
 | [],_,h,i,v,e=>by cases h;cases e
 | w::ws,_,h,i,v,e=>by
  cases h with
  | cons r t=>
   cases i with
   | zero=>cases e;exact r
   | succ i=>exact gF t i v e
end
def eQ(x:D):M D:=bind (lstOf x) λes=>match x with
 | .ref n=>λS=>(match es[es.length-1]? with
  | some y=>.ok y (S.set n (.lst es.dropLast))
  | none=>.bad)
 | _=>bad
section
variable {X:Cx}{cl:ClW}{xe:Addr->Hp->Prop}{a:Expr}{f:Env->M D}
theorem vo(ho:PE X a (tD X.K cl xe f))(hb:u3 a=true)(hl:(apos.endLine==cpos.line)=true):PE X (.Call (.Attribute a "pop" apos) [] [] cpos) (tD X.K cl xe λρ=>bind (f ρ) eQ):=by
 refine PE.imp (zU Kh PySem.F.slot_list_pop PySem.F.type_list_pop AC ho (D8 hb) hl) λσ H Q ⟨μ,S,ρ,eo,rp,p⟩=>⟨μ,S,ρ,eo,rp,p.bind.imp λx S1 μ1 H1 l1 r1 p1 xv rx=>?_⟩;obtain⟨ty,_,ea⟩:=aV μ1 S1 H1 x xv _ rx r1 p1.bind;obtain⟨l,xs,ds,rfl,h1,h2,e2⟩:=k7 rx r1 p1.bind;have p1:=p1.ok_bind e2;cases rx with
 | ref e=>
  have ml:=HE e;have la:Lat μ1 H1 μ1 (upd H1 l (.lst xs.dropLast)):=Lat.wrote ml;cases q:ds[ds.length-1]? with
  | none=>rw[q]at p1;exact p1.elim
  | some y=>
   rw[q]at p1;obtain⟨v,hv,rv⟩:=h2.get q;have hl2:=h2.length;have t:=h2.take (ds.length-1);rw[<- List.dropLast_eq_take,hl2,<- List.dropLast_eq_take]at t;exact⟨ty,l,xs,v,rfl,rfl,h1,by rw[<- hl2];exact hv,p1 μ1 _ la (r1.wrote e ⟨_,b9,t.later la⟩) _ (rv.later la)⟩
 | _=>exact p1.elim
end
def rM0(m:Str)(op:D->M D)(ok:∀{T:Tx}{k:Nat}{lc:Lc}{X:Cx}{xe:Addr->Hp->Prop}{o:Expr}{apos cpos:Pos}{f:Env->M D},CxOk T k lc X->PE X o (tD X.K T.cl xe f)->u3 o=true->(apos.endLine==cpos.line)=true->PE X (.Call (.Attribute o m apos) [] [] cpos) (tD X.K T.cl xe λρ=>bind (f ρ) op)):RuE where
 is _ _ e:=match e with
  | .Call (.Attribute o n apos) [] [] cpos=>decide (n=m)&&u3 o&&(apos.endLine==cpos.line)
  | _=>false
 run r _ _ lc e ρ:=match e with
  | .Call (.Attribute o _ _) [] [] _=>bind (r.e lc o ρ) op
  | _=>bad
 ok {T k r Γ C lc X} e R TX h hi:=by
  split at hi
  ·simp only[Gz,Hw]at hi;obtain⟨⟨rfl,h1⟩,h2⟩:=hi;exact ok h (R.ex h _) h1 h2
  ·cases hi
 runK q _ _ lc e ρ _ k:=match e with
  | .Call (.Attribute o _ _) [] [] _=>q.e lc o ρ λx=>bind (op x) k
  | _=>bad
 eq e ρ _ k h:=by
  split
  ·simp only[h.e,bind_assoc]
  ·first
   | rfl
   | (rename_i hn;split;exact(hn _ _ _ _ rfl).elim;rfl)
def EC:RuE:=rM0 "pop" eQ λ_ b c a=>vo b c a
def N9:List DictEntry->Option (List Str)
 | []=>some []
 | ⟨_,.str x _,_⟩::es=>(N9 es).map (x::·)
 | _=>none
theorem jI:∀{es:List DictEntry}{ks:List Str},N9 es=some ks->z∉ks->es.find? (λx=>x.key.isStr z)=none/\es.any (λx=>x.refKey)=false
 | [],_,_,_=>⟨rfl,rfl⟩
 | ⟨h,k,v⟩::es,ks,e,hz=>by
  cases k with
  | str x t=>
   simp only[N9]at e;obtain⟨js,e1,rfl⟩:=Iv.mp e;obtain⟨a,b⟩:=jI e1 λq=>hz (Hh _ q);have ne:(x==z)=false:=Im.mpr λq=>hz (by rw[q];exact Hf ..);constructor
   ·rw[Ik];show(match (x==z) with
     | true=>_
     | false=>_)=_
    rw[ne];exact a
   ·rw[IW,b];rfl
  | _=>simp only[N9]at e;cases e
theorem xg{K:PySem.W.Frag}{a:Addr}{es:Array DictEntry}{n:Nat}{ks:List Str}{kvs:List (Str×D)}(hl:K.lookup a=some ⟨.type "dict",none,.dict es n,#[]⟩) (hk:N9 es.toList=some ks) (hs:kvs.map Prod.fst=ks) {z:Str} (hz:kvs.lookup z=none):PySem.W.nsIn K a z=some none:=by
 have no:z∉ks:=by
  rw[<- hs];intro q;obtain⟨⟨k,d⟩,m,e⟩:=HN.mp q;have e:=e;subst e;exact absurd (List.lookup_eq_none_iff.mp hz _ m) (by simp)
 obtain⟨a1,a2⟩:=jI hk no;unfold PySem.W.nsIn;rw[hl];dsimp only;rw[a1,a2];rfl
def W6(x k v:D):M D:=match x with
 | .ref n=>λS=>match S[n]? with
  | some (.dcT kvs)=>(match w8 k with
   | some q=>if kvs.length<sizeLine then .ok .non (S.set n (.dcT (mE kvs q k v)))else .bad
   | none=>.bad)
  | _=>.bad
 | _=>bad
section
variable {X:Cx}{cl:ClW}{xe:Addr->Hp->Prop}
theorem Br(hu:X.A.units+80<cLine):(HT.keyK X.prog X.w).room X.A.in1:=by
 show X.A.units+1+8<cLine;omega
theorem Cu{P:Program}{w:World}{H:Hp}{h:Heap}{a:Addr}{es:List DictEntry}(e:∃o ep,h.get? a=some o/\o.ExactDict/\o.data=.dict es.toArray ep/\ep=es.length):ObjOk P w H h a (DE a es):=by
 obtain⟨o,ep,e1,e2,e3⟩:=e;exact⟨⟨o,ep,e1,e2,e3⟩,⟨o,e1⟩,λh1 h2 ⟨o,ep,a1,a2,a3⟩ k=>⟨o,ep,k o a1,a2,a3⟩⟩
end
abbrev Cl1:=Str×Pos×Expr×List Expr
def cl1:Comprehension->Option Cl1
 | ⟨.Name x p,it,ifs,0⟩=>some (x,p,it,ifs)
 | _=>none
theorem U3(h:cl1 c=some a):c=⟨.Name a.1 a.2.1,a.2.2.1,a.2.2.2,0⟩:=by
 unfold cl1 at h;split at h
 ·cases h;rfl
 ·cases h
section
variable (r:Ev)(q:EvK)(lc:Lc)(elt:Expr)(a b c:Cl1)(scope:Scope)(ρ:Env)
def lvE(l:Lc)(k:Nat)(a:Cl1)(t:TBM):TBM:=lvB (r.i l (.Name a.1 a.2.1) a.2.2.1) (testsE r l a.2.2.2) k t
def lvK(l:Lc)(k:Nat)(a:Cl1)(t:TBM):TBM:=lvB (λρ=>q.i l (.Name a.1 a.2.1) a.2.2.1 ρ ret) (testsK q l a.2.2.2) k t
def nE(xs:List Str)(t:Lc->TBM):M (List D):=match e9 (d8 lc.N) (h8 scope) with
 | some caps=>nx (X3 xs.length caps (r.i lc (.Name a.1 a.2.1) a.2.2.1) (testsE r (c8 lc scope xs) a.2.2.2) (t (c8 lc scope xs)) ρ)
 | none=>bad
def nK(xs:List Str)(t:Lc->TBM){c:Type}(k:List D->M c):M c:=match e9 (d8 lc.N) (h8 scope) with
 | some caps=>bind (nx (q.i lc (.Name a.1 a.2.1) a.2.2.1 ρ λb=>lvM b.1 (λd=>testsK q (c8 lc scope xs) a.2.2.2 ((D5 xs.length caps ρ).set 0 (some d))) (λd=>t (c8 lc scope xs) ((D5 xs.length caps ρ).set 0 (some d))) b.2 0 [])) k
 | none=>bad
def oi:M (List D):=nE r lc a scope ρ [a.1,b.1] λl=>lvE r l 1 b (elM (r.e l elt))
def jG:M (List D):=nE r lc a scope ρ [a.1,b.1,c.1] λl=>lvE r l 1 b (lvE r l 2 c (elM (r.e l elt)))
def xa{c:Type}(k:List D->M c):M c:=nK q lc a scope ρ [a.1,b.1] (λl=>lvK q l 1 b (elM λρ=>q.e l elt ρ ret)) k
def xC{d:Type}(k:List D->M d):M d:=nK q lc a scope ρ [a.1,b.1,c.1] (λl=>lvK q l 1 b (lvK q l 2 c (elM λρ=>q.e l elt ρ ret))) k
end
section
variable {r:Ev}{q:EvK}(h:EqK r q)
include h
theorem xp(l:Lc)(k:Nat)(a:Cl1)(t:TBM):lvK q l k a t=lvE r l k a t:=by
 have e:testsK q l a.2.2.2=testsE r l a.2.2.2:=funext λρ=>tests_eq h _ ρ;simp only[lvK,lvE,h.i,k9,e]
theorem Ea(c:Lc)(a:Cl1)(b:Scope)(ρ:Env)(xs:List Str)(t t':Lc->TBM)(d:t'=t){e:Type}(k:List D->M e):nK q c a b ρ xs t' k=bind (nE r c a b ρ xs t) k:=by
 subst d;unfold nK nE;cases e9 (d8 c.N) (h8 b) with
 | none=>rfl
 | some caps=>simp only[h.i,tests_eq h,X3]
theorem sg(e:Lc)(d:Expr)(a b:Cl1)(c:Scope)(ρ:Env){f:Type}(k:List D->M f):xa q e d a b c ρ k=bind (oi r e d a b c ρ) k:=
 Ea h e a c ρ _ _ _ (by funext l;simp only[xp h,h.e,k9]) k
theorem uF(f:Lc)(e:Expr)(a b c:Cl1)(d:Scope)(ρ:Env){g:Type}(k:List D->M g):xC q f e a b c d ρ k=bind (jG r f e a b c d ρ) k:=
 Ea h f a d ρ _ _ _ (by funext l;simp only[xp h,h.e,k9]) k
end
abbrev S2V:=Str×Pos×Expr×Comprehension×Comprehension×Scope×Pos×Pos
def s2v:Stmt->Option S2V
 | .Assign [.Name g p] (.ListComp c [d,e] a b) pos=>some (g,p,c,d,e,a,b,pos)
 | _=>none
theorem zq(h:s2v e=some v):e=.Assign [.Name v.1 v.2.1] (.ListComp v.2.2.1 [v.2.2.2.1,v.2.2.2.2.1] v.2.2.2.2.2.1 v.2.2.2.2.2.2.1) v.2.2.2.2.2.2.2:=by
 unfold s2v at h;split at h
 ·cases h;rfl
 ·cases h
def yO:RuS where
 is _ lc e:=match s2v e with
  | some (g,p,elt,c1,c2,scope,pos2,pos)=>match cl1 c1,cl1 c2 with
   | some a,some b=>U1 lc g&&p9 lc scope [a.1,b.1]&&j8 a.2.2.1&&j8 b.2.2.1&&swB lc (.ListComp elt [c1,c2] scope pos2) scope g p
   | _,_=>false
  | none=>false
 run r _ _ lc e ρ:=match s2v e with
  | some (g,p,elt,c1,c2,scope,pos2,pos)=>match cl1 c1,cl1 c2 with
   | some a,some b=>bind (bind (oi r lc elt a b scope ρ) λds=>ret (.lst ds)) (P4 lc g ρ)
   | _,_=>bad
  | none=>bad
 ok {T k r Γ C lc X} e R TX h hf hi:=by
  cases hv:s2v e with
  | none=>simp only[hv]at hi;cases hi
  | some v=>
   have he:=zq hv;obtain⟨g,p,elt,c1,c2,scope,pos2,pos⟩:=v;simp only[hv]at hi;cases h1:cl1 c1 with
   | none=>simp only[h1]at hi;cases hi
   | some a=>
    cases h2:cl1 c2 with
    | none=>simp only[h1,h2]at hi;cases hi
    | some b=>
     simp only[h1,h2]at hi;have e1:=U3 h1;have e2:=U3 h2;rw[Gz,Gz,Gz,Gz]at hi;obtain⟨⟨⟨⟨hg,hc⟩,hn⟩,hn2⟩,hb⟩:=hi;have hg':=hg;rw[U1,Gz,HW]at hg';obtain⟨⟨i,hi⟩,hl⟩:=hg';have hi':X.N[i]?=some g:=by rw[h.N];exact k6 hi
     have hl':L2.Loc X.env.scope g:=by rw[h.sc];exact y4 hl
     have hff:X.fn g=true\/X.env.scope.names.lookup g=some .local:=.inl (h.fn1 hf);have sw:=xq h elt [c1,c2] scope g p pos pos2;rw[hb]at sw;rw[he];simp;obtain⟨x,px,iter,ifs⟩:=a;obtain⟨y,py,iter2,ifs2⟩:=b;rw[e1,e2]at sw ⊢;unfold oi nE;cases hm:e9 (d8 lc.N) (h8 scope) with
     | none=>exact PS.imp bO λD σ H ⟨μ,S,ρ,eo,rp,p⟩=>p.bind.elim
     | some caps=>
      obtain⟨t1,t2,t3,t4,t5⟩:=u9 h hc hm;have e4:=λpins C fp s H=>PE.x0 (R.ex (f8 h t4 t5 t2 pins C fp s H) elt);have q0:=λpins C fp s H=>PTL.x0 (tests_ok (ifs:=ifs) R (f8 h t4 t5 t2 pins C fp s H));have q1:=λpins C fp s H=>PTL.x0 (tests_ok (ifs:=ifs2) R (f8 h t4 t5 t2 pins C fp s H));have i1:=λpins C fp s H=>PI.x0 (R.ix (f8 h t4 t5 t2 pins C fp s H) (.Name y py) iter2);refine gP (k:=k) hi ?_;exact PS.imp (eY (n:=2) (B:=λY acc=>sP Y.prog Y.w Y.A (.ListComp elt [⟨.Name x px,iter,ifs,0⟩,⟨.Name y py,iter2,ifs2,0⟩] scope pos2) iter2 0 (.ref acc) Y.env) sw h.nd' hi' hl' hff (by decide) t1 (h.calm t4) t2 rfl (t3 x (by simp)) (PI.x0 (R.ix h _ _))
       (λit acc env=>Z6 rfl rfl (j3 hn2) λ_=>rfl)
       q0
       (λpins C fp s H acc=>R6 rfl (by decide) (h.calm t4) t2 rfl (t3 y (by simp)) (λit=>L4 rfl rfl λ_=>rfl) (i1 pins C fp s H) (q1 pins C fp s H) (D0 (e4 pins C fp s H)))
       (j3 hn)) λD σ H ⟨μ,S,ρ,eo,rp,p⟩=>Z2 (λ_ _ _ hacc=>R9 (G5 hacc)) eo rp p
 runK q _ _ lc e ρ _ k:=match s2v e with
  | some (g,p,elt,c1,c2,scope,pos2,pos)=>match cl1 c1,cl1 c2 with
   | some a,some b=>xa q lc elt a b scope ρ λds=>w5 lc g ρ (.lst ds) k
   | _,_=>bad
  | none=>bad
 eq e ρ _ k h:=by
  cases s2v e with
  | none=>rfl
  | some v=>
   obtain⟨g,p,elt,c1,c2,scope,pos2,pos⟩:=v;dsimp only;cases cl1 c1 with
   | none=>rfl
   | some a=>
    cases cl1 c2 with
    | none=>rfl
    | some b=>simp only[sg h,bind_assoc,i3,aT]
abbrev R3V:=Expr×Comprehension×Comprehension×Comprehension×Scope×Pos×Pos
def r3v:Stmt->Option R3V
 | .Return (some (.ListComp c [d,e,f] a b)) pos=>some (c,d,e,f,a,b,pos)
 | _=>none
theorem AJ(h:r3v e=some v):e=.Return (some (.ListComp v.1 [v.2.1,v.2.2.1,v.2.2.2.1] v.2.2.2.2.1 v.2.2.2.2.2.1)) v.2.2.2.2.2.2:=by
 unfold r3v at h;split at h
 ·cases h;rfl
 ·cases h
theorem tI(R:EvOk T k r)(h:CxOk T k lc X){i:Expr}{x y z:Str}{D q o pos:Pos}{g b c:Expr}{ifs e f:List Expr}{a:Scope}(W:p9 lc a [x,y,z]=true)(M:j8 g=true)(w:j8 b=true)(v:j8 c=true) :
  PE X (.ListComp i [⟨.Name x D,g,ifs,0⟩,⟨.Name y q,b,e,0⟩,⟨.Name z o,c,f,0⟩] a pos) (tD X.K T.cl (xOf X) λρ=>bind (jG r lc i (x,D,g,ifs) (y,q,b,e) (z,o,c,f) a ρ) newL):=by
 unfold jG nE;cases V:e9 (d8 lc.N) (h8 a) with
 | none=>exact PE.imp (f9 (cl:=T.cl) (xe:=xOf X)) λK H Q ⟨μ,S,ρ,E,F,p⟩=>p.bind.elim
 | some caps=>
  obtain⟨G,j,A,l,t⟩:=u9 h W V;have U:∀pins C d s H,PE (b6 X pins ([x,y,z]++h8 a) a C d s H) i (tD X.K T.cl x0 (r.e (c8 lc a [x,y,z]) i)):=λpins C d s H=>PE.x0 (R.ex (f8 h l t j pins C d s H) i);have I:∀pins C d s H,PTL (b6 X pins ([x,y,z]++h8 a) a C d s H) ifs (tBo X.K T.cl x0 (testsE r (c8 lc a [x,y,z]) ifs)):=λpins C d s H=>PTL.x0 (tests_ok R (f8 h l t j pins C d s H));have P:∀pins C d s H,PTL (b6 X pins ([x,y,z]++h8 a) a C d s H) e (tBo X.K T.cl x0 (testsE r (c8 lc a [x,y,z]) e)):=λpins C d s H=>PTL.x0 (tests_ok R (f8 h l t j pins C d s H));have J:∀pins C d s H,PI (b6 X pins ([x,y,z]++h8 a) a C d s H) (.Name y q) b (tIt X.K T.cl x0 (r.i (c8 lc a [x,y,z]) (.Name y q) b)):=λpins C d s H=>PI.x0 (R.ix (f8 h l t j pins C d s H) (.Name y q) b);have N:∀pins C d s H,PTL (b6 X pins ([x,y,z]++h8 a) a C d s H) f (tBo X.K T.cl x0 (testsE r (c8 lc a [x,y,z]) f)):=λpins C d s H=>PTL.x0 (tests_ok R (f8 h l t j pins C d s H));have O:∀pins C d s H,PI (b6 X pins ([x,y,z]++h8 a) a C d s H) (.Name z o) c (tIt X.K T.cl x0 (r.i (c8 lc a [x,y,z]) (.Name z o) c)):=λpins C d s H=>PI.x0 (R.ix (f8 h l t j pins C d s H) (.Name z o) c);refine PE.imp (bJ (n:=3) (B:=λY m=>sP Y.prog Y.w Y.A (.ListComp i [⟨.Name x D,g,ifs,0⟩,⟨.Name y q,b,e,0⟩,⟨.Name z o,c,f,0⟩] a pos) b 0 (.ref m) Y.env) (by decide) G (h.calm l) j rfl (A x (by simp)) (PI.x0 (R.ix h _ _))
   (λit m L=>Z6 rfl rfl (j3 w) λ_=>rfl)
   I
   (λpins C d s H m=>R6 rfl (by decide) (h.calm l) j rfl (A y (by simp)) (λit=>Z6 rfl rfl (j3 v) λ_=>rfl) (J pins C d s H) (P pins C d s H)
    (R6 rfl (by decide) (h.calm l) j rfl (A z (by simp)) (λit=>L4 rfl rfl λ_=>rfl) (O pins C d s H) (N pins C d s H) (D0 (U pins C d s H))))
   (j3 M)) λK H Q ⟨μ,S,ρ,E,F,p⟩=>?_
  dsimp only at p;rw[wt]at p;exact vp (λ_ _ _ u=>R9 (R9 (G5 u))) E F p.nx
def Am:RuS where
 is _ lc e:=match r3v e with
  | some (elt,c1,c2,c3,scope,pos2,pos)=>match cl1 c1,cl1 c2,cl1 c3 with
   | some a,some b,some c=>decide (("return" : Str)∈lc.mu)&&(p9 lc scope [a.1,b.1,c.1]&&j8 a.2.2.1&&j8 b.2.2.1&&j8 c.2.2.1)
   | _,_,_=>false
  | none=>false
 run r _ _ lc e ρ:=match r3v e with
  | some (elt,c1,c2,c3,scope,pos2,pos)=>match cl1 c1,cl1 c2,cl1 c3 with
   | some a,some b,some c=>bind (bind (jG r lc elt a b c scope ρ) newL) λd=>ret (.rt d)
   | _,_,_=>bad
  | none=>bad
 ok {T k r Γ C lc X} e R TX h hf hi:=by
  cases hv:r3v e with
  | none=>simp only[hv]at hi;cases hi
  | some v=>
   have he:=AJ hv;obtain⟨elt,c1,c2,c3,scope,pos2,pos⟩:=v;simp only[hv]at hi;cases h1:cl1 c1 with
   | none=>simp only[h1]at hi;cases hi
   | some a=>
    cases h2:cl1 c2 with
    | none=>simp only[h1,h2]at hi;cases hi
    | some b=>
     cases h3:cl1 c3 with
     | none=>simp only[h1,h2,h3]at hi;cases hi
     | some c=>
      simp only[h1,h2,h3]at hi;have e1:=U3 h1;have e2:=U3 h2;have e3:=U3 h3;rw[Gz,Gz,Gz,Gz]at hi;obtain⟨_,⟨⟨hc,hn⟩,hn2⟩,hn3⟩:=hi;rw[he];rw[e1,e2,e3];exact kZ (tI R h hc hn hn2 hn3)
 runK q _ _ lc e ρ _ k:=match r3v e with
  | some (elt,c1,c2,c3,scope,pos2,pos)=>match cl1 c1,cl1 c2,cl1 c3 with
   | some a,some b,some c=>xC q lc elt a b c scope ρ λds=>bind (newL ds) λd=>k (.rt d)
   | _,_,_=>bad
  | none=>bad
 eq e ρ _ k h:=by
  cases r3v e with
  | none=>rfl
  | some v=>
   obtain⟨elt,c1,c2,c3,scope,pos2,pos⟩:=v;dsimp only;cases cl1 c1 with
   | none=>rfl
   | some a=>
    cases cl1 c2 with
    | none=>rfl
    | some b=>
     cases cl1 c3 with
     | none=>rfl
     | some c=>simp only[uF h,bind_assoc,i3]
theorem dQ(src:Src)(t:Env->M Bool)(f:Env->M D)(mk:D->Env):∀m i es,J6 src t f mk m i es=lvM src (λd=>t (mk d)) (λd=>elM f (mk d)) m i es
 | 0,_,_=>rfl
 | m+1,i,es=>by
  funext S;simp only[J6,lvM,elM,M5];cases src i S with
  | none=>rfl
  | some o=>
   cases o with
   | none=>rfl
   | some d=>
    refine congrFun (congrArg (bind (t (mk d))) (funext λb=>?_)) S;cases b with
    | false=>exact dQ src t f mk m (i+1) es
    | true=>
     refine congrArg (bind (f (mk d))) (funext λy=>?_);by_cases z:es.length<sizeLine
     ·rw[if_pos z,if_pos z];exact dQ src t f mk m (i+1) _
     ·rw[if_neg z,if_neg z];rfl
theorem iZ(src:Src)(t:Env->M Bool)(fi1:Env->M (Src×Nat))(t1:Env->M Bool)(f:Env->M D)(cap:Env):∀m i es,O0 src t fi1 t1 f cap m i es=lvM src (λd=>t (some d::none::cap)) (λd=>lvB fi1 t1 1 (elM f) (some d::none::cap)) m i es
 | 0,_,_=>rfl
 | m+1,i,es=>by
  funext S;simp only[O0,lvM,lvB,M5];cases src i S with
  | none=>rfl
  | some o=>
   cases o with
   | none=>rfl
   | some d=>
    refine congrFun (congrArg (bind (t (some d::none::cap))) (funext λb=>?_)) S;cases b with
    | false=>exact iZ src t fi1 t1 f cap m (i+1) es
    | true=>
     refine congrArg (bind (fi1 (some d::none::cap))) (funext λsm=>?_);rw[dQ];exact congrArg (bind (lvM sm.1 (λd2=>t1 (some d::some d2::cap)) (λd2=>elM f (some d::some d2::cap)) sm.2 0 es)) (funext λes'=>iZ src t fi1 t1 f cap m (i+1) es')
section
variable {X:Cx}{cl:ClW}{xe:Addr->Hp->Prop}{elt iter iter2:Expr}{x y:Str}{px py pos:Pos}{ifs ifs2:List Expr}{scope:Scope}{N':List Str}{caps:List Nat}{fi fi1:Env->M (Src×Nat)}{t t1:Env->M Bool}{f:Env->M D}
theorem EJ:jb caps fi t f=X3 1 caps fi t (elM f):=funext λρ=>congrArg (bind (fi ρ)) (funext λsm=>dQ ..)
theorem Gg:cc caps fi t fi1 t1 f=X3 2 caps fi t (lvB fi1 t1 1 (elM f)):=funext λρ=>congrArg (bind (fi ρ)) (funext λsm=>iZ ..)
theorem kH(T:CompText X.N X.env N' 1 caps scope)(hc:X.calm=true)(hN:N'.Nodup)(hx0:N'[0]?=some x)(hxl:scope.names.lookup x=some .local)(hi:PI X (.Name x px) iter (tIt X.K cl xe fi))
  (ht:∀pins C fp s H,PTL (b6 X pins N' scope C fp s H) ifs (tBo X.K cl xe t)) (he:∀pins C fp s H,PE (b6 X pins N' scope C fp s H) elt (tD X.K cl xe f)) (hn:j8 iter=true) :
  PE X (.ListComp elt [⟨.Name x px,iter,ifs,0⟩] scope pos) (eM X.K cl xe (jb caps fi t f)):=
 PE.imp (bJ (B:=λY acc=>iu Y.prog Y.w Y.A elt (.ref acc) Y.env) (by decide) T hc hN hx0 hxl hi (λit acc env=>L4 rfl rfl λ_=>rfl) ht (λpins C fp s H acc=>D0 (he pins C fp s H)) (j3 hn)) λσ H Q ⟨μ,S,ρ,eo,rp,p⟩=>Z2 (λ_ _ _ hacc=>G5 hacc) eo rp (by rw[EJ]at p;exact p)
theorem wQ(T:CompText X.N X.env N' 2 caps scope)(hc:X.calm=true)(hN:N'.Nodup)(hx0:N'[0]?=some x)(hy0:N'[1]?=some y)(hxl:scope.names.lookup x=some .local)(hyl:scope.names.lookup y=some .local)(hi:PI X (.Name x px) iter (tIt X.K cl xe fi))
  (ht:∀pins C fp s H,PTL (b6 X pins N' scope C fp s H) ifs (tBo X.K cl xe t)) (hi1:∀pins C fp s H,PI (b6 X pins N' scope C fp s H) (.Name y py) iter2 (tIt X.K cl xe fi1)) (ht1:∀pins C fp s H,PTL (b6 X pins N' scope C fp s H) ifs2 (tBo X.K cl xe t1)) (he:∀pins C fp s H,PE (b6 X pins N' scope C fp s H) elt (tD X.K cl xe f)) (hn:j8 iter=true) (hn2:j8 iter2=true) :
  PE X (.ListComp elt [⟨.Name x px,iter,ifs,0⟩,⟨.Name y py,iter2,ifs2,0⟩] scope pos) (eM X.K cl xe (cc caps fi t fi1 t1 f)):=
 PE.imp (bJ (B:=λY acc=>sP Y.prog Y.w Y.A (.ListComp elt [⟨.Name x px,iter,ifs,0⟩,⟨.Name y py,iter2,ifs2,0⟩] scope pos) iter2 0 (.ref acc) Y.env) (by decide) T hc hN hx0 hxl hi (λit acc env=>Z6 rfl rfl (j3 hn2) λ_=>rfl) ht
  (λpins C fp s H acc=>R6 rfl (by decide) hc hN hy0 hyl (λit=>L4 rfl rfl λ_=>rfl) (hi1 pins C fp s H) (ht1 pins C fp s H) (D0 (he pins C fp s H))) (j3 hn)) λσ H Q ⟨μ,S,ρ,eo,rp,p⟩=>Z2 (λ_ _ _ hacc=>R9 (G5 hacc)) eo rp (by rw[Gg]at p;exact p)
end
def yj:RuE where
 is _ lc e:=match e with
  | .ListComp _ [⟨.Name x _,iter,_,0⟩] scope _=>p9 lc scope [x]&&j8 iter
  | _=>false
 run r _ _ lc e ρ:=match e with
  | .ListComp elt [⟨.Name x px,iter,ifs,0⟩] scope _=>bind (V7 r lc elt x px iter ifs scope ρ) λds=>ret (.lst ds)
  | _=>bad
 ok {T k r Γ C lc X} e R TX h hi:=by
  split at hi
  ·rename_i elt x px iter ifs scope pos;rw[Gz]at hi;unfold V7;cases hm:e9 (d8 lc.N) (h8 scope) with
   | none=>exact f9
   | some caps=>
    obtain⟨t1,t2,t3,t4,t5⟩:=u9 h hi.1 hm;exact dJ (kH t1 (h.calm t4) t2 rfl (t3 x (by simp)) (PI.x0 (R.ix h _ _)) (λpins C fp s H=>PTL.x0 (tests_ok R (f8 h t4 t5 t2 pins C fp s H))) (λpins C fp s H=>PE.x0 (R.ex (f8 h t4 t5 t2 pins C fp s H) elt)) hi.2)
  ·cases hi
 runK q _ _ lc e ρ _ k:=match e with
  | .ListComp elt [⟨.Name x px,iter,ifs,0⟩] scope _=>dM q lc elt x px iter ifs scope ρ λds=>k (.lst ds)
  | _=>bad
 eq e ρ _ k h:=by
  split
  ·simp only[eZ h,bind_assoc,i3]
  ·first
   | rfl
   | (rename_i hn;split;exact(hn _ _ _ _ _ _ _ rfl).elim;rfl)
def AI:RuE where
 is _ lc e:=match e with
  | .ListComp _ [⟨.Name x _,iter,_,0⟩,⟨.Name y _,iter2,_,0⟩] scope _=>p9 lc scope [x,y]&&j8 iter&&j8 iter2
  | _=>false
 run r _ _ lc e ρ:=match e with
  | .ListComp elt [⟨.Name x px,iter,ifs,0⟩,⟨.Name y py,iter2,ifs2,0⟩] scope _=>bind (de r lc elt x y px py iter iter2 ifs ifs2 scope ρ) λds=>ret (.lst ds)
  | _=>bad
 ok {T k r Γ C lc X} e R TX h hi:=by
  split at hi
  ·rename_i elt x px iter ifs y py iter2 ifs2 scope pos;rw[Gz,Gz]at hi;unfold de;cases hm:e9 (d8 lc.N) (h8 scope) with
   | none=>exact f9
   | some caps=>
    obtain⟨t1,t2,t3,t4,t5⟩:=u9 h hi.1.1 hm;exact dJ (wQ t1 (h.calm t4) t2 rfl rfl (t3 x (by simp)) (t3 y (by simp)) (PI.x0 (R.ix h _ _)) (λpins C fp s H=>PTL.x0 (tests_ok R (f8 h t4 t5 t2 pins C fp s H))) (λpins C fp s H=>PI.x0 (R.ix (f8 h t4 t5 t2 pins C fp s H) _ _)) (λpins C fp s H=>PTL.x0 (tests_ok R (f8 h t4 t5 t2 pins C fp s H))) (λpins C fp s H=>PE.x0 (R.ex (f8 h t4 t5 t2 pins C fp s H) elt)) hi.1.2 hi.2)
  ·cases hi
 runK q _ _ lc e ρ _ k:=match e with
  | .ListComp elt [⟨.Name x px,iter,ifs,0⟩,⟨.Name y py,iter2,ifs2,0⟩] scope _=>iF q lc elt x y px py iter iter2 ifs ifs2 scope ρ λds=>k (.lst ds)
  | _=>bad
 eq e ρ _ k h:=by
  split
  ·simp only[pH h,bind_assoc,i3]
  ·first
   | rfl
   | (rename_i hn;split;exact(hn _ _ _ _ _ _ _ _ _ _ _ rfl).elim;rfl)
def lK:RuS where
 is _ lc e:=match e with
  | .Assign [.Name x _] (.ListComp _ [⟨.Name y _,iter,_,0⟩] scope _) _=>U1 lc x&&p9 lc scope [y]&&j8 iter
  | _=>false
 run r _ _ lc e ρ:=match e with
  | .Assign [.Name x _] (.ListComp elt [⟨.Name y py,iter,ifs,0⟩] scope _) _=>bind (bind (V7 r lc elt y py iter ifs scope ρ) λds=>ret (.lst ds)) (P4 lc x ρ)
  | _=>bad
 ok {T k r Γ C lc X} e R TX h hf hi:=by
  split at hi
  ·rename_i x p elt y py iter ifs scope pos2 pos;rw[Gz,Gz]at hi;obtain⟨⟨h1,hc⟩,hn⟩:=hi;rw[U1,Gz,HW]at h1;obtain⟨⟨i,hi⟩,hl⟩:=h1;have hi':X.N[i]?=some x:=by rw[h.N];exact k6 hi
   have hl':L2.Loc X.env.scope x:=by rw[h.sc];exact y4 hl
   have hff:X.fn x=true\/X.env.scope.names.lookup x=some .local:=.inl (h.fn1 hf);have sw:=xq h elt [⟨.Name y py,iter,ifs,0⟩] scope x p pos pos2;unfold V7;cases hm:e9 (d8 lc.N) (h8 scope) with
   | none=>exact PS.imp bO λD σ H ⟨μ,S,ρ,eo,rp,p⟩=>p.bind.elim
   | some caps=>
    obtain⟨t1,t2,t3,t4,t5⟩:=u9 h hc hm;have e1:=λpins C fp s H=>PTL.x0 (tests_ok (ifs:=ifs) R (f8 h t4 t5 t2 pins C fp s H));have e2:=λpins C fp s H=>PE.x0 (R.ex (f8 h t4 t5 t2 pins C fp s H) elt);refine gP (k:=k) hi ?_;cases hb:swB lc (.ListComp elt [⟨.Name y py,iter,ifs,0⟩] scope pos2) scope x p with
    | false=>
     rw[hb]at sw;exact nL h.nd' hi' hl' (kH t1 (h.calm t4) t2 rfl (t3 y (by simp)) (PI.x0 (R.ix h _ _)) e1 e2 hn) sw hff
    | true=>
     rw[hb]at sw;exact PS.imp (eY (n:=1) (B:=λY acc=>iu Y.prog Y.w Y.A elt (.ref acc) Y.env) sw h.nd' hi' hl' hff (by decide) t1 (h.calm t4) t2 rfl (t3 y (by simp)) (PI.x0 (R.ix h _ _)) (λit acc env=>L4 rfl rfl λ_=>rfl) e1 (λpins C fp s H acc=>D0 (e2 pins C fp s H)) (j3 hn)) λD σ H ⟨μ,S,ρ,eo,rp,p⟩=>Z2 (λ_ _ _ hacc=>G5 hacc) eo rp (by rw[EJ]at p;exact p)
  ·cases hi
 runK q _ _ lc e ρ _ k:=match e with
  | .Assign [.Name x _] (.ListComp elt [⟨.Name y py,iter,ifs,0⟩] scope _) _=>dM q lc elt y py iter ifs scope ρ λds=>w5 lc x ρ (.lst ds) k
  | _=>bad
 eq e ρ _ k h:=by
  split
  ·simp only[eZ h,bind_assoc,i3,aT]
  ·first
   | rfl
   | (rename_i hn;split;exact(hn _ _ _ _ _ _ _ _ _ _ rfl).elim;rfl)
end L3
namespace HT
open PySem PySem.Spec PyProof.Rows
section
variable {prog:Program}{w:World}{K:Type}[DecidableEq K]{knd:KeyKind prog w K}{A:Around}{R:Result->Shared->Prop}{I:Addr}{fp wr:List Addr}{G:Array GenState->Array GenState->Prop}{n:Nat}{P:Nat->Value->Prop}{St:Nat->Shared->Prop}
abbrev Met(knd:KeyKind prog w K)(h:Heap)(B:Addr)(f:Nat->K)(i:Nat):Prop:=h.SetOf knd B (λk=>decide (k∈metKHt f i)) (metKHt f i).length
theorem ou{h:Heap}{B:Addr}{S S':K->Bool}{n n':Nat}(t:h.SetOf knd B S n)(e:∀k,S k=S' k)(en:n=n'):h.SetOf knd B S' n':=by
 cases funext e;cases en;exact t
theorem GN(W:WalksS prog w A.in1 I fp wr G n P St)(B:Addr)(E:B∉fp)(f:Nat->K)(M:∀i v,P i v->knd.is (f i) v=true/\v.scannable=true)(a:n+1<scanBound) :
  ∀(k i:Nat)(s:Shared),n-i=k->i<=n->St i s->Met knd s.heap B f i->(∀z,Moved (B::wr) G s z->Met knd z.heap B f n->R (.ok (.ret .none)) z)->codeAny (model prog w) A (.builtin "set.update.loop" ⟨[.ref B,.ref I],[]⟩) R s:=by
 have u:=λh=>E (W.sub _ h);have D:∀b∈wr,b∈B::wr:=λb a=>Hh _ a;have mv:∀{i:Nat}{s z:Shared},Moved wr G s z->Met knd s.heap B f i->Met knd z.heap B f i:=λm ⟨o,es,ep,tb,ho,r⟩=>⟨o,es,ep,tb,m.heap B _ u ho,r⟩;intro k;induction k with
 | zero=>
  intro i s N F st t q;obtain rfl:i=n:=by omega
  refine LI JU ?_;rw[Around.under_plainId IS _];exact Gx (W.done s _ _ st λz m=>Gy (q z (m.mono D) (mv m t)))
 | succ k O=>
  intro i s N F st t q;have C:i<n:=by omega
  refine LI JU ?_;rw[Around.under_plainId IS _];refine Gx (W.item i s _ _ C st λv z J r m=>?_);obtain⟨x,H⟩:=M i v J;refine Gx (HX (HX (Gx (knd.pyHash x ?_))));have l:=mv m t;refine wpAny_setAddHashed_of x H l (by have:=metK_le f i;omega) λg y d=>?_;have j:Met knd g B f (i+1):=ou d (λQ=>by
   rw[metK_s];by_cases c:f i∈metKHt f i
   ·rw[if_pos c];by_cases e:Q=f i
    ·subst e;simp[c]
    ·simp[e]
   ·rw[if_neg c];simp) (by
   rw[metK_s];by_cases c:f i∈metKHt f i
   ·simp[c]
   ·simp[c])
  refine Gy ⟨plainId_quiet IS _,O (i+1) _ (by omega) C (W.frame _ z _ _ r (Ir _) λb a o e=>?_) j λL m2 p=>?_⟩
  ·rw[y.2 b (λh:b=B=>E (h▸a))];exact e
  ·refine q L (Moved.trans W.gtrans ((m.mono D).then_heap (Ir _) λb o a e=>?_) m2) p;rw[y.2 b (λh:b=B=>a (h▸Hf))];exact e
end
section
variable {prog:Program}{w:World}{K:Type}[DecidableEq K]{knd:KeyKind prog w K}{A:Around}{E:Value->Shared->Prop}{s:Shared}
theorem callK{t:Addr}{its:Array Value}(f:Nat->K){Q:Value->Shared->Prop}(hh:A.handled=none)(ht:s.heap.IsTuple t its)(hf:∀i v,its[i]?=some v->knd.is (f i) v=true/\v.scannable=true)(hb:its.size+1<scanBound)
  (h:∀(g:Heap)(tk:Nat),Met knd g s.heap.objs.size f its.size->(∀b o,b<s.heap.objs.size->s.heap.get? b=some o->g.get? b=some o)->Q (.ref s.heap.objs.size) { s with heap:=g,toks:=tk }):wpAny (model prog w) A (call (.type "set") [.ref t]) Q E s:=by
 obtain⟨c,tl,m1⟩:=PySem.F.called_set.mro;have m2:=PySem.F.called_set.made;have m3:=PySem.F.called_set.sub;refine JG (LD ?_);show wpAny _ _ (callAny (.type "set") _) _ _ _;refine Gy ⟨Code.quiet_builtin _ (by decide +kernel),LI PySem.F.entry_type_call ?_⟩;rw[Around.under_plain (weight_type_call_type "set" [.ref t] []) rfl];have m4:=PySem.F.called_set.notType;have m5:=PySem.F.called_set.canCreate;have m6:=PySem.F.typeCall_set_1 (.ref t)
 repeat (any_goals (first | assumption | wp_step))
 refine IT (code_set_new_1 (.ref t) (E:=E) (Q₁:=λr z=>∃led:Bool,r=.ref s.heap.objs.size/\z={ s with heap:=s.heap.push (ba led) }) λled=>⟨led,rfl,rfl⟩) λr z hr=>?_
 match r,hr with
 | .error _,hr=>exact hr
 | .ok .next,hr=>exact hr.elim
 | .ok .brk,hr=>exact hr.elim
 | .ok .cont,hr=>exact hr.elim
 | .ok (.ret r),hr=>
  obtain⟨led,rfl,rfl⟩:=hr;have tT:Shared.TypeIs { s with heap:=s.heap.push (ba led) } (.ref s.heap.objs.size) "set":=⟨_,Hr _ rfl,rfl⟩;have m7:=PySem.F.called_set.init.lookup;have m8:=PySem.F.called_set.init.bind (.ref s.heap.objs.size)
  repeat (any_goals (first | assumption | wp_step))
  refine IT (JI (R:=wants (λr z=>r=.none/\∃g tk,z={ s with heap:=g,toks:=tk }/\Met knd g s.heap.objs.size f its.size/\∀b o,b<s.heap.objs.size->s.heap.get? b=some o->g.get? b=some o) E) PySem.F.called_set.init.plain PySem.F.entry_set_init (check_set_init_1 tT ?_)) λr z hr=>?_
  ·obtain⟨ob,eo,ec,n,ed⟩:=ht;obtain⟨cls,dict,data,slots⟩:=ob;dsimp only at ec ed;subst ec ed;have e1:=Ha (ba led) eo;have t1:(s.heap.push (ba led)).IsTuple t its:=⟨_,e1,rfl,n,rfl⟩;have lt:=Hk eo;have q1:=F.sub_tuple_set;have q2:=F.sub_tuple_frozenset;have q3:(Value.type "tuple" == Value.type "dict")=false:=by decide
   unfold Builtin.«set.__init__» noKeywords Builtin.Frozenset.updateFrom;generalize hp:pyIter=pI
   wp_walk
   subst hp;refine JA t1 (Gx (wpAny_runValue ?_));have ne:t≠(s.heap.push (ba led)).objs.size:=by rw[IA];exact Hq (Ig lt)
   have nS:s.heap.objs.size∉[(s.heap.push (ba led)).objs.size,t]:=by
    rw[IA];simp only[Ho,IE,KA,not_or];exact⟨Hq (HS _),Lv lt⟩
   have h3:A.in1.in1.in1.handled=none:=by simp[hh]
   refine GN ((Walks.tuple h3 _ t ne its).toS) s.heap.objs.size nS f hf hb (its.size-0) 0 _ (by omega) (HY _) ⟨⟨_,Hr _ rfl,rfl,rfl⟩,t1.push _⟩ ?_ ?_
   ·exact ou ((setObjOf_fresh (knd:=knd) led).setOf (Ha _ (Hr _ rfl)) (by unfold scanBound;omega)) (λk=>by simp[metKHt]) rfl
   ·rintro⟨g,gn,dr,tk,os⟩ mv hS;have z1:gn=s.gens:=mv.gens;have z2:dr=s.drawn:=mv.drawn;have z3:os=s.os:=mv.os;subst z1 z2 z3;refine Gy ?_;show wpAny _ _ (ret Value.none) _ _ _;refine Gy ⟨rfl,g,tk,rfl,hS,λb o hb e=>mv.heap b o ?_ (Ha _ (Ha _ e))⟩;simp only[Ho,IE,KA,not_or];exact⟨Hq hb,by rw[IA];exact Hq (Ig hb)⟩
  ·match r,hr with
   | .error _,hr=>exact hr
   | .ok .next,hr=>exact hr.elim
   | .ok .brk,hr=>exact hr.elim
   | .ok .cont,hr=>exact hr.elim
   | .ok (.ret r),hr=>
    obtain⟨rfl,g,tk,rfl,hS,hk⟩:=hr
    repeat (any_goals (first | assumption | wp_step))
    exact h _ _ hS hk
end
end HT
namespace L3
open PySem PySem.Spec PyProof.Rows L2
section
variable {X:Cx}{e:Expr}{te:TE}{p p2 pos pos2:Pos}{cl:ClW}{xe:Addr->Hp->Prop}
def ot(K:PySem.W.Frag)(te:TE):TE:=λσ H Q=>te σ H λx H1=>∃a ws,x=.ref a/\SqT K H1 a (ws.map V.str)/\ws.length<4000/\Q (.int ((aD ws).length:Nat)) H1
theorem gb(hc:X.calm=true)(hl:Gl X "len") (ml:X.mg "len" = none) (hs:Gl X "set") (ms:X.mg "set" = none) (he:PE X e te) (hn:noStar e=true):PE X (.Call (.Name "len" p) [.Call (.Name "set" p2) [e] [] pos2] [] pos) (ot X.K te):=by
 intro pins s σ H Q I h;have hh:X.A.handled=none:=I.ok.hd hc;refine Ii (B7 I hl ml PySem.boot_len ?_ (by decide) (by decide));refine Ju ?_ rfl rfl;show wpAny _ _ (spliced ((false,eval (.Call (.Name "set" p2) [e] [] pos2) X.env)::backTo pos (starEach [] X.env))) _ _ s;refine Jc ?_;refine Ii (B7 I hs ms (by rfl) ?_ (by decide) (by decide));refine Io ?_ (h9 hn) rfl;rw[h9 hn];show wpAny _ _ (spliced ((false,eval e X.env)::backTo pos2 (starEach [] X.env))) _ _ s;refine Jc (thn (he pins s σ H _ I h) λu s1 ⟨x,H1,I1,r1,a,ws,e1,hq,hz,q⟩=>?_);subst e1;cases r1;refine Jk ?_;have fin:∀(its:List Value),its.length=ws.length->Vals (ws.map V.str) its->s1.heap.IsTuple a its.toArray ->
   wpAny (model X.prog X.w) X.A (call (.type "set") [.ref a]) (λv z=>wpAny (model X.prog X.w) X.A (spliced (backTo pos (starEach [] X.env))) (λvs s2=>wpAny (model X.prog X.w) X.A (call (.builtin "len") (v::vs)) (EP X pins σ Q) X.xe s2) X.xe z) X.xe s1:=λits hlen hi hsq=>by
  refine HT.callK (knd:=strKind X.prog X.w) (λi=>ws.getD i "") hh hsq (λi v hv=>?_) (by rw[Hg,hlen];show ws.length+1<4096;omega) λg tk hS hk=>?_
  ·obtain⟨t,rfl⟩:=gF hi i v (by rw[<- List.getElem?_toArray];exact hv);exact⟨LP _ _ _ _,rfl⟩
  ·refine Jk ?_;have sz:its.toArray.size=ws.length:=by rw[Hg,hlen]
   rw[sz]at hS;obtain⟨o,es,ep,t,ho,hex,hd,_,_,hsc,hf,hsz2⟩:=hS;have hsc':es.size<4096:=hsc;refine PySem.call_len_set ho hex hd hf (by omega) ?_;have e6:es.size=(aD ws).length:=hsz2;rw[e6];exact⟨.int ((aD ws).length:Nat),H1,I1.kept (t':=tk+1+1) λb ob eb=>hk b ob (Hk eb) eb,⟨_,rfl⟩,q⟩
 obtain⟨its,r',⟨ob,o1,o2,n,o3⟩,hsz⟩:=I1.tuple hq;exact fin its (by rw[<- r'.length,Hc]) r' ⟨ob,o1,o2,n,o3⟩
def E3(d:D):M D:=match d with
 | .tup ds=>(match u0 ds with
  | some ws=>if ws.length<4000 then ret (.int ((aD ws).length:Nat))else bad
  | none=>bad)
 | _=>bad
theorem iJ{f:Env->M D}(hc:X.calm=true)(hl:Gl X "len") (ml:X.mg "len" = none) (hs:Gl X "set") (ms:X.mg "set" = none) (he:PE X e (tD X.K cl xe f)) (hn:noStar e=true):PE X (.Call (.Name "len" p) [.Call (.Name "set" p2) [e] [] pos2] [] pos) (tD X.K cl xe λρ=>bind (f ρ) E3):=
 PE.imp (gb hc hl ml hs ms he hn) λσ H Q ⟨μ,S,ρ,eo,rp,p⟩=>⟨μ,S,ρ,eo,rp,p.bind.imp λd S1 μ1 H1 l1 r1 p1 v rv=>by
  cases rv with
  | @tup a xs ds ht rs=>
   simp only[E3]at p1;cases e3:u0 ds with
   | none=>rw[e3]at p1;exact p1.elim
   | some ws=>
    rw[e3]at p1;obtain⟨hz,p1⟩:=Post.guard p1;have:=jw e3 rs;subst this;exact⟨_,ws,rfl,ht.sq,hz,p1 μ1 H1 (Lat.refl _ _) r1 _ (.int _)⟩
  | _=>exact False.elim p1⟩
end
def rA:RuE where
 is Γ lc e:=match e with
  | .Call (.Name x _) [.Call (.Name y _) [a] [] _] [] _=>decide (x = "len")&&decide (y = "set")&&(Γ.gl.lookup ("len" : Str)).isNone&&(Γ.gl.lookup ("set" : Str)).isNone&&glB lc.sc "len" && glB lc.sc "set" && !quiet lc&&noStar a
  | _=>false
 run r _ _ lc e ρ:=match e with
  | .Call (.Name _ _) [.Call (.Name _ _) [a] [] _] [] _=>bind (r.e lc a ρ) E3
  | _=>bad
 ok {T k r Γ C lc X} e R TX h hi:=by
  split at hi
  ·simp only[Gz,Hw,Ih,Ix]at hi;obtain⟨⟨⟨⟨⟨⟨⟨rfl,rfl⟩,h1⟩,h2⟩,h3⟩,h4⟩,h5⟩,h6⟩:=hi;exact iJ (h.calm h5) (h.gl h3) (TX.none h (by decide) h1) (h.gl h4) (TX.none h (by decide) h2) (R.ex h _) h6
  ·cases hi
 runK q _ _ lc e ρ _ k:=match e with
  | .Call (.Name _ _) [.Call (.Name _ _) [a] [] _] [] _=>q.e lc a ρ λd=>bind (E3 d) k
  | _=>bad
 eq e ρ _ k h:=by
  split
  ·simp only[h.e,bind_assoc]
  ·first
   | rfl
   | (rename_i hn;split;exact(hn _ _ _ _ _ _ _ rfl).elim;rfl)
end L3
namespace L2
open PySem PySem.Spec PyProof.Rows
section
variable {X:Cx}{pins:List (Addr×Obj)}{σ:St}{H:Hp}{s:Shared}{N':List Str}{k:Nat}{caps:List Nat}{scope:Scope}{fp:List Addr}
theorem fH(T:CompText X.N X.env N' k caps scope)(I:Inv X pins σ H s)(hf:∀b∈fp,C6 X pins H b)(hlt:∀b∈fp,b<s.heap.objs.size){h':Heap}{m:Str->Option Value}{t:Nat}
  (hn:h'.Ns (s.heap.objs.size+1) m) (hk:∀b o,s.heap.get? b=some o->h'.get? b=some o) (ha:ObjOk X.prog X.w (upd H s.heap.objs.size u) h' s.heap.objs.size u) :
  Inv (b6 X pins N' scope (s.heap.objs.size+1) fp s H) [] (List.replicate k none++A3 caps σ) (upd H s.heap.objs.size u) { s with heap:=h',toks:=t }:=by
 have ok:=jc T I hf (Ir _) hlt;have fr:∀x∈scope.names,x.2=NameKind.free->∃c,X.env.cells.lookup x.1=some c:=λx hx hk=>I.ok.has x.1 (T.free x hx hk).2;have snd:=D6 scope.names [] fr λx c e=>by simp at e
 have nacc:=I.hok.fresh (Hd _);have lt:∀b u,H b=some u->b<s.heap.objs.size:=λb u e=>I.hok.lt e;refine⟨ok,rfl,I.bare,Un.laid hk (Hd _) nacc,⟨m,hn,λi x v e1 e2 e3=>?_⟩,λx c e=>?_,?_,λx c e=>?_,λp hp=>?_,I.hok.laid hk (Hd _) ha,?_⟩
 ·by_cases hi:i<k
  ·rw[Hj (by simpa using hi)]at e2;simp[hi]at e2
  ·rw[HC (by simpa using Jv hi)]at e2;rw[Jf]at e2;obtain⟨j,hj,hv⟩:=el e2;obtain⟨y,h1,h2,h3⟩:=T.cps _ _ hj;have hik:k+(i-k)=i:=by omega
   rw[hik]at h2;have hxy:=HH (h2.symm.trans e1);subst hxy;have hvis:=(T.free (y,.free) (mem_of_lookup h3) rfl).2;obtain⟨mX,hnX,hlX⟩:=I.loc;obtain⟨u,r,l⟩:=hlX j y v h1 hv (by rcases hvis with z | z;exact .inr (.inl z);exact .inr (.inr z));refine⟨u,r,?_⟩;rcases l with ⟨hk',_⟩ | ⟨_,c,hc,hcell⟩
   ·have hk'':X.env.scope.names.lookup y=some .local:=hk';rcases hvis with z | z
    ·rw[hk'']at z;cases z
    ·rw[hk'']at z;cases z
   ·obtain⟨c',hc'⟩:=HW.mp (R3 scope.names [] y (mem_of_lookup h3));have:=HH ((snd y c' hc').symm.trans hc);subst this;obtain⟨oc,ho,hd⟩:=hcell;exact .inr ⟨N3 h3,c',hc',oc,hk _ _ ho,hd⟩
 ·obtain⟨v,oc,ho,hd⟩:=I.cell x c (snd x c e);exact⟨v,oc,hk _ _ ho,hd⟩
 ·show upd H s.heap.objs.size u (s.heap.objs.size+1)=none;rw[a9 (Kw _)];exact I.hok.fresh (Ir _)
 ·obtain⟨v,oc,ho,hd⟩:=I.cell x c (snd x c e);rw[a9 (Hq (Hk ho))];exact I.freeC x c (snd x c e)
 ·have hp':p∈X.pn++pins:=by
   have:=hp;rwa [HU]at this
  obtain⟨e,n,ne,nf,d⟩:=I.pin p hp';refine⟨hk _ _ e,?_,Hq (Ig (Hk e)),λhb=>?_,d⟩
  ·rw[a9 (Hq (Hk e))];exact n
  ·rcases Ho.mp (I.stkSub p.1 hb)with z | z
   ·exact ne z
   ·exact nf z
 ·show _=N'.length;rw[T.len,Hu,Jf];unfold A3;rw[Hc]
end
section
variable {prog:Program}{w:World}{A:Around}{kx vx target iter:Expr}{ifs:List Expr}{gens:List Comprehension}{scope:Scope}{pos:Pos}{k:Nat}{it:Value}{acc:Addr}{env:PySem.Env}
theorem qZ(hg:gens[k]?=some ⟨target,iter,ifs,0⟩)(hl:gens[k+1]?=none):compTurn (.DictComp kx vx gens scope pos) k it (.ref acc) env=(do
   standAt iter.pos
   match <- pyNext it with
   | none=>pure (.done .next)
   | some v=>
    letOwnedTupleGo target it v
    assign target env v
    let mut ok:=true
    for c in ifs do
     if ok then ok <- isTrue c env (eval c env)
    if ok then
     (do
      let kv <- eval kx env
      let vv <- holding [kv] (eval vx env)
      standAt { kx.pos with endLine:=vx.pos.endLine,endCol:=vx.pos.endCol }
      holding [kv,vv] (dictSet acc kv vv))
    again (.compLoop (.DictComp kx vx gens scope pos) k it (.ref acc) env)):=by
 unfold compTurn;simp only[hg,hl];rfl
def rN(prog:Program)(w:World)(A:Around)(h f:Expr)(e:Addr)(a:PySem.Env):BT:=λP s=>wpAny (model prog w) A (eval h a) (λg b=>wpAny (model prog w) A (eval f a) (λvv d=>
 wpAny (model prog w) A (dictSet e g vv) (λ_ c=>P c) (λ_ _=>False) d) (λ_ _=>False) b) (λ_ _=>False) s
theorem oC(x:gens[k]?=some ⟨target,iter,ifs,0⟩)(t:gens[k+1]?=none)(y:∀v,letOwnedTupleGo target it v=pure ()) :
  J2 prog w A (.DictComp kx vx gens scope pos) k it (.ref acc) env target ifs (rN prog w A kx vx acc env):=by
 intro I R n s f h;refine Lx rfl I (λn s q=>?_) n h;refine LL ?_;rw[qZ x t];refine Gx (Iz (Gx (Hy (f n s q) (λr m b=>?_) λ_ _ h'=>h'.elim)));cases r with
 | none=>exact Gy b
 | some v=>
  refine Gx (Ky (y v) ?_);refine Gx (Hy b (λ_ j c=>Gx (Hy c (λu i a=>?_) λ_ _ h'=>h'.elim)) λ_ _ h'=>h'.elim);cases u with
  | false=>exact Gy ⟨rfl,a⟩
  | true=>
   refine Gx (Gx (Hy a (λz p g=>Gx (HX (Hy g (λvv o d=>Gx (Iz (HX (Hy d (λ_ l e=>Gy ⟨rfl,e⟩) λ_ _ h'=>h'.elim)))) λ_ _ h'=>h'.elim))) λ_ _ h'=>h'.elim))
end
end L2
namespace L3
open PySem PySem.Spec PyProof.Rows L2
def xD(K:PySem.W.Frag)(cl:ClW)(xe:Addr->Hp->Prop)(a:Addr)(i v:V)(H:Hp)(Q:Hp->Prop):Prop:=∃μ S n y z,μ.pl[n]?=some a/\RD K μ H y i/\RD K μ H z v/\Rep K cl μ S H/\Post K cl xe μ H (W6 (.ref n) y z S) λ_ _ _ H'=>Q H'
theorem uE(hu:X.A.units+80<cLine)(hw:cl.w=X.w)(pins:List (Addr×Obj))(s:Shared)(σ:L2.St)(H:Hp)(a:Addr)(i v:V)(iv u:Value)(Q:Hp->Prop)(E:Value->Shared->Prop)(I:L2.Inv X pins σ H s)(ri:RelV i iv)(rv:RelV v u)(h:xD X.K cl xe a i v H Q) :
  wpAny (model X.prog X.w) X.A (dictSet a iv u) (λ_ s'=>∃H',L2.Inv X pins σ H' s'/\Q H') E s:=by
 obtain⟨μ,S,n,y,z,h,ry,rz,rp,p⟩:=h;have m:=HE h;simp only[W6]at p;cases q1:S[n]? with
 | none=>rw[q1]at p;exact p.elim
 | some ob=>
  rw[q1]at p;cases ob with
  | lst _=>exact p.elim
  | exc _ _=>exact p.elim
  | dct _=>exact p.elim
  | dcT kvs=>
   obtain⟨es,h1,h2,h3,h4⟩:=rp.ats n _ a q1 h;rw[hw]at h4;cases q2:w8 y with
   | none=>rw[q2]at p;exact p.elim
   | some k=>
    rw[q2]at p;by_cases hl:kvs.length<sizeLine
    ·simp only[if_pos hl]at p;obtain⟨b,rfl⟩:=gO q2 ry;cases ri;obtain⟨xs,o,f1,f2,f3,f4,f5,f6,xx⟩:=wf I h1 h3 h4;have lx:xs.length<=sizeLine:=by rw[<- Paired.length xx];exact Lu hl
     refine sk (by show X.A.units+8<cLine;omega) (cr I q2 ry) f1 f2 f3 f4 f5 f6 lx λh' o' es' g1 g2 g3 g4 hs=>?_;have px:=CI xx q2 ry rv rz;have w1:Lat μ H μ (upd H a (DE a es'.toList)):=Lat.wrote m;refine⟨upd H a (DE a es'.toList),Z3 I (by rw[h1];exact True.intro) hs ⟨o',g1⟩ (Cu ⟨o',_,g1,g2,by rw[Array.toArray_toList];exact g3,rfl⟩),?_⟩;refine p μ _ w1 (rp.wrote h ⟨es'.toList,b9,h2,sH q2 h3 hl,?_⟩);have pe:=nF px;rw[<- g4]at pe;rw[hw];exact Paired.mono (λ_ _ ⟨b,v,z,a1,a2,a3,a4,a5,a6⟩=>⟨b,v,z,a1,a2.later w1,a3,a4,a5,a6.later w1⟩) pe
    ·simp only[if_neg hl]at p;exact p.elim
def tf(K:PySem.W.Frag)(cl:ClW)(xe:Addr->Hp->Prop)(e c:TE):TBo Unit:=λa b H _ Q=>e b H λh d=>c b d λvv f=>xD K cl xe a h vv f λg=>Q () g
def dO(caps:List Nat)(e:TI)(d:TT)(g:TBo Unit):TE:=λb H Q=>e b H λJ c=>∀a,c a=none->(a==sysModules)=false->pS J d 0 g a (List.replicate 1 none++A3 caps b) (upd c a (DE a [])) () λ_ f=>Q (.ref a) f
theorem mW{b:List (Addr×Obj)}{N':List Str}{a:Scope}{C:Addr}{c:List Addr}{e:Shared}{f:Hp}{i j:Expr}{d:Nat}{l m:TE}{n k:Nat}(M:X.A.units+80<cLine)(o:cl.w=X.w)(F:PE (b6 X b N' a C c e f) i l)(x:PE (b6 X b N' a C c e f) j m) :
  G6 (b6 X b N' a C c e f) n k (rN X.prog X.w X.A i j d (b6 X b N' a C c e f).env) d (tf X.K cl xe l m):=by
 intro pins s g H ys Q P _ I h w;refine i6 (thn (F pins s g H _ I h) λD u ⟨y,G,t,v,A⟩=>i6 (thn (x pins u g G _ t A) λvv s2 ⟨z,J,B,K,r⟩=>?_));exact thn (uE (X:=b6 X b N' a C c e f) M o pins s2 g J d y z D vv _ _ B v K r) λ_ E ⟨L,p,q⟩=>w () L E p q
def mS:M D:=λS=>.ok (.ref S.length) (S++[.dcT []])
def dcM(src:Src)(t:D->M Bool)(b a:D->M D)(r:D):Nat->Nat->M Unit
 | 0,_=>bad
 | m+1,i=>λS=>match src i S with
  | none=>.bad
  | some none=>.ok () S
  | some (some d)=>bind (t d) (λz=>if z=true then bind (b d) λk=>bind (a d) λv=>bind (W6 r k v) λ_=>dcM src t b a r m (i+1)else dcM src t b a r m (i+1)) S
def dY(caps:List Nat)(e:Env->M (Src×Nat))(t:Env->M Bool)(b c:Env->M D)(ρ:Env):M D:=bind (e ρ) λa=>bind mS λr=>bind (dcM a.1 (λd=>t ((D5 1 caps ρ).set 0 (some d))) (λd=>b ((D5 1 caps ρ).set 0 (some d))) (λd=>c ((D5 1 caps ρ).set 0 (some d))) r a.2 0) λ_=>ret r
theorem Cw(src:Src)(t:D->M Bool)(b a:D->M D)(r:D)(m i:Nat)(κ:Unit->M α)(S:Sto):bind (dcM src t b a r (m+1) i) κ S=(match src i S with
  | none=>.bad
  | some none=>κ () S
  | some (some d)=>bind (t d) (λz=>if z=true then bind (b d) λk=>bind (a d) λv=>bind (W6 r k v) λ_=>bind (dcM src t b a r m (i+1)) κ else bind (dcM src t b a r m (i+1)) κ) S):=by
 cases h:src i S with
 | none=>exact(cH (by simp only[dcM,h];rfl)).trans rfl
 | some o=>
  cases o with
  | none=>exact(cH (by simp only[dcM,h];rfl)).trans rfl
  | some d=>
   refine(cH (m':=bind (t d) (λz=>if z=true then bind (b d) λk=>bind (a d) λv=>bind (W6 r k v) λ_=>dcM src t b a r m (i+1)else dcM src t b a r m (i+1))) (by simp only[dcM,h])).trans ?_;rw[M5];congr 1;congr 1;funext z;cases z with
   | true=>rw[if_pos rfl,if_pos rfl,M5];simp only[M5]
   | false=>rfl
theorem nv{K:PySem.W.Frag}{cl:ClW}{xe:Addr->Hp->Prop}{caps:List Nat}{fi:Env->M (Src×Nat)}{t:Env->M Bool}{fk fv:Env->M D}{σ:L2.St}{H:Hp}{Q:VK}{μ:Mp}{S:Sto}{ρ:Env}(eo:EnvOk K μ H ρ σ)(rp:Rep K cl μ S H)
  (p:Post K cl xe μ H (dY caps fi t fk fv ρ S) λd _ μ' H'=>∀v,RD K μ' H' d v->Q v H'):dO caps (tIt K cl xe fi) (tBo K cl xe t) (tf K cl xe (tD K cl xe fk) (tD K cl xe fv)) σ H Q:=by
 refine⟨μ,S,ρ,eo,rp,p.bind.imp λsm S1 μ1 H1 l1 r1 p1 J yl acc hacc hsys=>?_⟩;have lat:Lat μ1 H1 (μ1.push acc) (upd H1 acc (DE acc [])):=by
  refine⟨λn a e=>?_,λa o e n=>by rw[a9 (c6 e hacc)];exact e,λa m=>?_,rfl⟩
  ·show(μ1.pl++[acc])[n]?=some a;rw[Hj (Hb.mp e).1];exact e
  ·rcases Hz.mp (m)with z | z
   ·exact .inl z
   ·rw[Hm.mp z];exact .inr hacc
 have r2:Rep K cl (μ1.push acc) (S1++[.dcT []]) (upd H1 acc (DE acc [])):=r1.pushed hacc (λa u e=>by rw[a9 (c6 e hacc)];exact e) ⟨[],b9,hsys,⟨HY _,by simp⟩,.nil⟩;have at2:(μ1.push acc).pl[S1.length]?=some acc:=by
  show(μ1.pl++[acc])[S1.length]?=some acc;rw[<- r1.len];simp
 have p2:Post K cl xe (μ1.push acc) (upd H1 acc (DE acc [])) ((bind (dcM sm.1 (λd=>t ((D5 1 caps ρ).set 0 (some d))) (λd=>fk ((D5 1 caps ρ).set 0 (some d))) (λd=>fv ((D5 1 caps ρ).set 0 (some d))) (.ref S1.length) sm.2 0) λ_=>ret (.ref S1.length)) (S1++[.dcT []])) λd _ μ' H'=>∀v,RD K μ' H' d v->Q v H':=Post.later p1 lat;have eo2:=(fj 1 caps (eo.later l1)).later lat;refine⟨λi m _ H3=>∃μ3 S3,Lat (μ1.push acc) (upd H1 acc (DE acc [])) μ3 H3/\Rep K cl μ3 S3 H3/\Post K cl xe μ3 H3 ((bind (dcM sm.1 (λd=>t ((D5 1 caps ρ).set 0 (some d))) (λd=>fk ((D5 1 caps ρ).set 0 (some d))) (λd=>fv ((D5 1 caps ρ).set 0 (some d))) (.ref S1.length) m i) λ_=>ret (.ref S1.length)) S3) λd _ μ' H'=>∀v,RD K μ' H' d v->Q v H',⟨sm.2,_,_,Lat.refl _ _,r2,p2⟩,?_⟩;rintro i m _ H3 ⟨μ3,S3,l3,r3,p3⟩;cases m with
 | zero=>exact p3.elim
 | succ m=>
  have y:=yl i μ3 H3 S3 (lat.trans l3).r.u r3;rw[Cw]at p3;cases e1:sm.1 i S3 with
  | none=>rw[e1]at p3;exact p3.elim
  | some o=>
   rw[e1]at p3 y;cases o with
   | none=>exact .inl ⟨y,p3 μ3 H3 (Lat.refl _ _) r3 _ (.ref (l3.pre _ _ at2))⟩
   | some d=>
    obtain⟨y1,y2⟩:=y;refine .inr ⟨y1,λx H4 hy=>?_⟩;obtain⟨l4,r4,rd4⟩:=y2 x H4 hy;have eo4:=((eo2.later l3).later l4).set rd4 0;refine⟨μ3,S3,_,eo4,r4,(Post.later p3 l4).bind.imp λz S5 μ5 H5 l5 r5 p5=>?_⟩;have l35:=(l3.trans l4).trans l5;cases z with
    | false=>exact⟨m,HS _,μ5,S5,l35,r5,p5⟩
    | true=>
     refine uR ?_;rw[if_pos rfl]at p5;refine⟨μ5,S5,_,eo4.later l5,r5,p5.bind.imp λkd S6 μ6 H6 l6 r6 p6 kv rk=>⟨μ6,S6,_,(eo4.later l5).later l6,r6,p6.bind.imp λvd S7 μ7 H7 l7 r7 p7 vv rv=>?_⟩⟩;have l37:=(l35.trans l6).trans l7;exact⟨μ7,S7,S1.length,kd,vd,l37.pre _ _ at2,rk.later l7,rv,r7,p7.bind.imp λ_ S8 μ8 H8 l8 r8 p8=>⟨m,HS _,μ8,S8,l37.trans l8,r8,p8⟩⟩
theorem yy{T:Tx}{k:Nat}{lc:Lc}{X:Cx}(h:CxOk T k lc X)(kx vx:Expr)(gens:List Comprehension)(scope:Scope)(x:Str)(pos' pos pos2:Pos):swapsWith (.DictComp kx vx gens scope pos2) (some (.Name x pos')) pos.line X.env=pure (swB lc (.DictComp kx vx gens scope pos2) scope x pos'):=by
 show pure (X.env.blockKind==.function&&X.env.kindOf x==some .local&&pos'.line==(Expr.DictComp kx vx gens scope pos2).pos.line&&!(scope.names.any λ(n,k)=>n==x&&(k==.local||k==.cell)))=_;have hb:X.env.blockKind=.function:=by unfold PySem.Env.blockKind;rw[h.sc,h.kd];rfl
 have hk:X.env.kindOf x=lc.sc.names.lookup x:=by unfold PySem.Env.kindOf;rw[h.sc]
 rw[hb,hk];rfl
theorem zX{T:Tx}{k i:Nat}{lc:Lc}{X:Cx}{x:Str}{p pos:Pos}{e:Expr}{caps:List Nat}{fi:Env->M (Src×Nat)}{t:Env->M Bool}{fk fv:Env->M D}{xe:Addr->Hp->Prop}(hi:d8 lc.N x=some i)(h:PS X (.Assign [.Name x p] e pos) (qJ (dO caps (tIt X.K T.cl x0 fi) (tBo X.K T.cl x0 t) (tf X.K T.cl x0 (tD X.K T.cl x0 fk) (tD X.K T.cl x0 fv))) (aK i))):PS X (.Assign [.Name x p] e pos) (sD X.K T.cl xe λρ=>bind (nx (dY caps fi t fk fv ρ)) (P4 lc x ρ)):=PS.imp h λD σ H ⟨μ,S,ρ,eo,rp,p⟩=>
 nv eo rp (p.bind.nx.imp λd S1 μ1 H1 l1 r1 p1 v rv=>by
  simp only[P4,hi]at p1;exact p1.ret μ1 H1 (Lat.refl _ _) r1 _ ((eo.later l1).set rv i))
section
variable (r:Ev)(q:EvK)(lc:Lc)(kx vx:Expr)(a:Cl1)(scope:Scope)(ρ:Env)
def jr:M D:=match e9 (d8 lc.N) (h8 scope) with
 | some caps=>nx (dY caps (r.i lc (.Name a.1 a.2.1) a.2.2.1) (testsE r (c8 lc scope [a.1]) a.2.2.2) (r.e (c8 lc scope [a.1]) kx) (r.e (c8 lc scope [a.1]) vx) ρ)
 | none=>bad
def mY{α:Type}(k:D->M α):M α:=match e9 (d8 lc.N) (h8 scope) with
 | some caps=>bind (nx (q.i lc (.Name a.1 a.2.1) a.2.2.1 ρ λsm=>bind mS λr=>bind (dcM sm.1 (λd=>testsK q (c8 lc scope [a.1]) a.2.2.2 ((D5 1 caps ρ).set 0 (some d))) (λd=>q.e (c8 lc scope [a.1]) kx ((D5 1 caps ρ).set 0 (some d)) ret) (λd=>q.e (c8 lc scope [a.1]) vx ((D5 1 caps ρ).set 0 (some d)) ret) r sm.2 0) λ_=>ret r)) k
 | none=>bad
end
theorem vt{r:Ev}{q:EvK}(h:EqK r q)(lc:Lc)(kx vx:Expr)(a:Cl1)(scope:Scope)(ρ:Env){α:Type}(k:D->M α):mY q lc kx vx a scope ρ k=bind (jr r lc kx vx a scope ρ) k:=by
 unfold mY jr;cases e9 (d8 lc.N) (h8 scope) with
 | none=>rfl
 | some caps=>simp only[h.i,h.e,k9,tests_eq h,dY]
abbrev SDV:=Str×Pos×Expr×Expr×Comprehension×Scope×Pos×Pos
def sdv:Stmt->Option SDV
 | .Assign [.Name g p] (.DictComp kx vx [c1] scope pos2) pos=>some (g,p,kx,vx,c1,scope,pos2,pos)
 | _=>none
theorem yu{e:Stmt}{v:SDV}(h:sdv e=some v):e=.Assign [.Name v.1 v.2.1] (.DictComp v.2.2.1 v.2.2.2.1 [v.2.2.2.2.1] v.2.2.2.2.2.1 v.2.2.2.2.2.2.1) v.2.2.2.2.2.2.2:=by
 unfold sdv at h;split at h
 ·cases h;rfl
 ·cases h
def M1(x y:D):M D:=match x with
 | .ref n=>λS=>match S[n]? with
  | some (.dcT a)=>(match w8 y with
   | some k=>Y1 (Q9 a k) S
   | none=>.bad)
  | _=>ixD (.ref n) y S
 | x=>ixD x y
section
variable {X:Cx}{cl:ClW}{xe:Addr->Hp->Prop}
theorem EL(hu:X.A.units+80<cLine)(hw:cl.w=X.w):IxR X (rP2 X.K cl xe M1):=by
 intro value slice pins s σ H x y v u Q I rx ry ⟨μ,S,d,e,rd,re,rp,p⟩ hs;have old:Post X.K cl xe μ H (ixD d e S) (λr _ μ' H'=>∀v,RD X.K μ' H' r v->Q v H')->wpAny (model X.prog X.w) X.A (subscriptTail value slice v u) (EP X pins σ Q) X.xe s:=λq=>Ei (by omega) value slice pins s σ H x y v u Q I rx ry ⟨μ,S,d,e,rd,re,rp,q⟩ hs;cases rd with
 | ref h=>
  rename_i n a;simp only[M1]at p;cases q1:S[n]? with
  | none=>rw[q1]at p;exact old p
  | some o=>
   rw[q1]at p;cases o with
   | dcT kvs=>
    obtain⟨es,h1,h2,h3,h4⟩:=rp.ats n _ a q1 h;rw[hw]at h4;cases q2:w8 e with
    | none=>rw[q2]at p;exact p.elim
    | some k=>
     rw[q2]at p;obtain⟨z,e1,p⟩:=cp p;obtain⟨b,rfl⟩:=gO q2 re;cases rx;cases ry;obtain⟨xs,dd,xx⟩:=tS I h1 h3 h4;have fx:=iY (k:=k) xx;rw[e1]at fx;obtain⟨b',u',e2,v',rv,rz⟩:=fx;obtain⟨o,ep,g1,g2,g3,_⟩:=(I.hok a _ h1).1;have hT:s.TypeIs (.ref a) "dict":=⟨o,g1,g2.1⟩;have h₂:wpAny (model X.prog X.w) X.A (getItem (.ref a) (.ref b)) (EP X pins σ Q) X.xe s:=wpAny_getItem_heap (Br hu) (cr I q2 re) dd e2 ⟨v',H,I.tok _,rv,p μ H (Lat.refl _ _) rp _ rz⟩;refine Gx ?_;rw[getitemInPython_of_ne hT.not_modules];refine Gx (LF hT PySem.F.slot_dict_getitem.lookup ?_);have fin:wpAny (model X.prog X.w) X.A (subscripted slice false (.ref a) (.ref b)) (λr s₃=>wpAny (model X.prog X.w) X.A (letTemporaryGo value (.ref a) r >>= λ_=>pure r) (EP X pins σ Q) X.xe s₃) X.xe s:=by
      rw[hs];exact wpAny_operating (Hy h₂ (λr s₃ h₃=>Gx (wpAny_letTemporaryGo (Gy h₃))) λ_ _ x=>x)
     first
      | exact Gy (Gx fin)
      | exact Gx fin
      | exact fin
   | lst _=>exact old p
   | dct _=>exact old p
   | exc _ _=>exact old p
 | _=>exact old p
end
def ixv(ns:List Str):Expr->Option (Str×Pos×Expr×Pos)
 | .Subscript (.Name x p) i pos=>if x∈ns/\t9 i=true then some (x,p,i,pos)else none
 | _=>none
theorem Ab(h:ixv ns e=some v):e=.Subscript (.Name v.1 v.2.1) v.2.2.1 v.2.2.2/\t9 v.2.2.1=true:=by
 unfold ixv at h;split at h
 ·split at h
  ·rename_i q;cases h;exact⟨rfl,q.2⟩
  ·cases h
 ·cases h
def zI(ns:List Str):RuE where
 is _ _ e:=(ixv ns e).isSome
 run r _ _ lc e ρ:=match ixv ns e with
  | some v=>bind (r.e lc (.Name v.1 v.2.1) ρ) λx=>bind (r.e lc v.2.2.1 ρ) λy=>M1 x y
  | none=>bad
 ok {T k r Γ C lc X} e R TX h hi:=by
  cases hv:ixv ns e with
  | none=>rw[hv]at hi;cases hi
  | some v=>
   obtain⟨he,hn⟩:=Ab hv;rw[he];exact xm (R.ex h _) (R.ex h _) (EL h.u80 (by rw[h.w];rfl)) (N7 hn)
 runK q _ _ lc e ρ _ k:=match ixv ns e with
  | some v=>q.e lc (.Name v.1 v.2.1) ρ λx=>q.e lc v.2.2.1 ρ λy=>bind (M1 x y) k
  | none=>bad
 eq e ρ _ k h:=by
  cases ixv ns e with
  | none=>rfl
  | some v=>simp only[h.e,bind_assoc]
theorem ii{env:PySem.Env}(kx vx t i:Expr)(ifs:List Expr)(scope:Scope)(pos:Pos):eval (.DictComp kx vx [⟨t,i,ifs,0⟩] scope pos) env=comprehension (.DictComp kx vx [⟨t,i,ifs,0⟩] scope pos) scope env i.pos newDict false (eval i env):=by
 first
  | rfl
  | (unfold eval;rfl)
  | (rw[eval];rfl)
section
variable {X:Cx}{kx vx iter:Expr}{x:Str}{px:Pos}{ifs:List Expr}{scope:Scope}{pos:Pos}{N':List Str}{caps:List Nat}{wi:TI}{tc:TT}{tb:TBo Unit}{B:Cx->Nat->BT}
theorem nu(T:CompText X.N X.env N' 1 caps scope)(hc:X.calm=true)(hN:N'.Nodup)(hx0:N'[0]?=some x)(hxl:scope.names.lookup x=some .local)(hi:PI X (.Name x px) iter wi)
  (L:∀it acc env,J2 X.prog X.w X.A (.DictComp kx vx [⟨.Name x px,iter,ifs,0⟩] scope pos) 0 (.ref it) (.ref acc) env (.Name x px) ifs (B { X with env:=env } acc))
  (ht:∀pins C fp s H,PTL (b6 X pins N' scope C fp s H) ifs tc)
  (hb:∀pins C fp s H acc,G6 (b6 X pins N' scope C fp s H) 1 0 (B { X with env:=(b6 X pins N' scope C fp s H).env } acc) acc tb)
  (hs:∀x,foldedSetIterable iter X.env x=pure x):PE X (.DictComp kx vx [⟨.Name x px,iter,ifs,0⟩] scope pos) (dO caps wi tc tb):=by
 intro pins s σ H Q I h;have fr:∀x∈scope.names,x.2=NameKind.free->∃c,X.env.cells.lookup x.1=some c:=λx hx hk=>I.ok.has x.1 (T.free x hx hk).2;rw[ii];refine Jo (use:=none) rfl hs (v6 fr) T.kind T.loc ?_;refine thn (hi pins s σ H _ I h) λv s1 h1=>thn h1 λitv s2 h2=>?_;obtain⟨it,fp,tn,J,H2,rfl,I2,Tn,st2,f2,h2⟩:=h2;have run:=h2 s2.heap.objs.size (I2.hok.fresh (Hd _)) (by
  have:=I2.big;rw[Im];exact λz=>by rw[z]at this;exact absurd this (Jn _))
 have hlt:∀b∈fp,b<s2.heap.objs.size:=λb hb=>let ⟨o,e,_⟩:=Tn.obj _ _ st2 b hb;Hk e
 refine HF (JJ T.cell (by intro y hy;simp at hy) (λh₁ hns₁ hsb₁=>?_) T.kind);dsimp only at hns₁ hsb₁ ⊢;have hC:(s2.heap.push { cls:=.type "dict",dict:=none,data:=.dict #[] }).objs.size=s2.heap.objs.size+1:=IA ..;rw[hC]at hns₁ hsb₁;have old:∀b o,s2.heap.get? b=some o->h₁.get? b=some o:=λb o e=>hsb₁.extBut b o (Hq (Ig (Hk e))) (Ha _ (Ha _ e));have hacc:h₁.get? s2.heap.objs.size=some { cls:=.type "dict",data:=.dict #[] }:=hsb₁.extBut _ _ (Hq (HS _)) (Ha _ (Hr _ rfl));have hst₁:tn 0 h₁:=Tn.keep _ _ _ st2 λb _ o e=>old b o e;have I3:Inv (b6 X pins N' scope (s2.heap.objs.size+1) fp s2 H2) [] (List.replicate 1 none++A3 caps σ) (upd H2 s2.heap.objs.size (DE s2.heap.objs.size [])) { s2 with heap:=h₁,toks:=s2.toks+([]:List (Str×Value)).length }:=fH (u:=DE s2.heap.objs.size []) (t:=s2.toks+([]:List (Str×Value)).length) T I2 f2 hlt hns₁ old (Cu ⟨_,_,hacc,⟨rfl,rfl,rfl⟩,rfl,rfl⟩);have stat:∀{H':Hp},(∀b∈fp,H' b=none)->∀b∈fp,C6 (b6 X pins N' scope (s2.heap.objs.size+1) fp s2 H2) [] H' b:=λhn b hb=>by
  refine⟨hn b hb,(I3.ok.exf b hb).1,I3.ok.exfs b hb,.inl hb,(I3.ok.exf b hb).2,λp hp=>?_⟩;have hp':p∈X.pn++pins:=by
   have:p∈(X.pn++pins)++[]:=hp;rwa [HU]at this
  exact(f2 b hb).2.2.2.2.2 p hp'
 have zn:∀i,i<1->(List.replicate 1 none++A3 caps σ)[i]?=some none:=λi h=>by
  rw[Hj (by simpa using h),Ip,if_pos h]
 have loop:∀s3:Shared,s3={ s2 with heap:=h₁,toks:=s2.toks+([]:List (Str×Value)).length } ->
   codeAny (model X.prog X.w) X.A (.compLoop (.DictComp kx vx [⟨.Name x px,iter,ifs,0⟩] scope pos) 0 (.ref it) (.ref s2.heap.objs.size) (compEnvC scope (O9 X.env.cells scope.names) (s2.heap.objs.size+1) X.env))
    (compPost (model X.prog X.w) X.A X.xe none (EP X pins σ Q) (.ref s2.heap.objs.size) (s2.heap.objs.size+1)) s3:=by
  rintro s3 rfl;refine dS (pins0:=pins) (N':=N') (scope:=scope) (C:=s2.heap.objs.size+1) (fp0:=fp) (s0:=s2) (H0:=H2) hc hN hx0 hxl (L it _ _) (ht pins _ fp s2 H2) (hb pins _ fp s2 H2 _) Tn stat I3 hst₁ (λb hb=>by rw[a9 (Hq (hlt b hb))];exact(f2 b hb).1) (zn 0 (by decide)) (λi _ h=>zn i h) run λzs H4 s5 I5 q=>?_;obtain⟨m5,hn5,_⟩:=id I5.loc;refine⟨m5,hn5,λh' hs'=>?_⟩;refine⟨.ref s2.heap.objs.size,H4,?_,rfl,q⟩;refine I2.call' (ch:=fp) (s':={ s5 with heap:=h' }) I5.os (Un.sameBut I5.base hs' (Ir _)) (I5.hok.sameBut I5.free hs') I5.bare λb hb=>?_;have:=f2 b hb;exact⟨this.2.2.2.1,this.2.1,this.2.2.2.2.1,this.2.2.2.2.2⟩
 have fin:=codeAny_compStart_dict (loop _ rfl) (Tn.self _ 0 _ _ _ hst₁ (loop _ rfl));rw[<- hC]at fin;exact fin
end
def BF(d:Lc)(g:Str)(p:Pos)(h e:Expr)(f:Comprehension)(b:Scope)(c:Pos)(a:Cl1):Bool:=U1 d g&&p9 d b [a.1]&&j8 a.2.2.1&&(swB d (.DictComp h e [f] b c) b g p==false)&&decide (("t{}" : Str)∈d.mu)
theorem EV(h:BF lc g p kx vx c1 scope pos2 a=true):U1 lc g=true/\p9 lc scope [a.1]=true/\j8 a.2.2.1=true/\swB lc (.DictComp kx vx [c1] scope pos2) scope g p=false:=by
 unfold BF at h;rw[Gz,Gz,Gz,Gz,Jy]at h;exact⟨h.1.1.1.1,h.1.1.1.2,h.1.1.2,h.1.2⟩
def BB:RuS where
 is _ lc e:=match sdv e with
  | some (g,p,kx,vx,c1,scope,pos2,pos)=>match cl1 c1 with
   | some a=>BF lc g p kx vx c1 scope pos2 a
   | none=>false
  | none=>false
 run r _ _ lc e ρ:=match sdv e with
  | some (g,p,kx,vx,c1,scope,pos2,pos)=>match cl1 c1 with
   | some a=>bind (jr r lc kx vx a scope ρ) (P4 lc g ρ)
   | none=>bad
  | none=>bad
 ok {T k r Γ C lc X} e R TX h hf hi:=by
  cases hv:sdv e with
  | none=>simp only[hv]at hi;cases hi
  | some v=>
   have he:=yu hv;obtain⟨g,p,kx,vx,c1,scope,pos2,pos⟩:=v;simp only[hv]at hi;cases h1:cl1 c1 with
   | none=>simp only[h1]at hi;cases hi
   | some a=>
    simp only[h1]at hi;have e1:=U3 h1;have hq:=EV hi;clear hi;obtain⟨hg,hc,hn,hb⟩:=hq;have hg':=hg;rw[U1,Gz,HW]at hg';obtain⟨⟨i,hi⟩,hl⟩:=hg';have hi':X.N[i]?=some g:=by rw[h.N];exact k6 hi
    have hl':L2.Loc X.env.scope g:=by rw[h.sc];exact y4 hl
    have hff:X.fn g=true\/X.env.scope.names.lookup g=some .local:=.inl (h.fn1 hf);have sw:=yy h kx vx [c1] scope g p pos pos2;rw[hb]at sw;rw[he];simp only[h1];obtain⟨x,px,iter,ifs⟩:=a;rw[e1]at sw ⊢;unfold jr;cases hm:e9 (d8 lc.N) (h8 scope) with
    | none=>exact PS.imp bO λD σ H ⟨μ,S,ρ,eo,rp,p⟩=>p.bind.elim
    | some caps=>
     obtain⟨t1,t2,t3,t4,t5⟩:=u9 h hc hm;have q0:=λpins C fp s H=>PTL.x0 (tests_ok (ifs:=ifs) R (f8 h t4 t5 t2 pins C fp s H));have e4:=λpins C fp s H=>PE.x0 (R.ex (f8 h t4 t5 t2 pins C fp s H) kx);have e5:=λpins C fp s H=>PE.x0 (R.ex (f8 h t4 t5 t2 pins C fp s H) vx);refine zX (k:=k) hi ?_;have pe:PE X (.DictComp kx vx [⟨.Name x px,iter,ifs,0⟩] scope pos2) (dO caps (tIt X.K T.cl x0 (r.i lc (.Name x px) iter)) (tBo X.K T.cl x0 (testsE r (c8 lc scope [x]) ifs)) (tf X.K T.cl x0 (tD X.K T.cl x0 (r.e (c8 lc scope [x]) kx)) (tD X.K T.cl x0 (r.e (c8 lc scope [x]) vx)))):=
      nu (B:=λY acc=>rN Y.prog Y.w Y.A kx vx acc Y.env) t1 (h.calm t4) t2 rfl (t3 x (by simp)) (PI.x0 (R.ix h _ _))
      (λit acc env=>oC rfl rfl λ_=>rfl) q0
      (λpins C fp s H acc=>mW h.u80 (by rw[h.w];rfl) (e4 pins C fp s H) (e5 pins C fp s H))
      (j3 hn)
     have s1:swapsWithSole [.Name g p] (.DictComp kx vx [⟨.Name x px,iter,ifs,0⟩] scope pos2) pos.line X.env=pure false:=by unfold swapsWithSole;exact sw
     have s2:swappedStores [.Name g p] (.DictComp kx vx [⟨.Name x px,iter,ifs,0⟩] scope pos2) X.env=pure none:=by
      first
       | rfl
       | (unfold swappedStores;rfl)
     have s3:(assignEach [.Name g p] X.env).map (·.2)=[assign (.Name g p) X.env]:=rfl;exact gq pe (L9 h.nd' hi' hl' hff) s1 s2 s3
 runK q _ _ lc e ρ _ k:=match sdv e with
  | some (g,p,kx,vx,c1,scope,pos2,pos)=>match cl1 c1 with
   | some a=>mY q lc kx vx a scope ρ λd=>w5 lc g ρ d k
   | none=>bad
  | none=>bad
 eq e ρ _ k h:=by
  cases sdv e with
  | none=>rfl
  | some v=>
   obtain⟨g,p,kx,vx,c1,scope,pos2,pos⟩:=v;dsimp only;cases cl1 c1 with
   | none=>rfl
   | some a=>simp only[vt h,bind_assoc,aT]
section
variable {P:Program}{w:World}{A:Around}{E:Value->Shared->Prop}{s:Shared}{a t:Addr}{o:Obj}{es:Array DictEntry}{ep i:Nat}
theorem AY(n:(a==sysModules)=false)(b:s.heap.get? a=some o)(c:o.ExactDict)(hd:o.data=.dict es ep)
  (q:Q (.ref s.heap.objs.size) { s with heap:=s.heap.push { cls:=.type "dict_keyiterator",data:=.fields #[.ref a,.int 0 0,.int es.size 0,.int ep 0] } }):wpAny (model P w) A (pyIter (.ref a)) Q E s:=by
 have T:s.TypeIs (.ref a) "dict":=⟨o,b,c.1⟩;refine wpAny_pyIter_slot T PySem.F.slot_dict_iter (ID PySem.F.slot_dict_iter T PySem.F.entry_dict_iter ?_ (PySem.F.args_dict_iter_1 _));refine Gx (Gx (wpAny_notOrdered_dict T (Gy ?_)));refine Gx (m:=Builtin.Dict.showsAll a) ?_;unfold Builtin.Dict.showsAll;rw[n];refine Gy (Gx (KW b hd (Gx (LJ b hd (Gx (HF (Gy ⟨_,rfl,"dict_keyiterator",_,⟨_,Hr _ rfl,rfl⟩,PySem.F.slot_dict_keyiterator_next.lookup,?_⟩)))))));simpa [rawInt] using q
theorem uW{n:Nat}(h:s.heap.IsKeyIter t a i n ep)(q:Q (.ref t) s):wpAny (model P w) A (pyIter (.ref t)) Q E s:=wpAny_pyIter_keyiter h q
theorem vz(h:s.heap.IsKeyIter t a i es.size ep)(d:s.heap.get? a=some o)(hd:o.data=.dict es ep)(f:i<es.size)
  (q:∀h',h'.IsKeyIter t a (i+1) es.size ep->Heap.SameBut t s.heap h'->Q (some es[i].key) { s with heap:=h' }):wpAny (model P w) A (pyNext (.ref t)) Q E s:=by
 obtain⟨u,c,e,b⟩:=id h;have T:=h.typeIs;refine Gx (Lb (Iq T IC (ID IC T JX ?_ (JV _))));refine Gx (Gy (Gx (Gx ?_)));first | refine Gx (IL T (Gy ?_)) | refine Gx (Jp T (Gy ?_))
 refine Gx (wpAny_fieldsOf c b ?_);refine wpAny_ite_split (λz=>absurd z He) λ_=>?_;refine Gx (Gy (Gx (KW d hd ?_)));rw[if_neg (by simp)];refine Gx (Gy (Gx (LJ d hd ?_)));rw[if_neg (by simp)];refine Gy ?_;simp only[show ¬ ((i:Int)<0) from by omega,Kk,JE,JM f];refine Gx ?_;first | refine Gx (IL T (Gy ?_)) | refine Gx (Jp T (Gy ?_))
 refine Gx (wpAny_isOneOf_keyiter T ?_);refine Gx (m:=setField (.ref t) 1 (rawInt ((i:Int)+1))) (Jx c b (by simp) ?_);have z:(s.heap.update t (Obj.mapFields (·.setIfInBounds 1 (rawInt ((i:Int)+1))))).IsKeyIter t a (i+1) es.size ep:=
  ⟨_,HZ _ c (Obj.isFreed_of_fields (Obj.data_mapFields b _)),(Obj.cls_mapFields ..).trans e,by rw[Obj.data_mapFields b];simp[rawInt]⟩
 refine Gx (HX (Gx (wpAny_isOneOf_keyiter z.typeIs (Gy ?_))));exact Gy ⟨_,rfl,Gy (q _ z (IR ..))⟩
theorem BK(e:A.handled=none)(h:s.heap.IsKeyIter t a i es.size ep)(c:s.heap.get? a=some o)(hd:o.data=.dict es ep)(f:es.size<=i)
  (q:∀h',Heap.ExtBut t s.heap h'->Q none { s with heap:=h' }):wpAny (model P w) A (pyNext (.ref t)) Q E s:=by
 obtain⟨u,d,g,b⟩:=id h;have T:=h.typeIs;refine Gx (Lb (Iq T IC (ID IC T JX ?_ (JV _))));refine Gx (Gy (Gx (Gx ?_)));first | refine Gx (IL T (Gy ?_)) | refine Gx (Jp T (Gy ?_))
 refine Gx (wpAny_fieldsOf d b ?_);refine wpAny_ite_split (λz=>absurd z He) λ_=>?_;refine Gx (Gy (Gx (KW c hd ?_)));rw[if_neg (by simp)];refine Gx (Gy (Gx (LJ c hd ?_)));rw[if_neg (by simp)];refine Gy ?_;simp only[show ¬ ((i:Int)<0) from by omega,Kk,JE,Array.getElem?_eq_none f];refine Gx ?_;first | refine Gx (IL T (Gy ?_)) | refine Gx (Jp T (Gy ?_))
 refine Gx (m:=setField (.ref t) 0 .none) (Jx d b (by simp) ?_);refine Gx ?_;refine Gx (HF ?_ (by size_fits));refine Gx (Ky (by first | rfl | (simp;rfl)) (HF ?_ (by size_fits)));refine Gx (wpAny_handled ?_);rw[e];refine Gx (Gy (wpAny_throw ?_));refine(Gx (wpAny_isInstance ⟨_,Hr _ rfl,rfl⟩ isSubtype_stop ?_));exact Gy (q _ (((IR ..).extBut.push _).push _))
end
def Itk(a:Addr)(n:Nat):It:=
 ⟨λi H=>∃es e b,H a=some (DE a es)/\es.length=n/\es[i]?=some e/\e.key=.ref b,λi H x H'=>H'=H/\∀es,H a=some (DE a es)->∃e b,es[i]?=some e/\e.key=.ref b/\x=.ref b,λi H=>∃es,H a=some (DE a es)/\es.length=n/\n<=i⟩
theorem Bd{σ:L2.St}{H:Hp}{s:Shared}(I:L2.Inv X pins σ H s){a:Addr}{es es':List DictEntry}(h:H a=some (DE a es))(h':H a=some (DE a es')):es=es':=by
 obtain⟨o,ep,e1,_,e2,_⟩:=(I.hok a _ h).1;obtain⟨o',ep',f1,_,f2,_⟩:=(I.hok a _ h').1;rw[e1]at f1;cases f1;rw[e2]at f2;injection f2 with f2 _;exact List.toArray_inj f2
theorem mM{K:PySem.W.Frag}{tg:Expr}(a t:Addr)(n:Nat):Turn P w K tg (Itk a n) [t] t (λi h=>h.IsKeyIter t a i n n) where
 mem:=by simp
 obj:=λi h st b g=>by
  cases Hm.mp g;obtain⟨o,e,c,d⟩:=st;exact⟨o,e,λv z=>by rw[d]at z;cases z⟩
 keep:=λi h h' ⟨o,e,r⟩ k=>⟨o,k t (by simp) o e,r⟩
 item:=by
  intro X q D y M i pins s U H E I l st ⟨es,e,b,m,C,j,L⟩;subst q D y C;obtain⟨o,V,A,W,x,p⟩:=(I.hok a _ m).1;subst p;obtain⟨J,u,Q,G,F,B⟩:=l t (by simp);have N:=(Hb.mp j).1;refine vz (by rw[Hg];exact st) A x (by rw[Hg];exact N) λh' f Y=>?_;have O:=I.turned (t':=s.toks) (λb o g e=>(Y.2 b g).trans e) J u G F B;obtain⟨o',R,z2,Z⟩:=id f;have S:(es.toArray[i]'(by rw[Hg];exact N)).key=.ref b:=by
   rw[List.getElem_toArray,<- L];rw[(Hb.mp j).2]
  rw[Hg]at f;refine⟨_,rfl,kO R z2 Z (by decide) ⟨.ref b,H,O,by rw[S];exact rfl,⟨rfl,λes' h=>?_⟩,f,λb g=>(l b g).1⟩⟩;cases Bd I m h;exact⟨e,b,j,L,rfl⟩
 done:=by
  intro X q D y M i pins s U H E I l st ⟨es,m,C,j⟩;subst q D y C;obtain⟨o,V,A,W,x,p⟩:=(I.hok a _ m).1;subst p;obtain⟨J,u,Q,G,F,B⟩:=l t (by simp);exact BK (I.ok.hd M) (by rw[Hg];exact st) A x (by rw[Hg];exact j) λh' T=>⟨rfl,I.turned (λb o g e=>T b o g e) J u G F B⟩
 self:=λ_ _ _ _ _ st h=>uW st h
theorem wg{tg l:Expr}{g:TE}(u:PE X l g):PI X tg l (λf H R=>g f H λx d=>∃a es,x=.ref a/\d a=some (DE a es)/\(a==sysModules)=false/\R (Itk a es.length) d):=by
 intro pins s f H R I h;refine thn (u pins s f H _ I h) λv i ⟨x,d,c,k,m⟩=>?_;obtain⟨a,es,e,t,y,q⟩:=m;subst e;cases k;obtain⟨o,z,r,p,n,j⟩:=(c.hok a _ t).1;subst j;refine AY y r p n ?_;refine⟨i.heap.objs.size,[i.heap.objs.size],_,_,d,rfl,c.kept λb o e=>Ha _ e,mM a _ es.length,⟨_,Hr _ rfl,rfl,by rw[Hg];rfl⟩,λb w=>?_,q⟩;cases Hm.mp w;exact c.fpOk (Hd _) (c.hok.fresh (Hd _))
def gv(n m:Nat):Src:=λi S=>match S[n]? with
 | some (.dcT a)=>if a.length=m then some (a[i]?.map (·.1))else none
 | _=>none
def T8(d:D):M (Src×Nat):=match d with
 | .ref n=>λS=>match S[n]? with
  | some (.dcT a)=>.ok (gv n a.length,a.length+1) S
  | _=>.bad
 | _=>bad
section
variable {K:PySem.W.Frag}{cl:ClW}{μ:Mp}{H:Hp}{X:Cx}{xe:Addr->Hp->Prop}{e tg:Expr}{f:Env->M D}
theorem sK:∀{xs:List α}{ys:List β},Paired F xs ys->∀{i:Nat}{x:α},xs[i]?=some x->∃y,ys[i]?=some y/\F x y
 | _,_,.nil,i,x,e=>by cases i <;> cases e
 | _,_,.cons h t,0,x,e=>by cases e;exact⟨_,rfl,h⟩
 | _,_,.cons h t,i+1,x,e=>sK t e
theorem uK{n m:Nat}(h:μ.pl[n]?=some a):Yl K cl (Itk a m) μ H (gv n m):=λi μ2 H2 S2 l rp=>by
 unfold gv;cases q1:S2[n]? with
 | none=>exact True.intro
 | some o=>
  cases o with
  | lst _=>exact True.intro
  | dct _=>exact True.intro
  | exc _ _=>exact True.intro
  | dcT kvs=>
   dsimp only;by_cases hm:kvs.length=m
   ·rw[if_pos hm];obtain⟨es,h1,h2,h3,h4⟩:=rp.ats n _ a q1 (l.pre _ _ h);have hl:=Paired.length h4;cases e1:kvs[i]? with
    | none=>exact⟨es,h1,by rw[<- hl];exact hm,by rw[<- hm];exact Jh.mp e1⟩
    | some p=>
     obtain⟨en,e2,b,v,q,a1,a2,_⟩:=sK h4 e1;exact⟨⟨es,en,b,h1,by rw[<- hl];exact hm,e2,a1⟩,λx H3 ⟨z1,z2⟩=>by
      subst z1;obtain⟨en',b',y1,y2,y3⟩:=z2 es h1;rw[e2]at y1;cases y1;rw[a1]at y2;cases y2;subst y3;exact⟨Lat.refl _ _,rp,a2⟩⟩
   ·rw[if_neg hm];exact True.intro
theorem oq(h:PE X e (tD X.K cl xe f)):PI X tg e (tIt X.K cl xe λρ=>bind (f ρ) T8):=PI.imp (wg h) λσ H R ⟨μ,S,ρ,eo,rp,p⟩=>
 ⟨μ,S,ρ,eo,rp,p.bind.imp λd S1 μ1 H1 l1 r1 p1 v rv=>by
  cases rv with
  | ref h=>
   rename_i n a;simp only[T8]at p1;cases q1:S1[n]? with
   | none=>rw[q1]at p1;exact p1.elim
   | some o=>
    rw[q1]at p1;cases o with
    | dcT kvs=>
     obtain⟨es,h1,h2,h3,h4⟩:=r1.ats n _ a q1 h;refine⟨a,es,rfl,h1,h2,p1 μ1 H1 (Lat.refl _ _) r1 _ ?_⟩;rw[<- Paired.length h4];exact uK h
    | dct _=>exact p1.elim
    | exc _ _=>exact p1.elim
    | lst _=>exact p1.elim
  | _=>exact False.elim p1⟩
end
def Fz(ns:List Str):Expr->Bool
 | .Name x _=>decide (x∈ns)
 | _=>false
def EE(ns:List Str):RuI where
 is _ _ _ e:=Fz ns e
 run r _ _ lc e ρ:=bind (r.e lc e ρ) T8
 ok g e R TX h hi:=oq (R.ex h e)
 runK q _ _ lc e ρ _ k:=q.e lc e ρ λd=>bind (T8 d) k
 eq e ρ _ k h:=by simp only[h.e,bind_assoc]
def eO(ns:List Int):Option Int:=(ar (ns.map λn=>-n)).map λn=>-n
theorem jm(h:m∈ns)(q:∀a∈ns,m<=a):eO ns=some m:=by
 unfold eO;rw[tN (HN.mpr ⟨m,h,rfl⟩) λa ha=>?_]
 ·show some (- -m)=_;rw[Int.neg_neg]
 ·obtain⟨b,hb,rfl⟩:=HN.mp ha;have:=q b hb;omega
def bg(ds:List D):M D:=match ds with
 | [.int i,.int j]=>ret (.int (if j<i then j else i))
 | [d]=>bind (lstOf d) λes=>match (B5 es).bind eO with
  | some m=>ret (.int m)
  | none=>bad
 | _=>bad
section
variable {X:Cx}{cl:ClW}{xe:Addr->Hp->Prop}
theorem lI(hc:X.calm=true):p0 X (.builtin "min") (λxs H Q=>∃(p:Addr) (ns:List Int),xs=[.ref p]/\SqL X.K H p (ns.map V.int)/\∃m,eO ns=some m/\Q (.int m) H):=by
 intro pins s σ H xs us Q I r ⟨p,ns,ex,hq,m,hM,q⟩;subst ex;obtain⟨u,rfl,rx⟩:=aM r;cases rx;obtain⟨its,r',pl,hz⟩:=I.list hq;have hh:=I.ok.hd hc;obtain⟨ys,e1,e2⟩:=D1 r';have e3:its.toArray=intItems ys.toArray:=by rw[e1];simp[intItems]
 have hne:0<ys.toArray.size:=by
  cases ys with
  | nil=>cases e2;cases hM
  | cons y ys=>simp
 refine min_intList hh (by rw[<- e3];exact pl.isList) hne λv h' tk hv hk=>?_;obtain⟨t,rfl⟩:=intItems_at hv;obtain⟨h1,h2⟩:=argBest_lt (numAt ys.toArray) (ys.toArray.size-1);have hm:eO ns=some (numAt ys.toArray (argBest (λi j=>decide (numAt ys.toArray i<numAt ys.toArray j)) (ys.toArray.size-1))):=by
  refine jm ?_ λa ha=>?_
  ·rw[numAt_eq,<- e2];refine getD_mem ?_;have e5:ys.toArray.size=ys.length:=Hg;rw[e5]at h1 hne;rw[Hc];show _<ys.length;rw[e5];omega
  ·rw[<- e2]at ha;obtain⟨j,hj,rfl⟩:=mem_getD (l:=ys.toArray.toList.map (·.1)) ha;rw[Hc,JP]at hj;rw[<- numAt_eq];exact h2 j (by omega)
 rw[hM]at hm;cases hm;exact⟨.int _,H,I.kept λb o eb=>hk b o eb,⟨t,rfl⟩,q⟩
theorem yR(i:X.calm=true):p0 X (.builtin "min") (rPs X.K cl xe bg):=by
 intro pins s j H xs us Q I r ⟨μ,S,ds,b,g,p⟩;unfold bg at p;split at p
 ·cases b with
  | cons h t=>cases t with
   | cons c n=>
    cases n;cases h;cases c;exact lG i pins s j H _ us Q I r ⟨_,_,rfl,p μ H (Lat.refl _ _) g _ (.int _)⟩
 ·rename_i d;cases b with
  | cons h t=>
   cases t;obtain⟨a,xs,es,rfl,l,c,k⟩:=k7 h g p.bind;have p:=p.ok_bind k;cases e:B5 es with
   | none=>rw[e]at p;exact p.elim
   | some ns=>
    rw[e]at p;cases f:eO ns with
    | none=>simp only[IY,f]at p;exact p.elim
    | some m=>
     simp only[IY,f]at p;have:=jP e c;subst this;exact lI i pins s j H _ us Q I r ⟨a,ns,rfl,.inl (.inl l),m,f,p μ H (Lat.refl _ _) g _ (.int _)⟩
 ·exact p.elim
end
def Cc:RuE:=rBf "min" "min" true bg (by decide) rfl λ_ a=>yR (a rfl)
end L3
namespace L3.K08
open PySem PySem.Spec PyProof.Rows L2
def nth(l:List Stmt)(i:Nat):Stmt:=l.getD i (.Pass ⟨0,0,0,0⟩)
def top(i:Nat):Stmt:=nth PySem.Challenge.pw_handnames_k08_whole_papers_hold.main.body i
def y7:Stmt->List Stmt
 | .For _ _ b _ _=>b
 | .While _ b _ _=>b
 | _=>[]
def zu:Stmt->List Stmt
 | .If _ b _ _=>b
 | _=>[]
def AK:Stmt->Expr
 | .While c _ _ _=>c
 | _=>.Name "" ⟨0,0,0,0⟩
def sn:Stmt->List Stmt
 | .Try b _ _ _ _=>b
 | _=>[]
def uS:Stmt->List Stmt
 | .Try _ [.ExceptHandler _ _ b _] _ _ _=>b
 | _=>[]
abbrev yI:Fd:=j9 (top 5) []
abbrev yD:Fd:=j9 (top 6) []
abbrev xz:Fd:=j9 (top 7) []
abbrev xR:Fd:=j9 (top 8) []
abbrev Dy:Fd:=j9 (top 12) []
abbrev Gj:Fd:=j9 (top 13) []
abbrev Gw:Fd:=j9 (top 14) []
abbrev By:Fd:=j9 (top 15) ["return"]
abbrev Gp:Fd:=j9 (top 16) []
abbrev xN:Fd:=j9 (top 22) []
abbrev Gk:Fd:=j9 (top 23) ["waiting"]
abbrev xT:Fd:=j9 (top 24) []
abbrev Bz:Fd:=j9 (top 25) []
abbrev xi:Fd:=j9 (top 26) ["setw"]
abbrev Gq:Fd:=j9 (top 27) []
abbrev Dr:Fd:=j9 (top 28) []
abbrev says_F:Fd:=j9 (top 29) []
abbrev xG:Fd:=j9 (top 32) []
abbrev Gi:Fd:=j9 (top 33) ["t{}"]
abbrev Gs:Fd:=j9 (top 34) []
abbrev Gu:Fd:=j9 (top 35) []
abbrev EN:Fd:=j9 (top 36) []
abbrev xI:Fd:=j9 (top 38) []
abbrev qK:Fd:=j9 (top 39) []
abbrev yH:Fd:=j9 (top 40) []
abbrev Gh:Fd:=j9 (top 42) []
abbrev Cl:Fd:=j9 (top 43) []
abbrev yA:Fd:=j9 (top 44) []
abbrev xX:Fd:=j9 (top 45) []
abbrev soL_F:Fd:=j9 (top 46) []
abbrev Gr:Fd:=j9 (top 47) []
abbrev EY:Fd:=j9 (top 48) ["_law_some"]
abbrev Gv:Fd:=j9 (top 49) []
abbrev Go:Fd:=j9 (top 50) ["_law_some"]
abbrev Gn:Fd:=j9 (top 51) []
abbrev law_F:Fd:=j9 (top 52) []
abbrev zb:Nat:=0
abbrev zC:Nat:=1
abbrev yL:Nat:=2
abbrev zm:Nat:=3
abbrev Eu:Nat:=4
abbrev nT:Nat:=5
abbrev Bl:Nat:=6
abbrev xb:Nat:=7
abbrev pT:Nat:=8
abbrev BX:Nat:=9
abbrev AT:Nat:=10
abbrev zx:Nat:=11
abbrev DD:Nat:=12
abbrev zD:Nat:=13
abbrev qW:Nat:=14
abbrev fG:Nat:=15
abbrev cv:Nat:=16
abbrev ng:Nat:=17
abbrev jM:Nat:=18
abbrev rK:Nat:=19
abbrev mf:Nat:=20
abbrev pL:Nat:=21
abbrev zS:Nat:=22
abbrev U4:Nat:=23
abbrev BP:Nat:=24
abbrev ij:Nat:=25
abbrev gu:Nat:=26
abbrev Bb:Nat:=27
abbrev bH:Nat:=28
abbrev BL:Nat:=29
abbrev AN:Nat:=30
abbrev yC:Nat:=31
abbrev gY:Nat:=32
abbrev zZ:Nat:=33
abbrev zc:Nat:=34
abbrev oJ:Nat:=35
def Tb:List Fd:=[yI,yD,xz,xR,Dy,Gj,Gw,By,Gp,xN,Gk,xT,Bz,xi,Gq,Dr,says_F,xG,Gi,Gs,Gu,EN,xI,qK,yH,Gh,Cl,yA,xX,soL_F,Gr,EY,Gv,Go,Gn,law_F]
def Γ:Gm:=⟨("HandError",.err 0 [])::("NoStep",.err 1 ["hand"])::("NoPaper",.err 2 ["word","at"])::("WORDS",.val (.tup [(.str "out"),(.str "ask"),(.str "close"),(.str "look"),(.str "holds"),(.str "right"),(.str "down")]))::("ENDED",.val (.tup [(.str "holds"),(.str "right"),(.str "down")]))::("MOST_FORMULAS",.val (.int 20))::("MOST_WITHIN",.val (.int 8))::("HANDS",.dct [("each",(.tup [(.int 0)])),("some",(.tup [(.int 0)])),("pairs",(.tup [(.int 0),(.int 1)])),("plain",(.tup []))])::("PARTS",.dct [("at",(.int 3)),("mark",(.int 2)),("free",(.int 1)),("closed",(.int 1)),("not",(.int 2)),("both",(.int 3)),("either",(.int 3))])::("MOST_SENTENCES",.val (.int 12))::("is_whole",.fn 0 1)::("is_one_of",.fn 1 2)::("is_tuple_of",.fn 2 2)::("with_at",.fn 3 3)::("first_decider",.fn 4 1)::("step_decider",.fn 5 2)::("moving_hands",.fn 6 1)::("all_deciders",.fn 7 1)::("all_words",.fn 8 1)::("is_sentence",.fn 9 1)::("is_formula",.fn 10 2)::("is_built",.fn 11 2)::("formulas_in",.fn 12 1)::("are_words",.fn 13 1)::("is_so",.fn 14 2)::("hands_meant",.fn 15 2)::("says",.fn 16 3)::("lets_paper",.fn 17 2)::("carried_stands",.fn 18 2)::("check_shape",.fn 19 1)::("first_fault",.fn 20 2)::("stands_next",.fn 21 1)::("_law_feed",.fn 22 1)::("_law_draw",.fn 23 2)::("_law_words",.fn 24 0)::("_law_behind",.fn 25 2)::("_law_formula",.fn 26 3)::("_law_sentence",.fn 27 2)::("_law_says",.fn 28 3)::("_law_so",.fn 29 2)::("_law_all_so",.fn 30 2)::("_law_good_sentences",.fn 31 0)::("_law_lets",.fn 32 2)::("_law_papers",.fn 33 1)::("_law_holds",.fn 34 3)::("law",.fn 35 1)::[],λc c0=>c0==0||c==c0,["hand","word","at"],[]⟩
def Rs:Rules:=⟨[yp,CJ,GW,Ff,ER,CC,zI ["faults"],rIx,FW,Fk,rFn,Fa,CG,rA,wZ,GO,Ba,Fg,GG,Cc,CO,rIf,GY,GA,GM,rSl,GP,yj,AI,BH,rAppend,uM,EC,GE],[BD,CS,EK,Ft,AR],[yP,FR,sIf,GC,yT,Am,FQ,Df,lK,yO,BB,FP,GR,GL,DV,CA],[wz,CZ,EE ["faults"],Gb]⟩
abbrev rn(k i:Nat)(ds:List D):M D:=O2 Rs Γ Tb k i ds
abbrev XX(C:Cf)(n:Nat)(l:Lc)(b:List Stmt)(i:Nat)(ρ:L3.Env){α:Type}(κ:Fl->M α):M α:=(evK Rs Γ C n).s l (nth b i) ρ κ
local macro_rules|`($x:ident@$e<|$b)=>`(bind $e λ$x=>$b)
local macro_rules|`(())=>`(by kernel_rfl)
section
variable (C:Cf){α:Type}(κ:Fl->M α){ua ub uc ud ue:D}{qa qb qc qd qe qf qg:Option D}
theorem vj:runK Rs Γ C yI [ua]=(x1@(T0 "int" (λ_=>false) ua)<|c2@(j0 x1)<|if c2 then (x3@(T0 "bool" (λ_=>false) ua)<|c4@(j0 x3)<|ret (.bl (!c4)))else (ret x1)):=()
theorem uX:runK Rs Γ C yD [ua,ub]=(x1@(C 0 [ua])<|c2@(j0 x1)<|if c2 then (x3@(b7 .In ua ub)<|ret x3)else (ret x1)):=()
theorem su:runK Rs Γ C xz [ua,ub]=(x1@(T0 "tuple" (λ_=>false) ua)<|c2@(j0 x1)<|if c2 then (x3@(J0 ua)<|x4@(b7 .Eq x3 ub)<|ret x4)else (ret x1)):=()
theorem wj:runK Rs Γ C xR [ua,ub,uc]=(n1@(U2 ub)<|x2@(slD ua none n1)<|x3@(n8 x2 (.tup [uc]))<|x4@(n8 ub (.int 1))<|n5@(U2 x4)<|x6@(slD ua n5 none)<|x7@(n8 x3 x6)<|ret x7):=()
theorem At:runK Rs Γ C Dy [ua]=(x1@(L0 (.tup [(.str "out")]) ua)<|ret (.tup [.non,(.bl false),x1])):=()
def fU:Lc:=w6 Gj
theorem AU:runK Rs Γ C Gj [ua,ub]=k0 (evK Rs Γ C 40) fU Gj.body [ua,ub,none,none,none,none] endD:=()
theorem yU:Gj.body=[nth Gj.body 0,nth Gj.body 1,nth Gj.body 2,nth Gj.body 3,nth Gj.body 4,nth Gj.body 5,nth Gj.body 6]:=()
theorem GD:XX C 40 fU Gj.body 0 [ua,qa,qb,qc,qd,qe] κ=bind (aR (B2 [2,3,4]) ua [ua,qa,qb,qc,qd,qe]) κ:=()
theorem FN:XX C 40 fU Gj.body 1 [qa,ua,qb,qc,ub,qd] κ=(x1@(ixD ub ua)<|κ (.nx [qa,ua,qb,qc,ub,x1])):=()
theorem FU:XX C 40 fU Gj.body 2 [qa,ua,qb,qc,qd,ub] κ=(x1@(b7 .In ub (.tup [(.str "holds"),(.str "right"),(.str "down")]))<|z2@(asB x1)<|if z2 then (x3@(F8 1 ["hand"] [ua])<|bind (v5 x3) (fin κ))else (κ (.nx [qa,ua,qb,qc,qd,ub]))):=()
theorem vw:XX C 40 fU Gj.body 3 [qa,ua,qb,ub,uc,ud] κ=(x1@(b7 .Eq ud (.str "out"))<|z2@(asB x1)<|if z2 then (x3@(C 3 [uc,ua,(.str "ask")])<|κ (.rt (.tup [ua,ub,x3])))else (κ (.nx [qa,ua,qb,ub,uc,ud]))):=()
theorem zW:XX C 40 fU Gj.body 4 [qa,ua,ub,uc,ud,ue] κ=(x1@(b7 .Eq ue (.str "ask"))<|z2@(asB x1)<|if z2 then (z3@(j0 uc)<|if z3 then (x4@(C 3 [ud,ua,(.str "right")])<|κ (.rt (.tup [ub,uc,x4])))else (x5@(C 3 [ud,ua,(.str "close")])<|κ (.rt (.tup [ub,uc,x5]))))else (κ (.nx [qa,ua,ub,uc,ud,ue]))):=()
theorem Bt:XX C 40 fU Gj.body 5 [qa,ua,ub,qb,uc,ud] κ=(x1@(b7 .Eq ud (.str "close"))<|z2@(asB x1)<|if z2 then (x3@(C 3 [uc,ua,(.str "look")])<|κ (.rt (.tup [ub,(.bl true),x3])))else (κ (.nx [qa,ua,ub,qb,uc,ud]))):=()
theorem FZ:XX C 40 fU Gj.body 6 [qa,ua,ub,uc,ud,qb] κ=(x1@(b7 .Eq ub ua)<|z2@(asB x1)<|if z2 then (x3@(C 3 [ud,ua,(.str "holds")])<|κ (.rt (.tup [ub,uc,x3])))else (x4@(C 3 [ud,ua,(.str "down")])<|κ (.rt (.tup [ub,uc,x4])))):=()
def z5_L:Lc:=w6 Gw
def bo:Expr×List Expr×Scope:=match (nth Gw.body 0) with
 | .Return (some (.ListComp elt [⟨_,_,ifs,_⟩] scope _)) _=>(elt,ifs,scope)
 | _=>(.Name "" ⟨0,0,0,0⟩,[],default)
def rM(C:Cf)(ρ:L3.Env)(d:D):M Bool:=match e9 (d8 z5_L.N) (h8 bo.2.2) with
 | some caps=>tF (testsK (evK Rs Γ C 38) (c8 z5_L bo.2.2 ["hand","word"]) bo.2.1) (mk2 (A4 caps ρ) d)
 | none=>bad
theorem iS:rM C [qa] (.tup [ua,ub])=(x1@(b7 .NotIn ub (.tup [(.str "holds"),(.str "right"),(.str "down")]))<|z2@(asB x1)<|ret z2):=()
def qL(C:Cf)(ρ:L3.Env)(d:D):M D:=match e9 (d8 z5_L.N) (h8 bo.2.2) with
 | some caps=>(evK Rs Γ C 38).e (c8 z5_L bo.2.2 ["hand","word"]) bo.1 (mk2 (A4 caps ρ) d) ret
 | none=>bad
theorem gy:qL C [qa] (.tup [ua,ub])=ret ua:=()
theorem zy:runK Rs Γ C Gw [ua]=(l3@(nx (x1@(ixD ua (.int 2))<|sm2@(bi x1)<|i5 sm2.1 (rM C [ua]) (qL C [ua]) sm2.2 0 []))<|ret (.lst l3)):=()
theorem zA:runK Rs Γ C By [ua]=(x1@(M0 ua)<|x2@(n8 (.lst [.non]) x1)<|x3@(C 8 [ua])<|l16@(nx (sm4@(k4 x2)<|lvM sm4.1 (λd5=>ret true) (λd5=>λl6=>sm7@(sm8@(k4 (.tup [(.bl false),(.bl true)]))<|ret sm8)<|lvM sm7.1 (λd9=>ret true) (λd9=>λl10=>sm11@(sm12@(k4 x3)<|ret sm12)<|lvM sm11.1 (λd13=>ret true) (λd13=>λl14=>x15@(ret (.tup [d5,d9,d13]))<|if l14.length<sizeLine then ret (l14++[x15])else bad) sm11.2 0 l10) sm7.2 0 l6) sm4.2 0 []))<|x17@(newL l16)<|ret x17):=()
def bw:Lc:=w6 Gp
theorem uD:runK Rs Γ C Gp [ua]=k0 (evK Rs Γ C 40) bw Gp.body [ua,none,none] endD:=()
theorem vJ:Gp.body=[nth Gp.body 0,nth Gp.body 1,nth Gp.body 2]:=()
theorem Cb:XX C 40 bw Gp.body 0 [qa,qb,qc] κ=κ (.nx [qa,some (.lst [(.tup [])]),qc]):=()
def Y4:List Stmt:=y7 (nth Gp.body 1)
def fS(C:Cf):L3.Env->M Fl:=λρ'=>k0 (evK Rs Γ C 39) bw Y4 ρ' ret
theorem Eg:XX C 40 bw Gp.body 1 [ua,qa,qb] κ=(sm1@(u7 [ua])<|bind (u4 sm1.1 (λd ρ=>some (ρ.set 2 (some d))) (fS C) sm1.2 0 [ua,qa,qb]) κ):=()
theorem EU:XX C 40 bw Gp.body 2 [qa,ua,qb] κ=κ (.rt ua):=()
theorem gL:Y4=[nth Y4 0]:=()
theorem ky:XX C 39 bw Y4 0 [qa,ua,qb] κ=(l10@(nx (sm1@(k4 ua)<|lvM sm1.1 (λd2=>ret true) (λd2=>λl3=>sm4@(sm5@(k4 (.tup [(.str "out"),(.str "ask"),(.str "close"),(.str "look"),(.str "holds"),(.str "right"),(.str "down")]))<|ret sm5)<|lvM sm4.1 (λd6=>ret true) (λd6=>λl7=>x8@(x9@(n8 d2 (.tup [d6]))<|ret x9)<|if l7.length<sizeLine then ret (l7++[x8])else bad) sm4.2 0 l3) sm1.2 0 []))<|κ (.nx [qa,some (.lst l10),qb])):=()
theorem wc:runK Rs Γ C xN [ua]=(x1@(C 2 [ua,(.int 2)])<|z2@(j0 x1)<|if (!z2)=true then (ret (.bl false))else (x3@(ixD ua (.int 0))<|x4@(T0 "str" (λ_=>false) x3)<|z5@(j0 x4)<|if (!z5)=true then (ret (.bl false))else (x6@(ixD ua (.int 0))<|z7@(wF [("each",(.tup [(.int 0)])),("some",(.tup [(.int 0)])),("pairs",(.tup [(.int 0),(.int 1)])),("plain",(.tup []))] x6)<|if z7 then (ret (.bl false))else (x8@(ixD ua (.int 1))<|x9@(ixD ua (.int 0))<|x10@(gdD [("each",(.tup [(.int 0)])),("some",(.tup [(.int 0)])),("pairs",(.tup [(.int 0),(.int 1)])),("plain",(.tup []))] x9)<|x11@(C 10 [x8,x10])<|ret x11)))):=()
def K8:Lc:=w6 Gk
theorem wq:runK Rs Γ C Gk [ua,ub]=k0 (evK Rs Γ C 40) K8 Gk.body [ua,ub,none,none,none,none] endD:=()
theorem vC:Gk.body=[nth Gk.body 0,nth Gk.body 1,nth Gk.body 2,nth Gk.body 3]:=()
theorem Db:XX C 40 K8 Gk.body 0 [ua,qa,qb,qc,qd,qe] κ=(x1@(newL [(.tup [ua,(.int 1)])])<|κ (.nx [ua,qa,x1,qc,qd,qe])):=()
theorem Di:XX C 40 K8 Gk.body 1 [qa,qb,qc,qd,qe,qf] κ=κ (.nx [qa,qb,qc,some (.int 0),qe,qf]):=()
def qR(C:Cf):L3.Env->M Bool:=λρ'=>(evK Rs Γ C 39).t K8 (AK (nth Gk.body 2)) ρ' ret
theorem hB:qR C [qa,qb,ua,qc,qd,qe]=(z1@(j0 ua)<|ret z1):=()
def v7:List Stmt:=y7 (nth Gk.body 2)
def fR(C:Cf):L3.Env->M Fl:=λρ'=>k0 (evK Rs Γ C 39) K8 v7 ρ' ret
theorem DA:XX C 40 K8 Gk.body 2 [qa,qb,qc,qd,qe,qf] κ=bind (D4 (qR C) (fR C) 10000 [qa,qb,qc,qd,qe,qf]) κ:=()
theorem EF:XX C 40 K8 Gk.body 3 [qa,qb,qc,qd,qe,qf] κ=κ (.rt (.bl true)):=()
theorem eH:v7=[nth v7 0,nth v7 1,nth v7 2,nth v7 3]:=()
theorem lr:XX C 39 K8 v7 0 [qa,qb,ua,qc,qd,qe] κ=(x1@(eQ ua)<|bind (aR (B2 [4,5]) x1 [qa,qb,ua,qc,qd,qe]) κ):=()
theorem ki:XX C 39 K8 v7 1 [qa,qb,qc,ua,qd,qe] κ=(x1@(iQ (λi j=>i+j) ua (.int 1))<|κ (.nx [qa,qb,qc,x1,qd,qe])):=()
theorem lZ:XX C 39 K8 v7 2 [qa,ua,qb,ub,uc,ud] κ=(x1@(b7 .Gt ub (.int 20))<|z2@(asB x1)<|if z2 then (κ (.rt (.bl false)))else (x3@(b7 .Gt ud (.int 8))<|z4@(asB x3)<|if z4 then (κ (.rt (.bl false)))else (x5@(C 11 [uc,ua])<|z6@(j0 x5)<|if (!z6)=true then (κ (.rt (.bl false)))else (κ (.nx [qa,ua,qb,ub,uc,ud]))))):=()
theorem lD:XX C 39 K8 v7 3 [qa,qb,ua,qc,ub,uc] κ=(x@(lstOf ua)<|l5@(nx (x2@(C 12 [ub])<|sm3@(k4 x2)<|i5 sm3.1 (λd1=>ret true) (λd1=>x4@(n8 uc (.int 1))<|ret (.tup [d1,x4])) sm3.2 0 []))<|x6@(extD ua [(.lst l5)])<|κ (.nx [qa,qb,ua,qc,ub,uc])):=()
theorem wm:runK Rs Γ C xT [ua,ub]=(x1@(T0 "tuple" (λ_=>false) ua)<|z2@(j0 x1)<|if (!z2)=true then (ret (.bl false))else (x3@(J0 ua)<|x4@(b7 .Eq x3 (.int 0))<|z5@(asB x4)<|if z5 then (ret (.bl false))else (x6@(ixD ua (.int 0))<|x7@(T0 "str" (λ_=>false) x6)<|z8@(j0 x7)<|if (!z8)=true then (ret (.bl false))else (x9@(ixD ua (.int 0))<|x10@(X1 [("at",(.int 3)),("mark",(.int 2)),("free",(.int 1)),("closed",(.int 1)),("not",(.int 2)),("both",(.int 3)),("either",(.int 3))] x9)<|x11@(J0 ua)<|x12@(b7 .NotEq x10 x11)<|z13@(asB x12)<|if z13 then (ret (.bl false))else (x14@(b7 .Eq x9 (.str "at"))<|z15@(asB x14)<|if z15 then (x16@(ixD ua (.int 1))<|x17@(C 1 [x16,ub])<|c18@(j0 x17)<|if c18 then (x19@(ixD ua (.int 2))<|x20@(C 13 [x19])<|ret x20)else (ret x17))else (x21@(b7 .NotEq x9 (.str "mark"))<|c22@(j0 x21)<|if c22 then (ret x21)else (x23@(ixD ua (.int 1))<|x24@(C 1 [x23,ub])<|ret x24))))))):=()
theorem BU:runK Rs Γ C Bz [ua]=(x1@(ixD ua (.int 0))<|x2@(b7 .In x1 (.tup [(.str "not"),(.str "both"),(.str "either")]))<|z3@(asB x2)<|if z3 then (x4@(slD ua (some 1) none)<|ret x4)else (ret (.tup []))):=()
theorem wK:runK Rs Γ C xi [ua]=(x1@(T0 "tuple" (λ_=>false) ua)<|z2@(j0 x1)<|if (!z2)=true then (ret (.bl false))else (l6@(nx (sm4@(k4 ua)<|i5 sm4.1 (λd3=>ret true) (λd3=>x5@(b7 .In d3 (.tup [(.str "out"),(.str "ask"),(.str "close"),(.str "look"),(.str "holds"),(.str "right"),(.str "down")]))<|ret x5) sm4.2 0 []))<|x7@(oW (.lst l6))<|z8@(j0 x7)<|if (!z8)=true then (ret (.bl false))else (x9@(E3 ua)<|x10@(J0 ua)<|x11@(b7 .Eq x9 x10)<|ret x11))):=()
def kW:Lc:=w6 Gq
theorem tE:runK Rs Γ C Gq [ua,ub]=k0 (evK Rs Γ C 40) kW Gq.body [ua,ub,none,none,none] endD:=()
theorem wL:Gq.body=[nth Gq.body 0,nth Gq.body 1,nth Gq.body 2]:=()
theorem Dm:XX C 40 kW Gq.body 0 [qa,ua,qb,qc,qd] κ=bind (aR (B2 [2,3]) ua [qa,ua,qb,qc,qd]) κ:=()
theorem Ek:XX C 40 kW Gq.body 1 [ua,qa,ub,uc,qb] κ=(l7@(nx (x2@(ixD ua (.int 2))<|x3@(J0 x2)<|x4@(C 15 [ub,x3])<|sm5@(k4 x4)<|i5 sm5.1 (λd1=>ret true) (λd1=>x6@(C 16 [uc,ua,d1])<|ret x6) sm5.2 0 []))<|κ (.nx [ua,qa,ub,uc,some (.lst l7)])):=()
theorem Dg:XX C 40 kW Gq.body 2 [qa,qb,ua,qc,ub] κ=(x1@(b7 .Eq ua (.str "some"))<|z2@(asB x1)<|if z2 then (x3@(uI ub)<|κ (.rt x3))else (x4@(oW ub)<|κ (.rt x4))):=()
theorem cq:runK Rs Γ C Dr [ua,ub]=(x1@(b7 .Eq ua (.str "plain"))<|z2@(asB x1)<|if z2 then (ret (.lst [(.tup [])]))else (x3@(b7 .Eq ua (.str "pairs"))<|z4@(asB x3)<|if z4 then (l11@(nx (sm7@(u7 [ub])<|V5 sm7.1 (λd5=>ret true) (λd5=>sm8@(u7 [ub])<|ret sm8) (λd5 d6=>x9@(b7 .NotEq d5 d6)<|z10@(asB x9)<|ret z10) (λd5 d6=>ret (.tup [d5,d6])) sm7.2 0 []))<|ret (.lst l11))else (l14@(nx (sm13@(u7 [ub])<|i5 sm13.1 (λd12=>ret true) (λd12=>ret (.tup [d12])) sm13.2 0 []))<|ret (.lst l14)))):=()
def A2:Lc:=w6 says_F
theorem sU:runK Rs Γ C says_F [ua,ub,uc]=k0 (evK Rs Γ C 40) A2 says_F.body [ua,ub,uc,none,none,none,none] endD:=()
theorem pr:says_F.body=[nth says_F.body 0,nth says_F.body 1,nth says_F.body 2,nth says_F.body 3,nth says_F.body 4,nth says_F.body 5,nth says_F.body 6,nth says_F.body 7,nth says_F.body 8]:=()
theorem Aw:XX C 40 A2 says_F.body 0 [qa,ua,qb,qc,qd,qe,qf] κ=bind (aR (B2 [3,4,5]) ua [qa,ua,qb,qc,qd,qe,qf]) κ:=()
theorem AH:XX C 40 A2 says_F.body 1 [ua,qa,qb,qc,qd,qe,qf] κ=(x1@(ixD ua (.int 0))<|κ (.nx [ua,qa,qb,qc,qd,qe,x1])):=()
theorem pi:XX C 40 A2 says_F.body 2 [ua,qa,ub,qb,qc,uc,ud] κ=(x1@(b7 .Eq ud (.str "at"))<|z2@(asB x1)<|if z2 then (x3@(ixD ua (.int 1))<|x4@(ixD ub x3)<|x5@(ixD uc x4)<|x6@(ixD ua (.int 2))<|x7@(b7 .In x5 x6)<|κ (.rt x7))else (κ (.nx [ua,qa,ub,qb,qc,uc,ud]))):=()
theorem pf:XX C 40 A2 says_F.body 3 [ua,qa,ub,uc,qb,qc,ud] κ=(x1@(b7 .Eq ud (.str "mark"))<|z2@(asB x1)<|if z2 then (x3@(ixD ua (.int 1))<|x4@(ixD ub x3)<|x5@(b7 .Eq uc x4)<|κ (.rt x5))else (κ (.nx [ua,qa,ub,uc,qb,qc,ud]))):=()
theorem pQ:XX C 40 A2 says_F.body 4 [qa,qb,qc,ua,qd,qe,ub] κ=(x1@(b7 .Eq ub (.str "free"))<|z2@(asB x1)<|if z2 then (x3@(b7 .Is ua .non)<|κ (.rt x3))else (κ (.nx [qa,qb,qc,ua,qd,qe,ub]))):=()
theorem qI:XX C 40 A2 says_F.body 5 [qa,qb,qc,qd,ua,qe,ub] κ=(x1@(b7 .Eq ub (.str "closed"))<|z2@(asB x1)<|if z2 then (κ (.rt ua))else (κ (.nx [qa,qb,qc,qd,ua,qe,ub]))):=()
theorem pM:XX C 40 A2 says_F.body 6 [ua,ub,uc,qa,qb,qc,ud] κ=(x1@(b7 .Eq ud (.str "not"))<|z2@(asB x1)<|if z2 then (x3@(ixD ua (.int 1))<|x4@(C 16 [x3,ub,uc])<|c5@(j0 x4)<|κ (.rt (.bl (!c5))))else (κ (.nx [ua,ub,uc,qa,qb,qc,ud]))):=()
theorem rc:XX C 40 A2 says_F.body 7 [ua,ub,uc,qa,qb,qc,ud] κ=(x1@(b7 .Eq ud (.str "both"))<|z2@(asB x1)<|if z2 then (x3@(ixD ua (.int 1))<|x4@(C 16 [x3,ub,uc])<|c5@(j0 x4)<|if c5 then (x6@(ixD ua (.int 2))<|x7@(C 16 [x6,ub,uc])<|κ (.rt x7))else (κ (.rt x4)))else (κ (.nx [ua,ub,uc,qa,qb,qc,ud]))):=()
theorem yw:XX C 40 A2 says_F.body 8 [ua,ub,uc,qa,qb,qc,qd] κ=(x1@(ixD ua (.int 1))<|x2@(C 16 [x1,ub,uc])<|c3@(j0 x2)<|if c3 then (κ (.rt x2))else (x4@(ixD ua (.int 2))<|x5@(C 16 [x4,ub,uc])<|κ (.rt x5))):=()
theorem kG:runK Rs Γ C xG [ua,ub]=(x1@(C 18 [ua,ub])<|ret (.bl true)):=()
def cm:Lc:=w6 Gi
theorem gQ:runK Rs Γ C Gi [ua,ub]=k0 (evK Rs Γ C 40) cm Gi.body [ua,ub,none,none,none,none] endD:=()
theorem iL:Gi.body=[nth Gi.body 0,nth Gi.body 1,nth Gi.body 2,nth Gi.body 3,nth Gi.body 4,nth Gi.body 5,nth Gi.body 6,nth Gi.body 7]:=()
theorem yM:XX C 40 cm Gi.body 0 [qa,ua,qb,qc,qd,qe] κ=(x1@(C 19 [ua])<|κ (.nx [qa,ua,qb,qc,qd,qe])):=()
theorem Cz:XX C 40 cm Gi.body 1 [ua,ub,qa,qb,qc,qd] κ=(x6@(nx (x3@(C 7 [ua])<|sm4@(k4 x3)<|bind mS λx2=>x@(dcM sm4.1 (λd1=>ret true) (λd1=>ret d1) (λd1=>x5@(C 20 [ub,d1])<|ret x5) x2 sm4.2 0)<|ret x2))<|κ (.nx [ua,ub,x6,qb,qc,qd])):=()
theorem CH:XX C 40 cm Gi.body 2 [ua,qa,ub,qb,qc,qd] κ=(x1@(C 4 [ua])<|x2@(M1 ub x1)<|κ (.nx [ua,qa,ub,x2,qc,qd])):=()
theorem CF:XX C 40 cm Gi.body 3 [qa,qb,qc,ua,qd,qe] κ=(x1@(b7 .IsNot ua .non)<|z2@(asB x1)<|if z2 then (x3@(F8 2 ["word","at"] [(.str "first"),ua])<|bind (v5 x3) (fin κ))else (κ (.nx [qa,qb,qc,ua,qd,qe]))):=()
theorem CT:XX C 40 cm Gi.body 4 [qa,qb,ua,qc,qd,qe] κ=(l6@(nx (sm2@(T8 ua)<|i5 sm2.1 (λd1=>x3@(M1 ua d1)<|x4@(b7 .Is x3 .non)<|z5@(asB x4)<|ret z5) (λd1=>ret d1) sm2.2 0 []))<|κ (.nx [qa,qb,ua,qc,some (.lst l6),qe])):=()
theorem Ee:XX C 40 cm Gi.body 5 [qa,qb,ua,qc,ub,qd] κ=(l14@(nx (sm1@(k4 ub)<|lvM sm1.1 (λd2=>ret true) (λd2=>λl3=>sm4@(x5@(C 21 [d2])<|sm6@(k4 x5)<|ret sm6)<|lvM sm4.1 (λd7=>x8@(M1 ua d7)<|x9@(b7 .IsNot x8 .non)<|z10@(asB x9)<|ret z10) (λd7=>λl11=>x12@(x13@(M1 ua d7)<|ret x13)<|if l11.length<sizeLine then ret (l11++[x12])else bad) sm4.2 0 l3) sm1.2 0 []))<|κ (.nx [qa,qb,ua,qc,ub,some (.lst l14)])):=()
theorem Du:XX C 40 cm Gi.body 6 [qa,qb,qc,qd,qe,ua] κ=(z1@(j0 ua)<|if z1 then (x2@(bg [ua])<|x3@(F8 2 ["word","at"] [(.str "step"),x2])<|bind (v5 x3) (fin κ))else (κ (.nx [qa,qb,qc,qd,qe,ua]))):=()
theorem Fc:XX C 40 cm Gi.body 7 [qa,qb,qc,qd,ua,qe] κ=κ (.rt ua):=()
def eX:Lc:=w6 Gs
theorem kL:runK Rs Γ C Gs [ua]=k0 (evK Rs Γ C 40) eX Gs.body [ua,none,none] endD:=()
theorem kD:Gs.body=[nth Gs.body 0,nth Gs.body 1]:=()
theorem nB:XX C 40 eX Gs.body 0 [ua,qa,qb] κ=(x1@(T0 "tuple" (λ_=>false) ua)<|z2@(j0 x1)<|if (!z2)=true then (x3@(F8 2 ["word","at"] [(.str "shape"),(.int 0)])<|bind (v5 x3) (fin κ))else (x4@(J0 ua)<|x5@(b7 .Gt x4 (.int 12))<|z6@(asB x5)<|if z6 then (x7@(F8 2 ["word","at"] [(.str "shape"),(.int 0)])<|bind (v5 x7) (fin κ))else (κ (.nx [ua,qa,qb])))):=()
def Y8:List Stmt:=y7 (nth Gs.body 1)
def Q7(C:Cf):L3.Env->M Fl:=λρ'=>k0 (evK Rs Γ C 39) eX Y8 ρ' ret
theorem xt:XX C 40 eX Gs.body 1 [ua,qa,qb] κ=(sm1@(bi ua)<|bind (u4 sm1.1 (B2 [1,2]) (Q7 C) sm1.2 0 [ua,qa,qb]) κ):=()
theorem K0:Y8=[nth Y8 0]:=()
theorem U0:XX C 39 eX Y8 0 [qa,ua,ub] κ=(x1@(C 9 [ub])<|z2@(j0 x1)<|if (!z2)=true then (x3@(F8 2 ["word","at"] [(.str "shape"),ua])<|bind (v5 x3) (fin κ))else (κ (.nx [qa,ua,ub]))):=()
def rE:Lc:=w6 Gu
theorem AA:runK Rs Γ C Gu [ua,ub]=k0 (evK Rs Γ C 40) rE Gu.body [ua,ub,none,none] endD:=()
theorem An:Gu.body=[nth Gu.body 0,nth Gu.body 1]:=()
def di:List Stmt:=y7 (nth Gu.body 0)
def jx(C:Cf):L3.Env->M Fl:=λρ'=>k0 (evK Rs Γ C 39) rE di ρ' ret
theorem GX:XX C 40 rE Gu.body 0 [ua,qa,qb,qc] κ=(sm1@(bi ua)<|bind (u4 sm1.1 (B2 [2,3]) (jx C) sm1.2 0 [ua,qa,qb,qc]) κ):=()
theorem Fq:XX C 40 rE Gu.body 1 [qa,qb,qc,qd] κ=κ (.rt .non):=()
theorem iN:di=[nth di 0]:=()
theorem qY:XX C 39 rE di 0 [qa,ua,ub,uc] κ=(x1@(C 14 [ua,uc])<|z2@(j0 x1)<|if (!z2)=true then (κ (.rt ub))else (κ (.nx [qa,ua,ub,uc]))):=()
theorem yx:runK Rs Γ C EN [ua]=(l5@(nx (x2@(C 6 [ua])<|sm3@(k4 x2)<|i5 sm3.1 (λd1=>ret true) (λd1=>x4@(C 5 [ua,d1])<|ret x4) sm3.2 0 []))<|ret (.lst l5)):=()
theorem vT:runK Rs Γ C xI [ua]=(x1@(slD ua none (some 63))<|x2@(hR [((.str "cells"),x1),((.str "at"),(.int 0)),((.str "left"),(.int 0)),((.str "turn"),(.int 0))])<|ret x2):=()
theorem vI(C:Cf)(p x:D):runK Rs Γ C qK [p,x]=jF p x:=()
theorem wh:runK Rs Γ C yH []=ret (.lst [(.str "out"),(.str "ask"),(.str "close"),(.str "look"),(.str "holds"),(.str "right"),(.str "down")]):=()
def K9:Lc:=w6 Gh
theorem wS:runK Rs Γ C Gh [ua,ub]=k0 (evK Rs Γ C 40) K9 Gh.body [ua,ub,none,none,none,none,none] endD:=()
theorem wO:Gh.body=[nth Gh.body 0,nth Gh.body 1,nth Gh.body 2,nth Gh.body 3,nth Gh.body 4,nth Gh.body 5,nth Gh.body 6]:=()
theorem Dd:XX C 40 K9 Gh.body 0 [ua,qa,qb,qc,qd,qe,qf] κ=bind (aR (B2 [2,3,4]) ua [ua,qa,qb,qc,qd,qe,qf]) κ:=()
theorem Cm:XX C 40 K9 Gh.body 1 [qa,ua,qb,qc,ub,qd,qe] κ=(x1@(ixD ub ua)<|κ (.nx [qa,ua,qb,qc,ub,x1,qe])):=()
theorem Ds:XX C 40 K9 Gh.body 2 [qa,qb,qc,ua,qd,ub,qe] κ=(z1@(j0 ua)<|if z1 then (x2@(hR [((.str "out"),(.str "ask")),((.str "ask"),(.str "right")),((.str "close"),(.str "look")),((.str "look"),(.str "down"))])<|x@(dctOf x2)<|x3@(getDD x2 [ub])<|κ (.nx [qa,qb,qc,ua,qd,ub,x3]))else (x4@(hR [((.str "out"),(.str "ask")),((.str "ask"),(.str "close")),((.str "close"),(.str "look")),((.str "look"),(.str "down"))])<|x@(dctOf x4)<|x5@(getDD x4 [ub])<|κ (.nx [qa,qb,qc,ua,qd,ub,x5]))):=()
theorem Bo:XX C 40 K9 Gh.body 3 [qa,ua,ub,qb,qc,uc,qd] κ=(x1@(b7 .Eq uc (.str "look"))<|z2@(asB x1)<|if z2 then (x3@(b7 .IsNot ub .non)<|z4@(asB x3)<|if z4 then (x5@(b7 .Eq ub ua)<|z6@(asB x5)<|if z6 then (κ (.nx [qa,ua,ub,qb,qc,uc,some (.str "holds")]))else (κ (.nx [qa,ua,ub,qb,qc,uc,qd])))else (κ (.nx [qa,ua,ub,qb,qc,uc,qd])))else (κ (.nx [qa,ua,ub,qb,qc,uc,qd]))):=()
theorem ji:XX C 40 K9 Gh.body 4 [qa,qb,qc,qd,qe,qf,ua] κ=(x1@(b7 .Is ua .non)<|z2@(asB x1)<|if z2 then (κ (.rt .non))else (κ (.nx [qa,qb,qc,qd,qe,qf,ua]))):=()
theorem DS:XX C 40 K9 Gh.body 5 [qa,ua,qb,qc,ub,qd,uc] κ=(n1@(U2 ua)<|x2@(slD ub none n1)<|x3@(n8 x2 (.tup [uc]))<|x4@(n8 ua (.int 1))<|n5@(U2 x4)<|x6@(slD ub n5 none)<|x7@(n8 x3 x6)<|κ (.nx [qa,ua,qb,qc,x7,qd,uc])):=()
theorem EX:XX C 40 K9 Gh.body 6 [qa,ua,ub,uc,ud,ue,qb] κ=(x1@(b7 .Eq ue (.str "out"))<|z2@(asB x1)<|if z2 then (c3@(j0 uc)<|if c3 then (κ (.rt (.tup [ua,uc,ud])))else (x4@(b7 .Eq ue (.str "close"))<|κ (.rt (.tup [ua,x4,ud]))))else (c5@(j0 uc)<|if c5 then (κ (.rt (.tup [ub,uc,ud])))else (x6@(b7 .Eq ue (.str "close"))<|κ (.rt (.tup [ub,x6,ud]))))):=()
def E9:Lc:=w6 Cl
theorem wb:runK Rs Γ C Cl [ua,ub,uc]=k0 (evK Rs Γ C 40) E9 Cl.body [ua,ub,uc,none,none,none] endD:=()
theorem vy:Cl.body=[nth Cl.body 0,nth Cl.body 1,nth Cl.body 2,nth Cl.body 3,nth Cl.body 4,nth Cl.body 5,nth Cl.body 6]:=()
theorem DP:XX C 40 E9 Cl.body 0 [ua,ub,qa,qb,qc,qd] κ=(x1@(b7 .Gt ub (.int 0))<|z2@(asB x1)<|if z2 then (x3@(C 23 [ua,(.int 9)])<|κ (.nx [ua,ub,qa,x3,qc,qd]))else (x4@(C 23 [ua,(.int 5)])<|κ (.nx [ua,ub,qa,x4,qc,qd]))):=()
theorem Ey:XX C 40 E9 Cl.body 1 [ua,qa,ub,uc,qb,qc] κ=(x1@(b7 .Lt uc (.int 5))<|z2@(asB x1)<|if z2 then (x3@(b7 .Eq ub (.int 0))<|z4@(asB x3)<|if z4 then (x5@(C 23 [ua,(.int 2)])<|x6@(ixD (.lst [(.tup [(.str "free")]),(.tup [(.str "closed")])]) x5)<|κ (.rt x6))else (x7@(b7 .Eq uc (.int 4))<|z8@(asB x7)<|if z8 then (x9@(C 23 [ua,(.int 2)])<|x10@(ixD (.lst [(.tup [(.str "free")]),(.tup [(.str "closed")])]) x9)<|κ (.rt x10))else (κ (.nx [ua,qa,ub,uc,qb,qc]))))else (κ (.nx [ua,qa,ub,uc,qb,qc]))):=()
theorem xM:XX C 40 E9 Cl.body 2 [ua,qa,ub,uc,qb,qc] κ=(x1@(b7 .Eq uc (.int 3))<|z2@(asB x1)<|if z2 then (x3@(C 23 [ua,ub])<|κ (.rt (.tup [(.str "mark"),x3])))else (κ (.nx [ua,qa,ub,uc,qb,qc]))):=()
theorem xE:XX C 40 E9 Cl.body 3 [ua,qa,ub,uc,qb,qc] κ=(x1@(b7 .Lt uc (.int 3))<|z2@(asB x1)<|if z2 then (l9@(nx (x4@(C 24 [])<|sm5@(k4 x4)<|i5 sm5.1 (λd3=>x6@(C 23 [ua,(.int 3)])<|x7@(b7 .Eq x6 (.int 0))<|z8@(asB x7)<|ret z8) (λd3=>ret d3) sm5.2 0 []))<|x10@(C 23 [ua,(.int 2)])<|x11@(b7 .Eq x10 (.int 0))<|z12@(asB x11)<|if z12 then (x13@(mL (.int 1))<|x14@(pq (.lst l9) x13)<|x15@(C 23 [ua,ub])<|x16@(O6 x14)<|κ (.rt (.tup [(.str "at"),x15,x16])))else (x17@(C 23 [ua,ub])<|x18@(O6 (.lst l9))<|κ (.rt (.tup [(.str "at"),x17,x18]))))else (κ (.nx [ua,qa,ub,uc,qb,qc]))):=()
theorem Ct:XX C 40 E9 Cl.body 4 [ua,ub,uc,qa,qb,qc] κ=(x1@(iI ub (.int 1))<|x2@(C 26 [ua,x1,uc])<|κ (.nx [ua,ub,uc,qa,qb,x2])):=()
theorem EM:XX C 40 E9 Cl.body 5 [qa,qb,qc,ua,qd,ub] κ=(x1@(b7 .Lt ua (.int 7))<|z2@(asB x1)<|if z2 then (κ (.rt (.tup [(.str "not"),ub])))else (κ (.nx [qa,qb,qc,ua,qd,ub]))):=()
theorem Dv:XX C 40 E9 Cl.body 6 [ua,ub,uc,ud,qa,ue] κ=(x1@(iI ud (.int 7))<|x2@(ixD (.lst [(.str "both"),(.str "either")]) x1)<|x3@(iI ub (.int 1))<|x4@(C 26 [ua,x3,uc])<|κ (.rt (.tup [x2,ue,x4]))):=()
theorem wu:runK Rs Γ C yA [ua,ub]=(x1@(C 23 [ua,(.int 4)])<|x2@(ixD (.lst [(.str "each"),(.str "some"),(.str "pairs"),(.str "plain")]) x1)<|x3@(ixD (.lst [(.int 1),(.int 1),(.int 2),(.int 0)]) x1)<|x4@(C 26 [ua,ub,x3])<|ret (.tup [x2,x4])):=()
theorem E2:runK Rs Γ C xX [ua,ub,uc]=(x1@(ixD ua (.int 0))<|x2@(b7 .Eq x1 (.str "at"))<|z3@(asB x2)<|if z3 then (x4@(ixD ub (.int 2))<|x5@(ixD ua (.int 1))<|x6@(ixD uc x5)<|x7@(ixD x4 x6)<|x8@(ixD ua (.int 2))<|x9@(b7 .In x7 x8)<|ret x9)else (x10@(b7 .In x1 (.tup [(.str "mark"),(.str "free")]))<|z11@(asB x10)<|if z11 then (x12@(b7 .Eq x1 (.str "free"))<|z13@(asB x12)<|if z13 then (x14@(ixD ub (.int 0))<|x15@(b7 .Is x14 .non)<|ret x15)else (x16@(ixD ub (.int 0))<|x17@(b7 .IsNot x16 .non)<|c18@(j0 x17)<|if c18 then (x19@(ixD ub (.int 0))<|x20@(ixD ua (.int 1))<|x21@(ixD uc x20)<|x22@(b7 .Eq x19 x21)<|ret x22)else (ret x17)))else (x23@(b7 .Eq x1 (.str "closed"))<|z24@(asB x23)<|if z24 then (x25@(ixD ub (.int 1))<|ret x25)else (l30@(nx (x27@(slD ua (some 1) none)<|sm28@(k4 x27)<|i5 sm28.1 (λd26=>ret true) (λd26=>x29@(C 28 [d26,ub,uc])<|ret x29) sm28.2 0 []))<|x31@(b7 .Eq x1 (.str "not"))<|z32@(asB x31)<|if z32 then (x33@(ixD (.lst l30) (.int 0))<|c34@(j0 x33)<|ret (.bl (!c34)))else (x35@(b7 .Eq x1 (.str "both"))<|z36@(asB x35)<|if z36 then (x37@(b7 .NotIn (.bl false) (.lst l30))<|ret x37)else (x38@(b7 .In (.bl true) (.lst l30))<|ret x38)))))):=()
def W3:Lc:=w6 soL_F
theorem tm:runK Rs Γ C soL_F [ua,ub]=k0 (evK Rs Γ C 40) W3 soL_F.body [ua,ub,none,none,none] endD:=()
theorem wU:soL_F.body=[nth soL_F.body 0,nth soL_F.body 1,nth soL_F.body 2,nth soL_F.body 3,nth soL_F.body 4,nth soL_F.body 5]:=()
theorem CY:XX C 40 W3 soL_F.body 0 [ua,qa,qb,qc,qd] κ=(x1@(ixD ua (.int 2))<|x2@(J0 x1)<|κ (.nx [ua,qa,x2,qc,qd])):=()
theorem DZ:XX C 40 W3 soL_F.body 1 [qa,qb,ua,qc,qd] κ=(l3@(nx (sm2@(u7 [ua])<|i5 sm2.1 (λd1=>ret true) (λd1=>ret (.tup [d1])) sm2.2 0 []))<|κ (.nx [qa,qb,ua,some (.lst l3),qd])):=()
theorem FG:XX C 40 W3 soL_F.body 2 [qa,ua,qb,qc,qd] κ=(x1@(ixD ua (.int 0))<|x2@(b7 .Eq x1 (.str "plain"))<|z3@(asB x2)<|if z3 then (κ (.nx [qa,ua,qb,some (.lst [(.tup [])]),qd]))else (κ (.nx [qa,ua,qb,qc,qd]))):=()
theorem jD:XX C 40 W3 soL_F.body 3 [qa,ua,ub,qb,qc] κ=(x1@(ixD ua (.int 0))<|x2@(b7 .Eq x1 (.str "pairs"))<|z3@(asB x2)<|if z3 then (l13@(nx (x5@(L0 ub ub)<|sm6@(u7 [x5])<|i5 sm6.1 (λd4=>x7@(E7 d4 ub)<|x8@(O5 d4 ub)<|x9@(b7 .NotEq x7 x8)<|z10@(asB x9)<|ret z10) (λd4=>x11@(E7 d4 ub)<|x12@(O5 d4 ub)<|ret (.tup [x11,x12])) sm6.2 0 []))<|κ (.nx [qa,ua,ub,some (.lst l13),qc]))else (κ (.nx [qa,ua,ub,qb,qc]))):=()
theorem Cg:XX C 40 W3 soL_F.body 4 [ua,ub,qa,uc,qb] κ=(l5@(nx (sm2@(k4 uc)<|i5 sm2.1 (λd1=>ret true) (λd1=>x3@(ixD ub (.int 1))<|x4@(C 28 [x3,ua,d1])<|ret x4) sm2.2 0 []))<|κ (.nx [ua,ub,qa,uc,some (.lst l5)])):=()
theorem FJ:XX C 40 W3 soL_F.body 5 [qa,ua,qb,qc,ub] κ=(x1@(ixD ua (.int 0))<|x2@(b7 .Eq x1 (.str "some"))<|z3@(asB x2)<|if z3 then (x4@(b7 .In (.bl true) ub)<|κ (.rt x4))else (x5@(b7 .NotIn (.bl false) ub)<|κ (.rt x5))):=()
def eF:Lc:=w6 Gr
theorem tB:runK Rs Γ C Gr [ua,ub]=k0 (evK Rs Γ C 40) eF Gr.body [ua,ub,none] endD:=()
theorem ve:Gr.body=[nth Gr.body 0,nth Gr.body 1]:=()
def Z4:List Stmt:=y7 (nth Gr.body 0)
def gN(C:Cf):L3.Env->M Fl:=λρ'=>k0 (evK Rs Γ C 39) eF Z4 ρ' ret
theorem DH:XX C 40 eF Gr.body 0 [qa,ua,qb] κ=(sm1@(k4 ua)<|bind (u4 sm1.1 (λd ρ=>some (ρ.set 2 (some d))) (gN C) sm1.2 0 [qa,ua,qb]) κ):=()
theorem Bj:XX C 40 eF Gr.body 1 [qa,qb,qc] κ=κ (.rt (.bl true)):=()
theorem dn:Z4=[nth Z4 0]:=()
theorem lS:XX C 39 eF Z4 0 [ua,qa,ub] κ=(x1@(C 29 [ua,ub])<|z2@(j0 x1)<|if (!z2)=true then (κ (.rt (.bl false)))else (κ (.nx [ua,qa,ub]))):=()
theorem zG:runK Rs Γ C EY []=(x1@(newL [(.tup [(.str "each"),(.tup [(.str "either"),(.tup [(.str "not"),(.tup [(.str "at"),(.int 0),(.tup [(.str "look"),(.str "holds"),(.str "right"),(.str "down")])])]),(.tup [(.str "closed")])])])])<|x@(lstOf x1)<|x2@(P7 x1 [(.tup [(.str "some"),(.tup [(.str "either"),(.tup [(.str "not"),(.tup [(.str "closed")])]),(.tup [(.str "at"),(.int 0),(.tup [(.str "look"),(.str "holds"),(.str "down")])])])])])<|x@(lstOf x1)<|x3@(P7 x1 [(.tup [(.str "each"),(.tup [(.str "either"),(.tup [(.str "at"),(.int 0),(.tup [(.str "out")])]),(.tup [(.str "not"),(.tup [(.str "free")])])])])])<|x@(lstOf x1)<|x4@(P7 x1 [(.tup [(.str "each"),(.tup [(.str "either"),(.tup [(.str "not"),(.tup [(.str "mark"),(.int 0)])]),(.tup [(.str "not"),(.tup [(.str "at"),(.int 0),(.tup [(.str "out"),(.str "down")])])])])])])<|x@(lstOf x1)<|x5@(P7 x1 [(.tup [(.str "pairs"),(.tup [(.str "either"),(.tup [(.str "not"),(.tup [(.str "at"),(.int 0),(.tup [(.str "holds")])])]),(.tup [(.str "not"),(.tup [(.str "both"),(.tup [(.str "mark"),(.int 1)]),(.tup [(.str "at"),(.int 1),(.tup [(.str "close"),(.str "look")])])])])])])])<|x@(lstOf x1)<|x6@(P7 x1 [(.tup [(.str "pairs"),(.tup [(.str "not"),(.tup [(.str "both"),(.tup [(.str "at"),(.int 0),(.tup [(.str "holds")])]),(.tup [(.str "at"),(.int 1),(.tup [(.str "holds")])])])])])])<|ret x1):=()
def bj:Lc:=w6 Gv
theorem im:runK Rs Γ C Gv [ua,ub]=k0 (evK Rs Γ C 40) bj Gv.body [ua,ub] endD:=()
theorem kA:Gv.body=[nth Gv.body 0]:=()
def qD(C:Cf):L3.Env->M Fl:=bX (eBK (evK Rs Γ C 39) Γ C bj) bj (nth (sn (nth Gv.body 0)) 0)
theorem aE:qD C [ua,ub]=(x1@(C 17 [ua,ub])<|ret (.rt x1)):=()
def Z0:List Stmt:=uS (nth Gv.body 0)
def qC(C:Cf):L3.Env->M Fl:=λρ'=>k0 (evK Rs Γ C 39) (N4 bj) Z0 ρ' ret
theorem xV:XX C 40 bj Gv.body 0 [qa,qb] κ=bind (ap (qD C) (λc=>Γ.sub c 2) none (qC C) [qa,qb]) κ:=()
theorem eC:Z0=[nth Z0 0]:=()
theorem lE:(evK Rs Γ C 39).s (N4 bj) (nth Z0 0) [qa,qb] κ=κ (.rt (.bl false)):=()
def W9:Lc:=w6 Go
theorem vW:runK Rs Γ C Go [ua]=k0 (evK Rs Γ C 40) W9 Go.body [ua,none,none,none] endD:=()
theorem uV:Go.body=[nth Go.body 0,nth Go.body 1,nth Go.body 2,nth Go.body 3]:=()
theorem DK:XX C 40 W9 Go.body 0 [qa,qb,qc,qd] κ=(x1@(C 31 [])<|x2@(O6 x1)<|κ (.nx [qa,x2,qc,qd])):=()
theorem Ej:XX C 40 W9 Go.body 1 [ua,ub,qa,qb] κ=(l6@(nx (sm2@(k4 ub)<|i5 sm2.1 (λd1=>x3@(C 23 [ua,(.int 3)])<|x4@(b7 .Gt x3 (.int 0))<|z5@(asB x4)<|ret z5) (λd1=>ret d1) sm2.2 0 []))<|x7@(O6 (.lst l6))<|x8@(newL [ub,x7])<|κ (.nx [ua,ub,x8,qb])):=()
def L7:List Stmt:=y7 (nth Go.body 2)
def gM(C:Cf):L3.Env->M Fl:=λρ'=>k0 (evK Rs Γ C 39) W9 L7 ρ' ret
theorem Cn:XX C 40 W9 Go.body 2 [qa,qb,qc,qd] κ=(sm1@(u7 [(.int 2)])<|bind (u4 sm1.1 (λd ρ=>some (ρ.set 3 (some d))) (gM C) sm1.2 0 [qa,qb,qc,qd]) κ):=()
theorem Co:XX C 40 W9 Go.body 3 [qa,qb,ua,qc] κ=κ (.rt ua):=()
theorem gA:L7=[nth L7 0,nth L7 1]:=()
theorem kn:XX C 39 W9 L7 0 [ua,qa,ub,qb] κ=(x@(lstOf ub)<|x1@(C 23 [ua,(.int 2)])<|x2@(n8 (.int 1) x1)<|x3@(C 27 [ua,x2])<|x4@(P7 ub [(.tup [x3])])<|κ (.nx [ua,qa,ub,qb])):=()
theorem mD:XX C 39 W9 L7 1 [ua,qa,ub,qb] κ=(x@(lstOf ub)<|x1@(C 23 [ua,(.int 2)])<|x2@(ixD ub x1)<|x3@(mL (.int 1))<|x4@(ixD ub x3)<|x5@(n8 x2 x4)<|x6@(P7 ub [x5])<|κ (.nx [ua,qa,ub,qb])):=()
def M9:Lc:=w6 Gn
theorem uP:runK Rs Γ C Gn [ua,ub,uc]=k0 (evK Rs Γ C 40) M9 Gn.body [ua,ub,uc,none,none,none,none,none] endD:=()
theorem wy:Gn.body=[nth Gn.body 0,nth Gn.body 1,nth Gn.body 2,nth Gn.body 3]:=()
theorem CN:XX C 40 M9 Gn.body 0 [qa,ua,qb,qc,qd,qe,qf,qg] κ=(x1@(L0 (.tup [(.str "out")]) ua)<|κ (.nx [qa,ua,qb,some (.tup [.non,(.bl false),x1]),qd,qe,qf,qg])):=()
theorem Bu:XX C 40 M9 Gn.body 1 [ua,ub,qa,qb,qc,qd,qe,qf] κ=(l6@(nx (sm2@(u7 [ub])<|i5 sm2.1 (λd1=>x3@(C 23 [ua,(.int 4)])<|x4@(b7 .Eq x3 (.int 0))<|z5@(asB x4)<|ret z5) (λd1=>ret d1) sm2.2 0 []))<|κ (.nx [ua,ub,qa,qb,qc,some (.lst l6),qe,qf])):=()
def A7:List Stmt:=y7 (nth Gn.body 2)
def eL(C:Cf):L3.Env->M Fl:=λρ'=>k0 (evK Rs Γ C 39) M9 A7 ρ' ret
theorem Dl:XX C 40 M9 Gn.body 2 [qa,ua,qb,qc,qd,qe,qf,qg] κ=(x1@(L0 (.int 6) ua)<|sm2@(u7 [x1])<|bind (u4 sm2.1 (λd ρ=>some (ρ.set 6 (some d))) (eL C) sm2.2 0 [qa,ua,qb,qc,qd,qe,qf,qg]) κ):=()
theorem FA:XX C 40 M9 Gn.body 3 [qa,qb,ua,ub,qc,qd,qe,qf] κ=(x1@(C 30 [ub,ua])<|κ (.rt x1)):=()
theorem fL:A7=[nth A7 0,nth A7 1,nth A7 2]:=()
theorem mJ:XX C 39 M9 A7 0 [qa,qb,ua,ub,qc,qd,qe,qf] κ=(x1@(C 30 [ub,ua])<|z2@(j0 x1)<|if (!z2)=true then (κ (.rt (.bl false)))else (κ (.nx [qa,qb,ua,ub,qc,qd,qe,qf]))):=()
theorem lN:XX C 39 M9 A7 1 [ua,ub,qa,qb,qc,qd,qe,qf] κ=(x1@(C 23 [ua,ub])<|κ (.nx [ua,ub,qa,qb,x1,qd,qe,qf])):=()
theorem kw:XX C 39 M9 A7 2 [qa,qb,qc,ua,ub,uc,ud,qd] κ=(x1@(b7 .NotIn ub uc)<|z2@(asB x1)<|if z2 then (x3@(C 25 [ua,ub])<|x4@(b7 .Is x3 .non)<|z5@(asB x4)<|if z5 then (κ (.nx [qa,qb,qc,ua,ub,uc,ud,x3]))else (κ (.nx [qa,qb,qc,x3,ub,uc,ud,x3])))else (x6@(b7 .Lt ud (.int 3))<|z7@(asB x6)<|if z7 then (x8@(C 25 [ua,ub])<|x9@(b7 .Is x8 .non)<|z10@(asB x9)<|if z10 then (κ (.nx [qa,qb,qc,ua,ub,uc,ud,x8]))else (κ (.nx [qa,qb,qc,x8,ub,uc,ud,x8])))else (κ (.nx [qa,qb,qc,ua,ub,uc,ud,qd])))):=()
def D2:Lc:=w6 law_F
theorem wX:runK Rs Γ C law_F [ua]=k0 (evK Rs Γ C 40) D2 law_F.body [ua,none,none,none,none,none] endD:=()
theorem vU:law_F.body=[nth law_F.body 0,nth law_F.body 1,nth law_F.body 2,nth law_F.body 3,nth law_F.body 4,nth law_F.body 5]:=()
theorem Ck:XX C 40 D2 law_F.body 0 [ua,qa,qb,qc,qd,qe] κ=(x1@(C 22 [ua])<|κ (.nx [ua,x1,qb,qc,qd,qe])):=()
theorem CU:XX C 40 D2 law_F.body 1 [qa,ua,qb,qc,qd,qe] κ=(x1@(C 23 [ua,(.int 4)])<|x2@(ixD (.lst [(.int 2),(.int 2),(.int 2),(.int 1)]) x1)<|κ (.nx [qa,ua,x2,qc,qd,qe])):=()
theorem Dk:XX C 40 D2 law_F.body 2 [qa,ua,qb,qc,qd,qe] κ=(x1@(C 33 [ua])<|κ (.nx [qa,ua,qb,x1,qd,qe])):=()
theorem Dc:XX C 40 D2 law_F.body 3 [qa,ua,qb,ub,qc,qd] κ=(x1@(C 23 [ua,(.int 16)])<|x2@(b7 .Eq x1 (.int 0))<|z3@(asB x2)<|if z3 then (x4@(ixD ub (.int 0))<|x5@(slD x4 none (some 3))<|κ (.nx [qa,ua,some (.int 3),some (.lst [x5]),qc,qd]))else (κ (.nx [qa,ua,qb,ub,qc,qd]))):=()
def P1:List Stmt:=y7 (nth law_F.body 4)
def aO(C:Cf):L3.Env->M Fl:=λρ'=>k0 (evK Rs Γ C 39) D2 P1 ρ' ret
theorem xy:XX C 40 D2 law_F.body 4 [qa,qb,qc,ua,qd,qe] κ=(sm1@(k4 ua)<|bind (u4 sm1.1 (λd ρ=>some (ρ.set 4 (some d))) (aO C) sm1.2 0 [qa,qb,qc,ua,qd,qe]) κ):=()
theorem xJ:XX C 40 D2 law_F.body 5 [qa,qb,qc,qd,qe,qf] κ=κ (.rt (.bl true)):=()
theorem fz:P1=[nth P1 0]:=()
def v9:List Stmt:=zu (nth P1 0)
theorem lF:XX C 39 D2 P1 0 [qa,qb,ua,qc,ub,qd] κ=(x1@(C 32 [ua,ub])<|z2@(j0 x1)<|if z2 then (k0 (evK Rs Γ C 38) D2 v9 [qa,qb,ua,qc,ub,qd] κ)else (κ (.nx [qa,qb,ua,qc,ub,qd]))):=()
theorem Y0:v9=[nth v9 0]:=()
def q4:List Stmt:=y7 (nth v9 0)
def C5(C:Cf):L3.Env->M Fl:=λρ'=>k0 (evK Rs Γ C 37) D2 q4 ρ' ret
theorem bU:XX C 38 D2 v9 0 [qa,qb,qc,qd,qe,qf] κ=(sm1@(u7 [(.int 4)])<|bind (u4 sm1.1 (λd ρ=>some (ρ.set 5 (some d))) (C5 C) sm1.2 0 [qa,qb,qc,qd,qe,qf]) κ):=()
theorem M3:q4=[nth q4 0]:=()
theorem Q6:XX C 37 D2 q4 0 [qa,ua,ub,qb,uc,qc] κ=(x1@(C 34 [ua,ub,uc])<|z2@(j0 x1)<|if (!z2)=true then (κ (.rt (.bl false)))else (κ (.nx [qa,ua,ub,qb,uc,qc]))):=()
end
end L3.K08
namespace L3
open PySem PySem.Spec PyProof.Rows L2
theorem pg{p N m:Nat}{S:Sto}(h:Fw ns p (N+1) S)(hm:0<m)(hm2:m<1073741824):Ok (jF (.ref p) (.int (m:Int))) S λd S'=>∃r:Nat,d=.int (r:Int)/\r<m/\Fw ns p N S'/\S'.length=S.length/\∀q,q≠p->S'[q]?=S[q]?:=by
 obtain⟨a,l,t,e,h1,h2,h3,h4⟩:=h;obtain⟨r,a',l',e1,r0,r1,ha,hl⟩:=qX (m:=(m:Int)) e h1 h2 h3 (by omega) (by omega) (by omega);obtain⟨r,rfl⟩:=Lp r0;refine⟨_,_,e1,r,rfl,by omega,⟨a',l',t+1,?_,ha,hl,by omega,by omega⟩,by simp,λq hq=>?_⟩
 ·rw[HV (Hb.mp e).1]
 ·rw[HP (Ne.symm hq)]
end L3
namespace L3.K08
open PySem PySem.Spec PyProof.Rows L2
theorem se{ns:List Int}{p N m:Nat}{S:Sto}(h:Fw ns p (N+1) S)(hm:0<m)(hm2:m<1073741824)(k:Nat):Ok (rn (k+1) U4 [.ref p,.int (m:Int)]) S λd S'=>∃r:Nat,d=.int (r:Int)/\r<m/\Fw ns p N S'/\S'.length=S.length/\∀q,q≠p->S'[q]?=S[q]?:=by
 rw[rn,b8 (fd:=qK) rfl,vI];exact pg h hm hm2
def Kp(p:Nat)(S S':Sto):Prop:=S'.length=S.length/\∀q,q≠p->S'[q]?=S[q]?
theorem Kp.tr{p:Nat}{S T U:Sto}(a:Kp p S T)(b:Kp p T U):Kp p S U:=⟨b.1.trans a.1,λq h=>(b.2 q h).trans (a.2 q h)⟩
def wds:List Str:=["out","ask","close","look","holds","right","down"]
def iC(w:Str):Option Nat:=if w = "at" then some 3 else if w = "mark" then some 2 else if w = "free" then some 1 else if w = "closed" then some 1 else if w = "not" then some 2 else if w = "both" then some 3 else if w = "either" then some 3 else none
def one(hs:List Int):D->Bool
 | .int i=>decide (i∈hs)
 | _=>false
def wOk:D->Bool
 | .tup ds=>(match u0 ds with
  | some ws=>ws.all (λw=>decide (w∈wds))&&decide ws.Nodup
  | none=>false)
 | _=>false
def A9(hs:List Int):D->Bool
 | .tup (.str w::ds)=>decide (iC w=some (ds.length+1))&&(if w = "at" then one hs (ds.getD 0 .non)&&wOk (ds.getD 1 .non)else if w = "mark" then one hs (ds.getD 0 .non)else true)
 | _=>false
def U8:D->List D
 | .tup (.str w::ds)=>if w = "not"\/w = "both"\/w = "either" then ds else []
 | _=>[]
def F5:Option Nat->Option Nat->Option Nat
 | some x,some y=>some (x+y)
 | _,_=>none
def ln(g:D->Option Nat):List D->Option Nat
 | []=>some 0
 | d::ds=>F5 (g d) (ln g ds)
def sN(hs:List Int):Nat->D->Option Nat
 | 0,_=>none
 | f+1,d=>if A9 hs d=true then F5 (some 1) (ln (sN hs f) (U8 d))else none
theorem hF(a b c:Option Nat):F5 (F5 a b) c=F5 a (F5 b c):=by
 cases a <;> cases b <;> cases c <;> simp only[F5,Nat.add_assoc]
theorem U6(a:Option Nat):F5 a (some 0)=a:=by cases a <;> rfl
theorem mO(a:Option Nat):F5 (some 0) a=a:=by cases a <;> simp[F5]
def few(m:Nat):Option Nat->Bool
 | some t=>decide (m+t<=20)
 | none=>false
def wT(hs:List Int)(p:D×Nat):Option Nat:=sN hs (9-p.2) p.1
def B8(hs:List Int):List (D×Nat)->Option Nat
 | []=>some 0
 | p::ps=>F5 (wT hs p) (B8 hs ps)
theorem R8(hs:List Int):∀(a b:List (D×Nat)),B8 hs (a++b)=F5 (B8 hs a) (B8 hs b)
 | [],b=>(mO _).symm
 | p::a,b=>by
  show F5 _ (B8 hs (a++b))=F5 (F5 _ _) _;rw[R8 hs a b,hF]
theorem gJ(hs:List Int)(l:Nat):∀ds:List D,B8 hs (ds.map λd=>(d,l))=ln (sN hs (9-l)) ds
 | []=>rfl
 | d::ds=>by
  show F5 _ (B8 hs (ds.map λd=>(d,l)))=F5 _ _;rw[gJ hs l ds];rfl
theorem iG{d:D}{l:Nat}(b:A9 hs d=false\/8<l\/20<m+1):few m (B8 hs (ps++[(d,l)]))=false:=by
 rw[R8];have a:B8 hs [(d,l)]=sN hs (9-l) d:=U6 _;rw[a];rcases b with h | h | h
 ·cases e:9-l with
  | zero=>cases B8 hs ps <;> rfl
  | succ f=>
   rw[sN,h,if_neg He];cases B8 hs ps <;> rfl
 ·rw[show 9-l=0 by omega];cases B8 hs ps <;> rfl
 ·cases e:9-l with
  | zero=>cases B8 hs ps <;> rfl
  | succ f=>
   rw[sN];split
   ·cases B8 hs ps with
    | none=>rfl
    | some x=>
     cases ln (sN hs f) (U8 d) with
     | none=>rfl
     | some y=>exact Hs (by omega)
   ·cases B8 hs ps <;> rfl
theorem vR{d:D}{l:Nat}(a:A9 hs d=true)(g:l<=8):few m (B8 hs (ps++[(d,l)]))=few (m+1) (B8 hs (ps++(U8 d).map λe=>(e,l+1))):=by
 rw[R8,R8,gJ];have b:B8 hs [(d,l)]=sN hs (9-l) d:=U6 _;rw[b];obtain⟨f,c⟩:∃f,9-l=f+1:=⟨8-l,by omega⟩;rw[c,show 9-(l+1)=f by omega,sN,if_pos a];cases B8 hs ps with
 | none=>rfl
 | some x=>
  cases ln (sN hs f) (U8 d) with
  | none=>rfl
  | some y=>
   show decide (m+(x+(1+y))<=20)=decide (m+1+(x+y)<=20);congr 1;exact propext ⟨λ_=>by omega,λ_=>by omega⟩
theorem oY(h:Pln j d)(k:Nat)(S:Sto):rn (k+1) zb [d] S=.ok (.bl (match d with
  | .int _=>true
  | _=>false)) S:=by
 rw[rn,b8 rfl,vj];cases d with
 | bl b=>cases b <;> rfl
 | scr _=>exact h.elim
 | ref _=>exact h.elim
 | _=>rfl
theorem qF(h:Pln j d)(hs:List Int)(k:Nat)(S:Sto):rn (k+2) zC [d,.tup (hs.map D.int)] S=.ok (.bl (one hs d)) S:=by
 refine i4 ?_;rw[rn,b8 rfl,uX];refine Ok.eq (oY h k S) ?_;cases d with
 | int i=>exact Ok.eq rfl<|Ok.pos rfl<|Ok.eq (vS i hs S)<|Ok.ret ⟨rfl,rfl⟩
 | _=>exact Ok.eq (a:=false) rfl<|Ok.neg (by decide)<|Ok.ret ⟨rfl,rfl⟩
theorem ak:∀{ds:List D}{ws:List Str},u0 ds=some ws->ds=ws.map D.str
 | [],ws,e=>by cases e;rfl
 | d::ds,ws,e=>by
  cases d with
  | str x=>
   simp only[u0]at e;obtain⟨vs,e1,e2⟩:=Iv.mp e;rw[<- e2,ak e1];rfl
  | _=>simp only[u0]at e;cases e
theorem cu:∀ws:List Str,u0 (ws.map D.str)=some ws
 | []=>rfl
 | w::ws=>by simp only[Ht,u0,cu ws];rfl
theorem nQ(ws:List Str):(ws.map D.str).all (inW wds)=ws.all λw=>decide (w∈wds):=by
 rw[KH];rfl
theorem Gf(h:ds.all (inW wds)=false):wOk (.tup ds)=false:=by
 simp only[wOk];cases e:u0 ds with
 | none=>rfl
 | some ws=>
  rw[ak e,nQ]at h;simp only[h,LK]
theorem eV{f:Nat->Str}:∀i,(HT.metKHt f i).length=i↔∀a b,a<b->b<i->f a≠f b
 | 0=>⟨λ_ a b _ h=>by omega,λ_=>rfl⟩
 | i+1=>by
  have ih:=eV (f:=f) i;have le:=HT.metK_le f i;rw[HT.metK_s];by_cases m:f i∈HT.metKHt f i
  ·rw[if_pos m];refine⟨λe=>by omega,λh=>?_⟩;obtain⟨a,ha,e⟩:=(HT.metK_mem f (f i) i).mp m;exact absurd e (h a i ha (by omega))
  ·rw[if_neg m,Hu,Ia];constructor
   ·intro e a b hab hb;by_cases q:b=i
    ·subst q;exact λz=>m ((HT.metK_mem f (f b) b).mpr ⟨a,hab,z⟩)
    ·exact ih.mp (by omega) a b hab (by omega)
   ·intro h;rw[ih.mpr λa b x y=>h a b x (by omega)]
theorem nj(ws:List Str):(aD ws).length=ws.length↔ws.Nodup:=by
 unfold aD List.Nodup;rw[eV,List.pairwise_iff_getElem];have g:∀i (h:i<ws.length),ws.getD i "" = ws[i]:=λi h=>by simp[List.getD,h]
 constructor
 ·intro h a b ha hb hab;have:=h a b hab hb;rw[g a ha,g b hb]at this;exact this
 ·intro h a b hab hb;rw[g a (by omega),g b hb];exact h a b (by omega) hb hab
theorem R0(b:Bool)(S:Sto):j0 (.bl b) S=.ok b S:=rfl
theorem DC:∀w∈wds,Asc w:=by unfold Asc;decide +kernel
theorem FF:∀w∈wds,3<=w.length:=by decide +kernel
theorem szw:∀{ws:List Str},(∀w∈ws,w∈wds)->34 * ws.length<=szs (ws.map D.str)
 | [],_=>Hd _
 | w::ws,h=>by
  have a:=FF w (h w (Hf ..));have b:=szw λv c=>h v (Hh _ c);show 34 * (ws.length+1)<=10 * w.length+2+2+szs (ws.map D.str);omega
theorem rS(h:Any j N d)(hj:j<=40)(hN:N<=100000)(k:Nat)(S:Sto):rn (k+1) zD [d] S=.ok (.bl (wOk d)) S:=by
 refine i4 ?_;rw[rn,b8 rfl,wK];cases d with
 | tup ds=>
  have len:=h.len;refine Ok.eq rfl<|Ok.eq rfl<|Ok.neg (by decide)<|nx_bind<|Ok.eq (cj ds S)<|Ok.of (tW (p:=inW wds) (by rw[HB];omega) λe he=>?_) ?_
  ·exact a8 (iM (h.at he) hj DC S)
  ·refine Ok.eq (all_ok _ S)<|Ok.eq (by rw[all_map];rfl) ?_;cases q:ds.all (inW wds) with
   | false=>exact Ok.pos rfl<|Ok.ret ⟨by rw[Gf q],rfl⟩
   | true=>
    obtain⟨ws,rfl,hw⟩:=pR (λd hd=>by
     obtain⟨w,e,m⟩:=BN hd;exact⟨w,e.symm,m⟩) q
    have lw:ws.length<4000:=by
     have a:=szw hw;have b:szs (ws.map D.str)+3<=N:=h.sz;omega
    have e1:E3 (.tup (ws.map D.str)) S=.ok (.int ((aD ws).length:Nat)) S:=by
     unfold E3;dsimp only;rw[cu];show(if ws.length<4000 then ret _ else bad) S=_;rw[if_pos lw];rfl
    refine Ok.neg (by decide)<|Ok.eq e1<|Ok.eq (A8 _ S)<|Ok.eq (C7 _ _ S)<|Ok.ret ⟨?_,rfl⟩;rw[nQ]at q;simp only[wOk,cu,q,Bool.true_and,Hc];congr 1;rw[decide_eq_decide,Int.ofNat_inj];exact nj ws
 | scr _=>exact h.pl.elim
 | ref _=>exact h.pl.elim
 | _=>exact Ok.eq rfl<|Ok.eq rfl<|Ok.pos rfl<|Ok.ret ⟨rfl,rfl⟩
def jn(w:Str):D:=match iC w with
 | some n=>.int (n:Int)
 | none=>.non
theorem jS{P:Str->Prop}(h1:P "at") (h2:P "mark") (h3:P "free") (h4:P "closed") (h5:P "not") (h6:P "both") (h7:P "either") (h:∀w:Str,w ≠ "at"->w ≠ "mark"->w ≠ "free"->w ≠ "closed"->w ≠ "not"->w ≠ "both"->w ≠ "either"->P w) (w:Str):P w:=by
 by_cases e1:w = "at"
 ·rw[e1];exact h1
 by_cases e2:w = "mark"
 ·rw[e2];exact h2
 by_cases e3:w = "free"
 ·rw[e3];exact h3
 by_cases e4:w = "closed"
 ·rw[e4];exact h4
 by_cases e5:w = "not"
 ·rw[e5];exact h5
 by_cases e6:w = "both"
 ·rw[e6];exact h6
 by_cases e7:w = "either"
 ·rw[e7];exact h7
 exact h w e1 e2 e3 e4 e5 e6 e7
theorem qM(w:Str)(S:Sto):X1 [("at",(.int 3)),("mark",(.int 2)),("free",(.int 1)),("closed",(.int 1)),("not",(.int 2)),("both",(.int 3)),("either",(.int 3))] (.str w) S=.ok (jn w) S:=by
 refine jS (P:=λw=>X1 _ (.str w) S=.ok (jn w) S) ?_ ?_ ?_ ?_ ?_ ?_ ?_ ?_ w
 ·kernel_rfl
 ·kernel_rfl
 ·kernel_rfl
 ·kernel_rfl
 ·kernel_rfl
 ·kernel_rfl
 ·kernel_rfl
 ·intro w d f h i c b g;have a:∀v:Str,w≠v->(w==v)=false:=λv e=>Im.mpr e;simp only[X1,jn,iC,List.lookup,a _ d,a _ f,a _ h,a _ i,a _ c,a _ b,a _ g,if_neg d,if_neg f,if_neg h,if_neg i,if_neg c,if_neg b,if_neg g];rfl
theorem Cq(w v:Str)(S:Sto):b7 .Eq (.str w) (.str v) S=.ok (.bl (decide (w=v))) S/\b7 .NotEq (.str w) (.str v) S=.ok (.bl (!decide (w=v))) S:=⟨rfl,rfl⟩
theorem pY(h:Any j N d)(hj:j<=40)(hN:N<=100000)(hs:List Int)(k:Nat)(S:Sto):rn (k+3) zx [d,.tup (hs.map D.int)] S=.ok (.bl (A9 hs d)) S:=by
 refine i4 ?_;rw[rn,b8 rfl,wm];cases d with
 | tup ds=>
  refine Ok.eq rfl<|Ok.eq rfl<|Ok.neg (by decide)<|Ok.eq (A8 ds S)<|Ok.eq (C7 _ _ S)<|Ok.eq (i8 _ S) ?_;rcases ds with _ | ⟨x,ds⟩
  ·exact Ok.pos (by decide)<|Ok.ret ⟨rfl,rfl⟩
  ·refine Ok.neg (by rw[Ic,Hs (by omega)];decide)<|Ok.eq (i7 S rfl) ?_;have hx:=h.at (Hf ..);cases x with
   | str w=>
    refine Ok.eq rfl<|Ok.eq rfl<|Ok.neg (by decide)<|Ok.eq (i7 S rfl)<|Ok.eq (qM w S)<|Ok.eq (A8 _ S) ?_;unfold jn;cases e:iC w with
    | none=>exact Ok.eq rfl<|Ok.eq rfl<|Ok.pos rfl<|Ok.ret ⟨by simp[A9,e],rfl⟩
    | some n=>
     refine Ok.eq (DL _ _ S)<|Ok.eq (i8 _ S) ?_;by_cases en:n=ds.length+1
     ·refine Ok.neg (by rw[Ic,Hv (by omega)];decide)<|Ok.eq (Cq _ _ S).1<|Ok.eq (i8 _ S) ?_;by_cases e1:w = "at"
      ·subst e1;obtain⟨x,y,rfl⟩:∃x y,ds=[x,y]:=by
        have:n=3:=by cases e;rfl
        match ds,en with
        | [x,y],_=>exact⟨x,y,rfl⟩
        | [],en=>simp at en;omega
        | [_],en=>simp at en;omega
        | _::_::_::_,en=>simp at en;omega
       have h1:Any j N x:=h.at (by simp);have h2:Any j N y:=h.at (by simp);refine Ok.pos (by decide)<|Ok.eq (i7 S rfl)<|Ok.eq (qF h1.pl hs k S)<|Ok.eq (R0 _ S) ?_;have eb:A9 hs (.tup [.str "at",x,y])=(one hs x&&wOk y):=by
        simp only[A9,e,en];rfl
       rw[eb];cases one hs x with
       | true=>exact Ok.pos rfl<|Ok.eq (i7 S rfl)<|Ok.eq (rS h2 hj hN (k+1) S)<|Ok.ret ⟨rfl,rfl⟩
       | false=>exact Ok.neg (by decide)<|Ok.ret ⟨rfl,rfl⟩
      ·refine Ok.neg (by rw[Hs e1];decide)<|Ok.eq (Cq _ _ S).2<|Ok.eq (R0 _ S) ?_;by_cases e2:w = "mark"
       ·subst e2;obtain⟨x,rfl⟩:∃x,ds=[x]:=by
         have:n=2:=by cases e;rfl
         match ds,en with
         | [x],_=>exact⟨x,rfl⟩
         | [],en=>simp at en;omega
         | _::_::_,en=>simp at en;omega
        have h1:Any j N x:=h.at (by simp);refine Ok.neg (by decide)<|Ok.eq (i7 S rfl)<|Ok.eq (qF h1.pl hs k S)<|Ok.ret ⟨?_,rfl⟩;simp;rfl
       ·refine Ok.pos (by rw[Hs e2];rfl)<|Ok.ret ⟨?_,rfl⟩;simp only[A9,e,en,if_neg e1,if_neg e2,Hs e2];rfl
     ·refine Ok.pos (by rw[Ic,Hs (by omega)];rfl)<|Ok.ret ⟨?_,rfl⟩;have:=λz=>en (HH z);simp only[A9,e,Hs this,LK]
   | scr _=>exact hx.pl.elim
   | ref _=>exact hx.pl.elim
   | _=>exact Ok.eq rfl<|Ok.eq rfl<|Ok.pos rfl<|Ok.ret ⟨rfl,rfl⟩
 | scr _=>exact h.pl.elim
 | ref _=>exact h.pl.elim
 | _=>exact Ok.eq rfl<|Ok.eq rfl<|Ok.pos rfl<|Ok.ret ⟨rfl,rfl⟩
theorem ED:∀w∈(["not","both","either"]:List Str),Asc w:=by unfold Asc;decide +kernel
theorem CP(h:Any j N d)(f:j<=40)(c:A9 hs d=true)(k:Nat)(S:Sto):rn (k+1) DD [d] S=.ok (.tup (U8 d)) S/\(U8 d).length<=2/\∀e∈U8 d,Any j N e:=by
 match d,c,h with
 | .tup (.str w::ds),c,h=>
  have i:=h.at (Hf ..);refine⟨i4 ?_,?_,λe b=>?_⟩
  ·rw[rn,b8 rfl,BU];refine Ok.eq (i7 S rfl)<|Ok.eq (iM i f ED S)<|Ok.eq (i8 _ S) ?_;by_cases q:w = "not"\/w = "both"\/w = "either"
   ·refine Ok.pos (Hv (by simpa using q))<|Ok.eq (a:=.tup ds) ?_<|Ok.ret ⟨by simp only[U8,if_pos q],rfl⟩;show R.ok (D.tup (B6 (.str w::ds) (some ((1:Nat):Int)) none)) S=_;rw[fh (by simp)];rfl
   ·refine Ok.neg (by rw[show inW _ (.str w)=false from Hs (by simpa using q)];decide)<|Ok.ret ⟨by simp only[U8,if_neg q],rfl⟩
  ·simp only[U8];split
   ·rename_i q;simp only[A9,Gz,Hw]at c;have:=c.1;have g:∀n,iC w=some n->n<=3:=by
     rcases q with rfl | rfl | rfl <;> intro n e <;> cases e <;> decide
    have:=g _ this;omega
   ·exact HY _
  ·simp only[U8]at b;split at b
   ·exact h.at (Hh _ b)
   ·cases b
def pD(p:D×Nat):D:=.tup [p.1,.int (p.2:Int)]
theorem rR{y:D}(e:S[n]?=some (.lst (es++[y]))):eQ (.ref n) S=.ok y (S.set n (.lst es)):=by
 unfold eQ;simp only[bind,lstOf,e,Hu,Ia,Nat.add_sub_cancel,List.getElem?_concat_length,List.dropLast_concat]
theorem Dj{es ys:List D}(e:S[n]?=some (.lst es))(a:es.length+ys.length<=sizeLine):extD (.ref n) [.lst ys] S=.ok .non (S.set n (.lst (es++ys))):=by
 simp only[extD,e,if_pos a]
theorem iX(h:Any j N d)(hj:j<=40)(hN:N<=100000)(hs:List Int)(k:Nat)(S:Sto):Ok (rn (k+4) AT [d,.tup (hs.map D.int)]) S λr S'=>r=.bl (few 0 (sN hs 8 d))/\Ex S S':=by
 rw[rn,b8 rfl,wq,vC];refine Ok.first<|Ok.cg (Db ..)<|Ok.eq (rfl)<|Ok.nxt<|Ok.cg (Di ..)<|Ok.nxt<|Ok.cg (DA ..)<|Ok.bind ((Ok.while_ (λt ρ S'=>∃(m:Nat) (ps:List (D×Nat)) (o4 o5:Option D),ρ=[some d,some (.tup (hs.map D.int)),some (.ref S.length),some (.int (m:Int)),o4,o5]/\S'=S++[.lst (ps.map pD)]/\(∀p∈ps,Any j N p.1)/\few m (B8 hs ps)=few 0 (sN hs 8 d)/\m+t=20/\ps.length<=2 * m+1)
  (λρ S'=>∃x y z u v w,ρ=[x,y,z,u,v,w]/\few 0 (sN hs 8 d)=true/\Ex S S') (λr S'=>r=.bl (few 0 (sN hs 8 d))/\Ex S S') ?_ 10000 20 _ _ (by decide) ⟨0,[(d,1)],_,_,rfl,rfl,λp hp=>by rw[Hm.mp hp];exact h,?_,rfl,Hd _⟩).mono ?_)
 ·rintro t ρ S' ⟨m,ps,o4,o5,rfl,rfl,hp,hf,hm,hl⟩;have at_:∀x:List D,(S++[O.lst x])[S.length]?=some (.lst x):=λx=>by simp
  rw[hB];refine Ok.eq (a:=!(ps.map pD).isEmpty) (S1:=S++[.lst (ps.map pD)]) (by simp only[j0,at_])<|Ok.ret ?_;rcases List.eq_nil_or_concat ps with rfl | ⟨qs,⟨e,l⟩,rfl⟩
  ·rw[if_neg (by decide)];refine⟨_,_,_,_,_,_,rfl,?_,⟨_,rfl⟩⟩;rw[<- hf];exact Hv (by omega)
  ·rw[List.concat_eq_append]at hp hf hl ⊢;rw[if_pos (by simp)];have he:Any j N e:=hp (e,l) (by simp);unfold fR;rw[eH,IB];refine Ok.first<|Ok.cg (lr ..)<|Ok.eq (rR (at_ _)) ?_;rw[kJ];refine Ok.eq rfl<|Ok.nxt<|Ok.cg (ki ..)<|Ok.eq (a:=.int ((m+1:Nat):Int)) rfl<|Ok.nxt<|Ok.cg (lZ ..)<|Ok.eq (bz _ _ _)<|Ok.eq (i8 _ _) ?_;by_cases c1:20<m+1
   ·refine Ok.pos (Hv (by omega))<|Ok.ret ⟨?_,_,rfl⟩;rw[<- hf,iG (.inr (.inr c1))]
   refine Ok.neg (by rw[Hs (by omega)];decide)<|Ok.eq (bz _ _ _)<|Ok.eq (i8 _ _) ?_;by_cases c2:8<l
   ·refine Ok.pos (Hv (by omega))<|Ok.ret ⟨?_,_,rfl⟩;rw[<- hf,iG (.inr (.inl c2))]
   refine Ok.neg (by rw[Hs (by omega)];decide)<|Ok.eq (pY he hj hN hs k _)<|Ok.eq (R0 _ _) ?_;cases hb:A9 hs e with
   | false=>
    refine Ok.pos rfl<|Ok.ret ⟨?_,_,rfl⟩;rw[<- hf,iG (.inl hb)]
   | true=>
    obtain⟨f1,f2,f3⟩:=CP he hj hb (k+2) (S++[.lst (qs.map pD)]);refine Ok.neg (by decide)<|Ok.nxt<|Ok.cg (lD ..)<|Ok.eq (pE (at_ _))<|nx_bind<|Ok.eq f1<|Ok.eq (cj _ _)<|Ok.of (nk (g:=λx=>pD (x,l+1)) (by rw[HB];omega) λx hx=>?_) ?_
    ·exact a8 (zi l 1 _)
    ·rw[Hu,Ia]at hl;refine Ok.eq (Dj (at_ _) (by rw[Hc,Hc,HB];omega))<|Ok.ret ⟨t-1,by omega,m+1,qs++(U8 e).map (λx=>(x,l+1)),_,_,rfl,?_,λp hq=>?_,?_,by omega,by rw[Hu,Hc];omega⟩
     ·rw[kJ,IB,Jm];rfl
     ·rcases Hz.mp hq with z | z
      ·exact hp p (Hz.mpr (.inl z))
      ·obtain⟨x,hx,rfl⟩:=HN.mp z;exact f3 x hx
     ·rw[<- hf,vR hb (by omega)]
 ·have:B8 hs [(d,1)]=sN hs 8 d:=U6 _;rw[this]
 ·rintro fl S' q;cases fl with
  | nx ρ=>
   obtain⟨x,y,z,u,v,w,rfl,e,ex⟩:=q;rw[e];exact Ok.nxt<|Ok.cg (EF ..)<|Ok.ret ⟨rfl,ex⟩
  | rt r=>exact Ok.ret q
  | bk ρ=>exact q.elim
  | ct ρ=>exact q.elim
def cy(w:Str):Option (List Int):=if w = "each" then some [0]else if w = "some" then some [0]else if w = "pairs" then some [0,1]else if w = "plain" then some []else none
def aP:D->Bool
 | .tup [.str w,d]=>(match cy w with
  | some hs=>few 0 (sN hs 8 d)
  | none=>false)
 | _=>false
theorem il{P:Str->Prop}(h1:P "each") (h2:P "some") (h3:P "pairs") (h4:P "plain") (h:∀w:Str,w ≠ "each"->w ≠ "some"->w ≠ "pairs"->w ≠ "plain"->P w) (w:Str):P w:=by
 by_cases e1:w = "each"
 ·rw[e1];exact h1
 by_cases e2:w = "some"
 ·rw[e2];exact h2
 by_cases e3:w = "pairs"
 ·rw[e3];exact h3
 by_cases e4:w = "plain"
 ·rw[e4];exact h4
 exact h w e1 e2 e3 e4
theorem jZ{w:Str}(a:w ≠ "each") (b:w ≠ "some") (d:w ≠ "pairs") (c:w ≠ "plain"):cy w=none:=by
 unfold cy;rw[if_neg a,if_neg b,if_neg d,if_neg c]
def HD:List (Str×D):=[("each",(.tup [(.int 0)])),("some",(.tup [(.int 0)])),("pairs",(.tup [(.int 0),(.int 1)])),("plain",(.tup []))]
theorem iH(w:Str):HD.lookup w=(cy w).map λhs=>.tup (hs.map D.int):=by
 refine il (P:=λw=>HD.lookup w=(cy w).map λhs=>.tup (hs.map D.int)) ?_ ?_ ?_ ?_ ?_ w
 ·kernel_rfl
 ·kernel_rfl
 ·kernel_rfl
 ·kernel_rfl
 ·intro w f c d b;have a:∀v:Str,w≠v->(w==v)=false:=λv e=>Im.mpr e;rw[jZ f c d b];simp only[HD,List.lookup,a _ f,a _ c,a _ d,a _ b];rfl
theorem me(d:D){j:Nat}(h:Pln j d)(k:Nat)(S:Sto):rn (k+1) yL [d,.int 2] S=.ok (.bl (zr 2 d)) S:=by
 refine i4 ?_;rw[rn,b8 rfl,su];cases d with
 | tup ds=>
  refine Ok.eq rfl<|Ok.eq rfl<|Ok.pos rfl<|Ok.eq (A8 ds S)<|Ok.eq (C7 _ _ S)<|Ok.ret ⟨?_,rfl⟩;show D.bl (decide ((ds.length:Int)=((2:Nat):Int)))=.bl (decide (ds.length=2));rw[om]
 | scr _=>exact h.elim
 | ref _=>exact h.elim
 | _=>exact Ok.eq rfl<|Ok.eq rfl<|Ok.neg (by decide)<|Ok.ret ⟨rfl,rfl⟩
theorem cb(h:Any j N d)(hj:j<=40)(hN:N<=100000)(k:Nat)(S:Sto):Ok (rn (k+5) BX [d]) S λr S'=>r=.bl (aP d)/\Ex S S':=by
 rw[rn,b8 rfl,wc];refine Ok.eq (me d h.pl (k+3) S)<|Ok.eq (R0 _ _) ?_;cases q:zr 2 d with
 | false=>
  refine Ok.pos rfl<|Ok.ret ⟨?_,Ex.refl _⟩;unfold aP;split
  ·cases q
  ·rfl
 | true=>
  obtain⟨ds,rfl,l2⟩:=wP q;obtain⟨x,y,rfl⟩:∃x y,ds=[x,y]:=by
   match ds,l2 with
   | [x,y],_=>exact⟨x,y,rfl⟩
  have hx:=h.at (Hf ..);have hy:Any j N y:=h.at (by simp);refine Ok.neg (by decide)<|Ok.eq (i7 S rfl) ?_;cases x with
  | str w=>
   refine Ok.eq rfl<|Ok.eq rfl<|Ok.neg (by decide)<|Ok.eq (i7 S rfl)<|Ok.eq (show wF HD (.str w) S=.ok (HD.lookup w).isNone S from rfl) ?_;cases e:cy w with
   | none=>
    refine Ok.pos (by rw[iH,e];rfl)<|Ok.ret ⟨by simp only[aP,e],Ex.refl _⟩
   | some hs=>
    refine Ok.neg (by rw[iH,e];exact He)<|Ok.eq (i7 S rfl)<|Ok.eq (i7 S rfl)<|Ok.eq (show gdD HD (.str w) S=.ok (.tup (hs.map D.int)) S by simp only[gdD,iH,e];rfl)<|Ok.bind ((iX hy hj hN hs k S).mono ?_);rintro _ S' ⟨rfl,ex⟩;exact Ok.ret ⟨by simp only[aP,e],ex⟩
  | scr _=>exact hx.pl.elim
  | ref _=>exact hx.pl.elim
  | _=>exact Ok.eq rfl<|Ok.eq rfl<|Ok.pos rfl<|Ok.ret ⟨rfl,Ex.refl _⟩
inductive Wo where
 | out | ask | close | look | holds | right | down
 deriving DecidableEq
def Wo.s:Wo->Str
 | .out=>"out"
 | .ask=>"ask"
 | .close=>"close"
 | .look=>"look"
 | .holds=>"holds"
 | .right=>"right"
 | .down=>"down"
def Wo.d(w:Wo):D:=.str w.s
def wos:List Wo:=[.out,.ask,.close,.look,.holds,.right,.down]
theorem Wo.inj{a b:Wo}(h:a.s=b.s):a=b:=by revert h;cases a <;> cases b <;> decide
structure Dst where
 ma:Option Nat
 cl:Bool
 ws:List Wo
 deriving DecidableEq
def oD:Option Nat->D
 | none=>.non
 | some g=>.int (g:Int)
def Dst.d(s:Dst):D:=.tup [oD s.ma,.bl s.cl,.tup (s.ws.map Wo.d)]
def step(s:Dst)(i:Nat):Option Dst:=match s.ws[i]? with
 | some .out=>some ⟨some i,s.cl,s.ws.set i .ask⟩
 | some .ask=>some ⟨s.ma,s.cl,s.ws.set i (if s.cl=true then .right else .close)⟩
 | some .close=>some ⟨s.ma,true,s.ws.set i .look⟩
 | some .look=>some ⟨s.ma,s.cl,s.ws.set i (if s.ma=some i then .holds else .down)⟩
 | _=>none
structure DI(n:Nat)(s:Dst):Prop where
 l:s.ws.length=n
 m:∀g,s.ma=some g->g<n
theorem DI.step{s t:Dst}(h:DI n s)(b:i<n)(e:step s i=some t):DI n t:=by
 unfold K08.step at e;split at e
 ·cases e;exact⟨by simp[h.l],λg a=>by cases a;exact b⟩
 ·cases e;exact⟨by simp[h.l],h.m⟩
 ·cases e;exact⟨by simp[h.l],h.m⟩
 ·cases e;exact⟨by simp[h.l],h.m⟩
 ·cases e
def v4:Nat->List (List Wo)
 | 0=>[[]]
 | n+1=>(v4 n).flatMap λr=>wos.map λw=>r++[w]
def A5(n:Nat):List (Option Nat):=none::(List.range n).map some
def all(n:Nat):List Dst:=(A5 n).flatMap λm=>[false,true].flatMap λc=>(v4 n).map λws=>⟨m,c,ws⟩
theorem bG:∀n,(v4 n).length=7 ^ n
 | 0=>rfl
 | n+1=>by
  rw[v4,Js];simp;rw[List.map_const',List.sum_replicate_nat,bG n];show 7 ^ n * 7=_;rw[Nat.pow_succ]
theorem K7:∀n (r:List Wo),r∈v4 n↔r.length=n
 | 0,r=>by simp[v4]
 | n+1,r=>by
  rw[v4,IZ];constructor
  ·rintro⟨a,c,b⟩;obtain⟨w,_,rfl⟩:=HN.mp b;have:=(K7 n a).mp c;simp[this]
  ·intro h;rcases List.eq_nil_or_concat r with rfl | ⟨a,w,rfl⟩
   ·simp at h
   ·refine⟨a,(K7 n a).mpr (by simpa using h),HN.mpr ⟨w,by cases w <;> decide,by simp⟩⟩
theorem kM:∀n,(v4 n).Nodup
 | 0=>by decide
 | n+1=>by
  rw[v4,List.Nodup,Ku];refine⟨λa _=>?_,(kM n).imp λ{a b} c x d y f e=>?_⟩
  ·rw[KY];exact(show wos.Nodup by decide).imp λ{u v} h e=>h (by simpa using e)
  ·obtain⟨u,_,rfl⟩:=HN.mp d;obtain⟨v,_,rfl⟩:=HN.mp f;exact c (List.append_inj' e rfl).1
theorem oo(n:Nat):(A5 n).Nodup:=by
 unfold A5;rw[Jj];refine⟨by simp,?_⟩;rw[List.Nodup,KY];exact List.nodup_range.imp λ{a b} h e=>h (by simpa using e)
theorem yV(n:Nat):(all n).Nodup:=by
 rw[all,List.Nodup,Ku];refine⟨λm _=>?_,(oo n).imp λ{a b} hab x hx y hy e=>?_⟩
 ·rw[Ku];refine⟨λc _=>?_,?_⟩
  ·rw[KY];exact(kM n).imp λ{u v} h e=>h (by simpa using e)
  ·refine(show [false,true].Nodup by decide).imp λ{a b} hab x hx y hy e=>?_;obtain⟨u,_,rfl⟩:=HN.mp hx;obtain⟨v,_,rfl⟩:=HN.mp hy;exact hab (by simpa using congrArg Dst.cl e)
 ·obtain⟨c,_,hx⟩:=IZ.mp hx;obtain⟨c2,_,hy⟩:=IZ.mp hy;obtain⟨u,_,rfl⟩:=HN.mp hx;obtain⟨v,_,rfl⟩:=HN.mp hy;exact hab (by simpa using congrArg Dst.ma e)
theorem all_mem:s∈all n↔DI n s:=by
 unfold all;simp only[IZ,HN];constructor
 ·rintro⟨m,hm,c,_,r,hr,rfl⟩;refine⟨(K7 n r).mp hr,λg hg=>?_⟩;have hg:=hg;subst hg;simpa [A5] using hm
 ·rintro⟨h1,h2⟩;refine⟨s.ma,?_,s.cl,by cases s.cl <;> decide,s.ws,(K7 n _).mpr h1,rfl⟩;unfold A5;cases e:s.ma with
  | none=>exact Hf
  | some g=>exact Hh _ (HN.mpr ⟨g,Ij.mpr (h2 g e),rfl⟩)
theorem V4(f:α->Nat)(k:Nat):∀l:List α,(∀a∈l,f a=k)->(l.map f).sum=l.length * k
 | [],_=>by simp
 | a::l,h=>by
  rw[Ht,List.sum_cons,V4 f k l λb c=>h b (Hh _ c),h a Hf,Ic,Nat.succ_mul];omega
theorem vF(n:Nat):(all n).length=(n+1) * (2 * 7 ^ n):=by
 unfold all;rw[Js,V4 _ (2 * 7 ^ n)]
 ·simp[A5]
 ·intro m _;rw[Js,V4 _ (7 ^ n)]
  ·simp
  ·intro c _;rw[Hc,bG]
theorem O7(h:n<=3):(all n).length<=2744:=by
 rw[vF];have:n=0\/n=1\/n=2\/n=3:=by omega
 rcases this with rfl | rfl | rfl | rfl <;> decide
theorem D7{f:Type}{l:List f}{h:f->D}{g:f->List D}{b:D->List D->M (List D)}{src:Src}{S:Sto}(hs:∀i,src i S=some (l.map h)[i]?)(N:Nat)
  (j:∀a∈l,∀es:List D,es.length+(g a).length<=N->b (h a) es S=.ok (es++g a) S):∀(m i:Nat)(es:List D),i+m=l.length->es.length+((l.drop i).flatMap g).length<=N->lvM src (λ_=>ret true) b (m+1) i es S=.ok (es++(l.drop i).flatMap g) S
 | 0,i,es,e,_=>by
  have:src i S=some none:=by rw[hs,HM (by rw[Hc];omega)]
  rw[List.drop_eq_nil_of_le (by omega),List.flatMap_nil,HU];show(match src i S with
   | none=>_
   | some none=>_
   | some (some d)=>_)=_
  rw[this]
 | m+1,i,es,e,k=>by
  have c:i<l.length:=by omega
  have o:src i S=some (some (h l[i])):=by rw[hs,HK,Hi c];rfl
  rw[JN c,JF]at k ⊢;rw[Hu]at k;have n:=j l[i] (HG c) es (by omega);have p:=D7 hs N j m (i+1) (es++g l[i]) (by omega) (by rw[Hu];omega);show(match src i S with
   | none=>_
   | some none=>_
   | some (some d)=>_)=_
  rw[o];show bind (b (h l[i]) es) _ S=_;rw[a8 n,p,JD]
theorem gG{a:Type}(l:List a)(h:a->D)(S:Sto):k4 (.lst (l.map h)) S=.ok (B9 (l.map h),l.length+1) S:=by
 show R.ok (B9 _,_+1) S=_;rw[Hc]
theorem P8{a:Type}{l:List a}{h:a->D}(S:Sto)(i:Nat):B9 (l.map h) i S=some (l.map h)[i]?:=rfl
abbrev rD(r:List Wo):D:=.tup (r.map Wo.d)
theorem xQ{f:M D}{S:Sto}(e:f S=.ok x S)(hl:es.length+1<=5000):bind f (λy=>if es.length<sizeLine then ret (es++[y])else bad) S=.ok (es++[x]) S:=by
 rw[a8 e,if_pos (by rw[HB];omega)];rfl
theorem cX{α β:Type}(f:α->β)(l:List α):l.flatMap (λa=>[f a])=l.map f:=by
 induction l with
 | nil=>rfl
 | cons a l ih=>rw[JF,ih];rfl
theorem uU(h:n<=3):(v4 n).length<=343:=by
 rw[bG];have:n=0\/n=1\/n=2\/n=3:=by omega
 rcases this with rfl | rfl | rfl | rfl <;> decide
theorem lh{n:Nat}(m:n<=3)(k:Nat)(S:Sto):rn (k+1) pT [.int (n:Int)] S=.ok (.lst ((v4 n).map rD)) S:=by
 refine i4 ?_;rw[rn,b8 rfl,uD,vJ];refine Ok.first<|Ok.cg (Cb ..)<|Ok.nxt<|Ok.cg (Eg ..)<|Ok.eq (gT (by omega) _)<|Ok.bind ((Ok.loop (λi ρ S'=>S'=S/\∃o,ρ=[some (.int (n:Int)),some (.lst ((v4 i).map rD)),o]) (λρ S' _=>T9 n S') ?_ ⟨rfl,_,rfl⟩).mono ?_)
 ·rintro i ρ S' d ⟨rfl,o,rfl⟩;refine⟨.int (i:Int),_,aJ d S',rfl,?_⟩;unfold fS;rw[gL];have l:=uU (n:=i+1) (by omega);refine Ok.first<|Ok.cg (ky ..)<|nx_bind<|Ok.eq (gG (v4 i) rD S')<|Ok.of (D7 (g:=λr=>wos.map λw=>rD (r++[w])) (P8 S') 5000 ?_ _ 0 [] (by omega) ?_)<|Ok.ret ⟨_,.inl rfl,rfl,some (.int (i:Int)),?_⟩
  ·intro r f es a;have e:=(K7 i r).mp f;rw[Hc]at a;have:=D7 (g:=λw=>[rD (r++[w])]) (b:=λj=>λc=>bind (bind (n8 (rD r) (.tup [j])) λh=>ret h) λx8=>if c.length<sizeLine then ret (c++[x8])else bad) (P8 S') 5000 (λw _ es a=>xQ (by
    rw[a8 (cat_tup (by simp[HB,e];omega))];rw[rD,IB];rfl) a) 7 0 es rfl (by rw[Il,cX,Hc];exact a)
   rw[Il,cX]at this;exact this
  ·rw[Il];have:((v4 i).flatMap λr=>wos.map λw=>rD (r++[w])).length=(v4 (i+1)).length:=by
    rw[v4,Js,Js];simp
   rw[this];simp;omega
  ·rw[Il,JY,v4,JK];simp;rfl
 ·rintro _ S' ⟨ρ,rfl,rfl,o,rfl⟩;exact Ok.nxt<|Ok.cg (EU ..)<|Ok.ret ⟨rfl,rfl⟩
theorem Dz(h3:n<=3)(S:Sto):lvM (B9 ((A5 n).map oD)) (λ_=>ret true) (λd5=>λl6=>bind (bind (k4 (.tup [(.bl false),(.bl true)])) λsm8=>ret sm8) λsm7=>lvM sm7.1 (λd9=>ret true) (λd9=>λl10=>bind (bind (k4 (.lst ((v4 n).map rD))) λsm12=>ret sm12) λsm11=>lvM sm11.1 (λd13=>ret true) (λd13=>λl14=>bind (ret (.tup [d5,d9,d13])) λx15=>if l14.length<sizeLine then ret (l14++[x15])else bad) sm11.2 0 l10) sm7.2 0 l6) ((A5 n).length+1) 0 [] S=.ok ((all n).map Dst.d) S:=by
 have al:=O7 h3;have e:(all n).map Dst.d=(A5 n).flatMap λm=>[false,true].flatMap λc=>(v4 n).map λws=>(Dst.mk m c ws).d:=by
  unfold all;rw[JK];congr 1;funext m;rw[JK];congr 1;funext c;rw[Jm];rfl
 have:=D7 (l:=A5 n) (h:=oD) (b:=λd5=>λl6=>bind (bind (k4 (.tup [(.bl false),(.bl true)])) λsm8=>ret sm8) λsm7=>lvM sm7.1 (λd9=>ret true) (λd9=>λl10=>bind (bind (k4 (.lst ((v4 n).map rD))) λsm12=>ret sm12) λsm11=>lvM sm11.1 (λd13=>ret true) (λd13=>λl14=>bind (ret (.tup [d5,d9,d13])) λx15=>if l14.length<sizeLine then ret (l14++[x15])else bad) sm11.2 0 l10) sm7.2 0 l6) (P8 S) 5000 (λm _ es hl=>?_) (A5 n).length 0 [] (by omega) (by rw[Il,<- e,Hc];simp;omega)
 ·rw[Il,JY,<- e]at this;exact this
 ·have:=D7 (h:=D.bl) (b:=λd9=>λl10=>bind (bind (k4 (.lst ((v4 n).map rD))) λsm12=>ret sm12) λsm11=>lvM sm11.1 (λd13=>ret true) (λd13=>λl14=>bind (ret (.tup [oD m,d9,d13])) λx15=>if l14.length<sizeLine then ret (l14++[x15])else bad) sm11.2 0 l10) (P8 S) 5000 (λc _ es hl=>?_) 2 0 es rfl hl
  ·exact this
  ·rw[a8 (show bind (k4 (.lst ((v4 n).map rD))) (λsm12=>ret sm12) S=.ok (B9 ((v4 n).map rD),(v4 n).length+1) S by rw[a8 (gG (v4 n) rD S)];rfl)];have:=D7 (l:=v4 n) (b:=λd13=>λl14=>bind (ret (.tup [oD m,.bl c,d13])) λx15=>if l14.length<sizeLine then ret (l14++[x15])else bad) (P8 S) 5000 (λws _ es hl=>xQ rfl hl) (v4 n).length 0 es (by omega) (by rw[Il,cX];exact hl);rw[Il,cX]at this;exact this
theorem Ec(h:xs.length+ys.length<=sizeLine):n8 (.lst xs) (.lst ys) S=.ok (.lst (xs++ys)) S:=by
 show(if xs.length+ys.length<=sizeLine then ret (.lst (xs++ys))else bad:M D) S=_;rw[if_pos h];rfl
theorem nU(h:ds.length<=5000):newL ds S=.ok (.ref S.length) (S++[.lst ds]):=by
 unfold newL;rw[if_pos (by rw[HB];omega)]
theorem all_ok{n:Nat}(p:n<=3)(k:Nat)(S:Sto):rn (k+2) xb [.int (n:Int)] S=.ok (.ref S.length) (S++[.lst ((all n).map Dst.d)]):=by
 have y:=O7 p;rw[rn,b8 rfl,zA];have v:M0 (.int (n:Int)) S=.ok (.lst ((List.range n).map λ(k:Nat)=>.int (k:Int))) S:=by
  have:n=0\/n=1\/n=2\/n=3:=by omega
  rcases this with rfl | rfl | rfl | rfl <;> rfl
 have x:n8 (.lst [.non]) (.lst ((List.range n).map λ(k:Nat)=>.int (k:Int))) S=.ok (.lst ((A5 n).map oD)) S:=by
  rw[Ec (by simp[HB];omega)];unfold A5;rw[Ht,Jm];rfl
 have:Ok (bind (M0 (.int (n:Int))) λs=>bind (n8 (.lst [.non]) s) λu=>bind (rn (k+1) pT [.int (n:Int)]) λw=>bind (nx (bind (k4 u) λh=>lvM h.1 (λr=>ret true) (λr=>λt=>bind (bind (k4 (.tup [(.bl false),(.bl true)])) λi=>ret i) λf=>lvM f.1 (λq=>ret true) (λq=>λm=>bind (bind (k4 w) λg=>ret g) λa=>lvM a.1 (λb=>ret true) (λb=>λc=>bind (ret (.tup [r,q,b])) λl=>if c.length<sizeLine then ret (c++[l])else bad) a.2 0 m) f.2 0 t) h.2 0 [])) λo=>bind (newL o) λj=>ret j) S λd S'=>d=.ref S.length/\S'=S++[.lst ((all n).map Dst.d)]:=
  Ok.eq v<|Ok.eq x<|Ok.eq (lh p k S)<|nx_bind<|Ok.eq (gG (A5 n) oD S)<|Ok.of (Dz p S)<|Ok.eq (nU (by rw[Hc];omega))<|Ok.ret ⟨rfl,rfl⟩
 obtain⟨d,S',e,rfl,rfl⟩:=this;exact e
theorem yr(k:Nat)(S:Sto):rn (k+1) BP [] S=.ok (.lst (wos.map Wo.d)) S:=by
 rw[rn,b8 rfl,wh];rfl
def bh(mk:Option Nat)(cl:Bool)(i:Nat):Wo->Option (Option Nat×Bool×Str)
 | .out=>some (some i,cl,"ask")
 | .ask=>some (mk,cl,if cl=true then "right" else "close")
 | .close=>some (mk,true,"look")
 | .look=>some (mk,cl,if mk=some i then "holds" else "down")
 | .holds=>none
 | .right=>none
 | .down=>none
def bhD(mk:Option Nat)(cl:Bool)(i:Nat)(w:Wo)(ws:List D):D:=match bh mk cl i w with
 | none=>.non
 | some (m,c,x)=>.tup [oD m,.bl c,.tup (ws.set i (.str x))]
theorem xF{i:Nat}(h:mk=some i):bh mk cl i .look=some (mk,cl,("holds" : Str)):=by
 show some (mk,cl,if mk=some i then ("holds" : Str)else "down")=_;rw[if_pos h]
theorem sS{i:Nat}(h:mk≠some i):bh mk cl i .look=some (mk,cl,("down" : Str)):=by
 show some (mk,cl,if mk=some i then ("holds" : Str)else "down")=_;rw[if_neg h]
theorem xu{o:O}{a:List (Key×D)}(h:o=.dct a)(w:Str):getDD (.ref S.length) [.str w] (S++[o])=.ok ((X7 a (.inr w)).getD .non) (S++[o]):=by
 subst h;have b:(S++[O.dct a])[S.length]?=some (.dct a):=by simp
 simp only[getDD,b];rfl
theorem kt{i:Nat}{w:Wo}{ws:List D}(hw:ws[i]?=some w.d)(hl:ws.length<=6)(k:Nat)(S:Sto):Ok (rn (k+1) ij [.tup [oD mk,.bl cl,.tup ws],.int (i:Int)]) S λd S'=>d=bhD mk cl i w ws/\Ex S S':=by
 have hi:=(Hb.mp hw).1;rw[rn,b8 rfl,wS,wO];refine Ok.first<|Ok.cg (Dd ..)<|Ok.eq rfl<|Ok.nxt<|Ok.cg (Cm ..)<|Ok.eq (i7 S hw)<|Ok.nxt<|Ok.cg (Ds ..)<|Ok.eq rfl ?_;have last:∀(x:Str)(S':Sto)(o1:Option D),Ex S S'->(∃m c,bh mk cl i w=some (m,c,x))->Ok (nxt (evK Rs Γ (rn k) 40) K9 [nth Gh.body 4,nth Gh.body 5,nth Gh.body 6] endD (.nx [o1,some (.int (i:Int)),some (oD mk),some (.bl cl),some (.tup ws),some w.d,some (.str x)])) S' λd S'=>d=bhD mk cl i w ws/\Ex S S':=by
  rintro x S' o1 hS ⟨m,c,hb⟩;refine Ok.nxt<|Ok.cg (ji ..)<|Ok.eq (a:=.bl false) rfl<|Ok.eq rfl<|Ok.neg (by decide)<|Ok.nxt<|Ok.cg (DS ..) ?_;have g:=ee (x:=.str x) (S:=S') hi (by omega);have g2:∀{α:Type}(κ:D->M α),(bind (U2 (.int (i:Int))) λn1=>bind (slD (.tup ws) none n1) λx2=>bind (n8 x2 (.tup [.str x])) λx3=>bind (n8 (.int (i:Int)) (.int 1)) λx4=>bind (U2 x4) λn5=>bind (slD (.tup ws) n5 none) λx6=>bind (n8 x3 x6) κ)=bind (bind (U2 (.int (i:Int))) λn1=>bind (slD (.tup ws) none n1) λx2=>bind (n8 x2 (.tup [.str x])) λx3=>bind (n8 (.int (i:Int)) (.int 1)) λx4=>bind (U2 x4) λn5=>bind (slD (.tup ws) n5 none) λx6=>bind (n8 x3 x6) λx7=>ret x7) κ:=λκ=>by
   simp only[bind_assoc,i3]
  refine Ok.cg (g2 _) (Ok.bind (g.mono ?_));rintro _ _ ⟨rfl,rfl⟩;refine Ok.nxt<|Ok.cg (EX ..) ?_;have fin:∀(y z:D)(S':Sto),Ex S S'->y=oD m->z=.bl c->Ok (nxt (evK Rs Γ (rn k) 40) K9 [] endD (.rt (.tup [y,z,.tup (ws.set i (.str x))]))) S' λd S'=>d=bhD mk cl i w ws/\Ex S S':=by
   rintro y z S' hS rfl rfl;refine Ok.ret ⟨?_,hS⟩;unfold bhD;rw[hb]
  cases w with
  | out=>
   cases hb;refine Ok.eq rfl<|Ok.eq rfl<|Ok.pos rfl<|Ok.eq rfl ?_;cases cl with
   | true=>exact Ok.pos rfl (fin _ _ _ hS rfl rfl)
   | false=>exact Ok.neg (by decide) (Ok.eq rfl (fin _ _ _ hS rfl rfl))
  | ask=>
   cases hb;refine Ok.eq rfl<|Ok.eq rfl<|Ok.neg (by decide)<|Ok.eq rfl ?_;cases cl with
   | true=>exact Ok.pos rfl (fin _ _ _ hS rfl rfl)
   | false=>exact Ok.neg (by decide) (Ok.eq rfl (fin _ _ _ hS rfl rfl))
  | close=>
   cases hb;refine Ok.eq rfl<|Ok.eq rfl<|Ok.neg (by decide)<|Ok.eq rfl ?_;cases cl with
   | true=>exact Ok.pos rfl (fin _ _ _ hS rfl rfl)
   | false=>exact Ok.neg (by decide) (Ok.eq rfl (fin _ _ _ hS rfl rfl))
  | look=>
   cases hb;refine Ok.eq rfl<|Ok.eq rfl<|Ok.neg (by decide)<|Ok.eq rfl ?_;cases cl with
   | true=>exact Ok.pos rfl (fin _ _ _ hS rfl rfl)
   | false=>exact Ok.neg (by decide) (Ok.eq rfl (fin _ _ _ hS rfl rfl))
  | holds=>cases hb
  | right=>cases hb
  | down=>cases hb
 have mid:∀(o:O)(o1:Option D),Ok (nxt (evK Rs Γ (rn k) 40) K9 [nth Gh.body 3,nth Gh.body 4,nth Gh.body 5,nth Gh.body 6] endD (.nx [o1,some (.int (i:Int)),some (oD mk),some (.bl cl),some (.tup ws),some w.d,some (match w with
   | .out=>.str "ask"
   | .ask=>.str (if cl=true then "right" else "close")
   | .close=>.str "look"
   | .look=>.str "down"
   | _=>.non)])) (S++[o]) λd S'=>d=bhD mk cl i w ws/\Ex S S':=λo o1=>by
  have hS:Ex S (S++[o]):=⟨_,rfl⟩;refine Ok.nxt<|Ok.cg (Bo ..) ?_;cases w with
  | out=>exact Ok.eq rfl<|Ok.eq rfl<|Ok.neg (by decide)<|last _ _ _ hS ⟨_,_,rfl⟩
  | ask=>exact Ok.eq rfl<|Ok.eq rfl<|Ok.neg (by decide)<|last _ _ _ hS ⟨_,_,rfl⟩
  | close=>exact Ok.eq rfl<|Ok.eq rfl<|Ok.neg (by decide)<|last _ _ _ hS ⟨_,_,rfl⟩
  | look=>
   refine Ok.eq rfl<|Ok.eq rfl<|Ok.pos rfl ?_;cases mk with
   | none=>exact Ok.eq rfl<|Ok.eq rfl<|Ok.neg (by decide)<|last _ _ _ hS ⟨_,_,sS (by simp)⟩
   | some g=>
    refine Ok.eq rfl<|Ok.eq rfl<|Ok.pos rfl<|Ok.eq (C7 _ _ _)<|Ok.eq rfl ?_;by_cases q:g=i
    ·exact Ok.pos (Hv (by omega))<|last _ _ _ hS ⟨_,_,xF (by rw[q])⟩
    ·exact Ok.neg (by rw[Hs (by omega)];exact He)<|last _ _ _ hS ⟨_,_,sS (by simpa using q)⟩
  | holds=>
   exact Ok.eq rfl<|Ok.eq rfl<|Ok.neg (by decide)<|Ok.nxt<|Ok.cg (ji ..)<|Ok.eq rfl<|Ok.eq rfl<|Ok.pos rfl<|Ok.ret ⟨rfl,hS⟩
  | right=>
   exact Ok.eq rfl<|Ok.eq rfl<|Ok.neg (by decide)<|Ok.nxt<|Ok.cg (ji ..)<|Ok.eq rfl<|Ok.eq rfl<|Ok.pos rfl<|Ok.ret ⟨rfl,hS⟩
  | down=>
   exact Ok.eq rfl<|Ok.eq rfl<|Ok.neg (by decide)<|Ok.nxt<|Ok.cg (ji ..)<|Ok.eq rfl<|Ok.eq rfl<|Ok.pos rfl<|Ok.ret ⟨rfl,hS⟩
 have gd:∀(kvs:List (Key×D)),dctOf (.ref S.length) (S++[.dct kvs])=.ok Unit.unit (S++[.dct kvs]):=λkvs=>by
  have ef:(S++[O.dct kvs])[S.length]?=some (.dct kvs):=by simp
  simp only[dctOf,ef]
 cases cl with
 | true=>
  refine Ok.pos rfl<|Ok.eq rfl<|Ok.eq (gd _)<|Ok.eq (xu rfl w.s) ?_;have:=mid (.dct [(.inr "out",.str "ask"),(.inr "ask",.str "right"),(.inr "close",.str "look"),(.inr "look",.str "down")]) (some (.tup [oD mk,.bl true,.tup ws]));cases w <;> exact this
 | false=>
  refine Ok.neg (by decide)<|Ok.eq rfl<|Ok.eq (gd _)<|Ok.eq (xu rfl w.s) ?_;have:=mid (.dct [(.inr "out",.str "ask"),(.inr "ask",.str "close"),(.inr "close",.str "look"),(.inr "look",.str "down")]) (some (.tup [oD mk,.bl false,.tup ws]));cases w <;> exact this
theorem wp{i:Nat}(x:D)(h:i<ds.length)(a:ds.length<=1000)(k:Nat)(S:Sto):rn (k+1) zm [.tup ds,.int (i:Int),x] S=.ok (.tup (ds.set i x)) S:=by
 rw[rn,b8 rfl,wj];exact i4 (ee h a)
theorem yf{i:Nat}{w:Wo}{ws:List D}(hw:ws[i]?=some w.d)(hl:ws.length<=6)(hn:bh mk cl i w≠none)(k:Nat)(S:Sto):rn (k+2) nT [.tup [oD mk,.bl cl,.tup ws],.int (i:Int)] S=.ok (bhD mk cl i w ws) S:=by
 have hi:=(Hb.mp hw).1;have wa:=λx=>wp x hi (by omega) k S;refine i4 ?_;rw[rn,b8 rfl,AU,yU];refine Ok.first<|Ok.cg (GD ..)<|Ok.eq rfl<|Ok.nxt<|Ok.cg (FN ..)<|Ok.eq (i7 S hw)<|Ok.nxt<|Ok.cg (FU ..) ?_;cases w with
 | holds=>exact(hn rfl).elim
 | right=>exact(hn rfl).elim
 | down=>exact(hn rfl).elim
 | out=>exact Ok.eq (a:=.bl false) (by kernel_rfl)<|Ok.eq rfl<|Ok.neg (by decide)<|Ok.nxt<|Ok.cg (vw ..)<|Ok.eq rfl<|Ok.eq rfl<|Ok.pos rfl<|Ok.eq (wa _)<|Ok.ret ⟨rfl,rfl⟩
 | ask=>
  refine Ok.eq (S1:=S) (a:=.bl false) (by kernel_rfl)<|Ok.eq rfl<|Ok.neg (by decide)<|Ok.nxt<|Ok.cg (vw ..)<|Ok.eq rfl<|Ok.eq rfl<|Ok.neg (by decide)<|Ok.nxt<|Ok.cg (zW ..)<|Ok.eq rfl<|Ok.eq rfl<|Ok.pos rfl<|Ok.eq rfl ?_;cases cl with
  | true=>exact Ok.pos rfl<|Ok.eq (wa _)<|Ok.ret ⟨rfl,rfl⟩
  | false=>exact Ok.neg (by decide)<|Ok.eq (wa _)<|Ok.ret ⟨rfl,rfl⟩
 | close=>exact Ok.eq (a:=.bl false) (by kernel_rfl)<|Ok.eq rfl<|Ok.neg (by decide)<|Ok.nxt<|Ok.cg (vw ..)<|Ok.eq rfl<|Ok.eq rfl<|Ok.neg (by decide)<|Ok.nxt<|Ok.cg (zW ..)<|Ok.eq rfl<|Ok.eq rfl<|Ok.neg (by decide)<|Ok.nxt<|Ok.cg (Bt ..)<|Ok.eq rfl<|Ok.eq rfl<|Ok.pos rfl<|Ok.eq (wa _)<|Ok.ret ⟨rfl,rfl⟩
 | look=>
  have em:b7 .Eq (oD mk) (.int (i:Int)) S=.ok (.bl (decide (mk=some i))) S:=by
   cases mk with
   | none=>exact(show b7 .Eq .non (.int (i:Int)) S=.ok (.bl false) S from rfl).trans (by simp)
   | some g=>
    refine(C7 _ _ S).trans ?_;rw[show decide ((g:Int)=(i:Int))=decide (some g=some i) by simp;omega]
  refine Ok.eq (a:=.bl false) (by kernel_rfl)<|Ok.eq rfl<|Ok.neg (by decide)<|Ok.nxt<|Ok.cg (vw ..)<|Ok.eq rfl<|Ok.eq rfl<|Ok.neg (by decide)<|Ok.nxt<|Ok.cg (zW ..)<|Ok.eq rfl<|Ok.eq rfl<|Ok.neg (by decide)<|Ok.nxt<|Ok.cg (Bt ..)<|Ok.eq rfl<|Ok.eq rfl<|Ok.neg (by decide)<|Ok.nxt<|Ok.cg (FZ ..)<|Ok.eq em<|Ok.eq (i8 _ _) ?_;by_cases q:mk=some i
  ·exact Ok.pos (Hv q)<|Ok.eq (wa _)<|Ok.ret ⟨by unfold bhD;rw[xF q],rfl⟩
  ·exact Ok.neg (by rw[Hs q];decide)<|Ok.eq (wa _)<|Ok.ret ⟨by unfold bhD;rw[sS q],rfl⟩
def ck(s:Dst)(i:Nat):D:=match step s i with
 | some t=>t.d
 | none=>.non
theorem G8{b c:Type}(f:b->c):∀(l:List b)(i:Nat)(x:b),(l.set i x).map f=(l.map f).set i (f x)
 | [],_,_=>rfl
 | a::l,0,x=>rfl
 | a::l,i+1,x=>by rw[List.set_cons_succ,Ht,Ht,List.set_cons_succ,G8 f l i x]
theorem sL{i:Nat}{w:Wo}(hw:s.ws[i]?=some w):ck s i=bhD s.ma s.cl i w (s.ws.map Wo.d)/\((step s i).isSome=(bh s.ma s.cl i w).isSome):=by
 unfold ck step bhD;rw[hw];cases w with
 | out=>exact⟨by simp only[Dst.d,G8];rfl,rfl⟩
 | ask=>exact⟨by simp only[Dst.d,G8,bh];cases s.cl <;> rfl,rfl⟩
 | close=>exact⟨by simp only[Dst.d,G8];rfl,rfl⟩
 | look=>exact⟨by simp only[Dst.d,G8,bh];split <;> rfl,rfl⟩
 | holds=>exact⟨rfl,rfl⟩
 | right=>exact⟨rfl,rfl⟩
 | down=>exact⟨rfl,rfl⟩
theorem rQ{s:Dst}{i:Nat}{w:Wo}(a:s.ws[i]?=some w):(s.ws.map Wo.d)[i]?=some w.d:=w9 a
theorem DI.w{s:Dst}(V:DI n s)(a:i<n):∃w,s.ws[i]?=some w:=⟨_,Hi (by rw[V.l];exact a)⟩
theorem mq{s:Dst}(V:DI n s)(b:i<n)(c:n<=3)(k:Nat)(S:Sto):Ok (rn (k+1) ij [s.d,.int (i:Int)]) S λd S'=>d=ck s i/\Ex S S':=by
 obtain⟨w,a⟩:=V.w b;rw[(sL a).1];exact kt (rQ a) (by rw[Hc,V.l];omega) k S
theorem oV{s t:Dst}(V:DI n s)(hi:i<n)(h3:n<=3)(e:step s i=some t)(k:Nat)(S:Sto):rn (k+2) nT [s.d,.int (i:Int)] S=.ok t.d S:=by
 obtain⟨w,hw⟩:=V.w hi;obtain⟨o1,o2⟩:=sL hw;have:ck s i=t.d:=by unfold ck;rw[e]
 rw[<- this,o1];refine yf (rQ hw) (by rw[Hc,V.l];omega) (λz=>?_) k S;rw[z,e]at o2;cases o2
theorem lm(V:DI n s)(l:n<=3)(k:Nat)(S:Sto):Ok (rn (k+1) Bl [s.d]) S λd S'=>d=.lst (((List.range n).filter λj=>(step s j).isSome).map λ(j:Nat)=>.int (j:Int))/\S'=S:=by
 rw[rn,b8 rfl,zy];have c:(s.ws.map Wo.d).length=n:=by rw[Hc,V.l]
 refine nx_bind<|Ok.eq rfl<|Ok.eq (a:=(F6 (s.ws.map Wo.d),n+1)) (by show R.ok (F6 _,_+1) S=_;rw[c])<|((Ok.comp (λi S' es=>S'=S/\es=((List.range i).filter λj=>(step s j).isSome).map λj=>.int (j:Int)) (λS' es _=>by unfold F6;dsimp only;rw[HM (by omega)];exact if_pos c.symm) ?_ ⟨rfl,rfl⟩).mono ?_)
 ·rintro i S' es g ⟨rfl,rfl⟩;obtain⟨w,b⟩:=V.w g;have wd:=rQ b;refine⟨.tup [.int (i:Int),w.d],by unfold F6;dsimp only;rw[wd],?_⟩;have f:(((List.range i).filter λj=>(step s j).isSome).map λ(j:Nat)=>D.int (j:Int)).length<sizeLine:=by
   rw[Hc,HB];have:=IJ (λj=>(step s j).isSome) (List.range i);rw[Ks]at this;omega
  have e:=(sL b).2;rw[iS];have h:b7 .NotIn w.d (.tup [(.str "holds"),(.str "right"),(.str "down")]) S'=.ok (.bl (step s i).isSome) S':=by
   rw[e];cases w <;> kernel_rfl
  refine Ok.eq h<|Ok.eq (i8 _ _)<|Ok.ret ?_;cases q:(step s i).isSome with
  | false=>
   rw[if_neg He];exact⟨rfl,by rw[List.range_succ,Je];simp[q]⟩
  | true=>
   rw[if_pos rfl,gy];exact Ok.ret ⟨f,rfl,by rw[List.range_succ,Je];simp[q]⟩
 ·rintro es S' ⟨rfl,rfl⟩;exact Ok.ret ⟨rfl,rfl⟩
mutual
theorem xW:∀(d:D){q:PyData},kP d=some q->q=py d
 | .non,_,e=>by cases e;rfl
 | .bl _,_,e=>by cases e;rfl
 | .int _,_,e=>by cases e;rfl
 | .str _,_,e=>by cases e;rfl
 | .tup ds,_,e=>by
  rw[kP]at e;obtain⟨ps,a,rfl⟩:=Iv.mp e;rw[nV ds a];rfl
 | .lst _,_,e=>by cases e
 | .scr _,_,e=>by cases e
 | .ref _,_,e=>by cases e
theorem nV:∀(ds:List D){qs:List PyData},kPs ds=some qs->qs=pys ds
 | [],_,e=>by cases e;rfl
 | d::ds,_,e=>by
  rw[kPs]at e;cases e1:kP d with
  | none=>rw[e1]at e;cases e
  | some p=>
   cases e2:kPs ds with
   | none=>rw[e1,e2]at e;cases e
   | some ps=>
    rw[e1,e2]at e;cases e;rw[xW d e1,nV ds e2];rfl
end
theorem sml(V:DI n s)(c:n<=3):Sml 3 600 s.d:=by
 have a:Sml 1 190 (oD s.ma):=by
  cases e:s.ma with
  | none=>exact Sml.non
  | some g=>exact Sml.nat (by have:=V.m g e;omega)
 have b:Sml 1 190 (.tup (s.ws.map Wo.d)):=(Sml.tup (n:=0) (N:=60) (Smls.map λw _=>by cases w <;> exact Sml.w) (by rw[Hc,V.l];exact c)).up;exact(Sml.tup (m:=3) (.cons a (.cons Sml.bl (.cons b .nil))) (Hd _)).mono (by decide) (by decide)
def pO:Option Nat->PyData
 | none=>.none
 | some g=>.int (g:Int)
def pW(ws:List Wo):List PyData:=ws.map λw=>.str w.s
def kq(s:Dst):PyData:=.tuple [pO s.ma,.bool s.cl,.tuple (pW s.ws)]
def kS(s:Dst):PyData:=HT.nrmHt (kq s)
theorem xO:∀ws:List Wo,kPs (ws.map Wo.d)=some (pW ws)
 | []=>rfl
 | w::ws=>by rw[Ht,kPs,xO ws];rfl
theorem CB(s:Dst):kP s.d=some (kq s):=by
 unfold Dst.d kq;have a:kP (.tup (s.ws.map Wo.d))=some (.tuple (pW s.ws)):=by rw[kP,xO];rfl
 rw[kP,kPs,kPs,kPs,a];cases s.ma <;> rfl
theorem oX(V:DI n s)(c:n<=3):w8 s.d=some (kS s):=by
 have h:=sml V c;have b:=xW _ (CB s);have l:=hW s.d h.pl;have a:=ae s.d;have:=h.dp;unfold w8;rw[CB];rw[<- b]at l a;unfold kq at l a ⊢;dsimp only;rw[if_pos ⟨l,by omega⟩];rfl
theorem sO:∀ws:List Wo,HT.nrmsHt (pW ws)=pW ws
 | []=>rfl
 | w::ws=>by
  show HT.nrmHt (.str w.s)::HT.nrmsHt (pW ws)=_;rw[sO ws];rfl
theorem sG:∀{a b:List Wo},pW a=pW b->a=b
 | [],[],_=>rfl
 | [],_::_,h=>by cases h
 | _::_,[],h=>by cases h
 | x::a,y::b,h=>by
  have h:PyData.str x.s::pW a=.str y.s::pW b:=h;injection h with h1 h2;injection h1 with h1;rw[Wo.inj h1,sG h2]
theorem Ag(h:kS s=kS t):s=t:=by
 obtain⟨m,c,w⟩:=s;obtain⟨m2,b,d⟩:=t;have h:PyData.tuple [HT.nrmHt (pO m),.int (if c then 1 else 0),.tuple (HT.nrmsHt (pW w))]=.tuple [HT.nrmHt (pO m2),.int (if b then 1 else 0),.tuple (HT.nrmsHt (pW d))]:=h;rw[sO,sO]at h;injection h with h;injection h with a h;injection h with h2 h;injection h with h3 _;injection h3 with h3;injection h2 with h2;have e:=sG h3;have f:c=b:=by revert h2;cases c <;> cases b <;> decide
 have i:m=m2:=by
  cases m with
  | none=>
   cases m2 with
   | none=>rfl
   | some g=>cases a
  | some g=>
   cases m2 with
   | none=>cases a
   | some j=>
    have a:=a;injection a with a;rw[Int.ofNat_inj.mp a]
 rw[i,f,e]
inductive Fm where
 | at_ (v:Nat) (l:List Wo)
 | mark (v:Nat)
 | free
 | closed
 | no (f:Fm)
 | both (f g:Fm)
 | either (f g:Fm)
def Fm.d:Fm->D
 | .at_ v l=>.tup [.str "at",.int (v:Int),.tup (l.map Wo.d)]
 | .mark v=>.tup [.str "mark",.int (v:Int)]
 | .free=>.tup [.str "free"]
 | .closed=>.tup [.str "closed"]
 | .no f=>.tup [.str "not",f.d]
 | .both f g=>.tup [.str "both",f.d,g.d]
 | .either f g=>.tup [.str "either",f.d,g.d]
def Fm.h:Fm->Nat
 | .no f=>f.h+1
 | .both f g=>max f.h g.h+1
 | .either f g=>max f.h g.h+1
 | _=>1
def Fm.vs(n:Nat):Fm->Prop
 | .at_ v _=>v<n
 | .mark v=>v<n
 | .no f=>f.vs n
 | .both f g=>f.vs n/\g.vs n
 | .either f g=>f.vs n/\g.vs n
 | _=>True
def wAt(ws:List Wo)(i:Nat):Wo:=ws.getD i .out
def Fm.so(mk:Option Nat)(cl:Bool)(ws:List Wo)(hs:List Nat):Fm->Bool
 | .at_ v l=>decide (wAt ws (hs.getD v 0)∈l)
 | .mark v=>decide (mk=some (hs.getD v 0))
 | .free=>mk.isNone
 | .closed=>cl
 | .no f=>!f.so mk cl ws hs
 | .both f g=>f.so mk cl ws hs&&g.so mk cl ws hs
 | .either f g=>f.so mk cl ws hs||g.so mk cl ws hs
def nN(n:Nat):D:=.int (n:Int)
def dec(mk:Option Nat)(cl:Bool)(ws:List Wo):D:=.tup [oD mk,.bl cl,.tup (ws.map Wo.d)]
theorem Wo.asc(w:Wo):Asc w.s:=by
 show ∀c∈w.s.cps.toList,c<128;cases w <;> decide +kernel
theorem EH(l:List Wo):l.map Wo.d=(l.map Wo.s).map D.str:=by rw[Jm];rfl
theorem in7(w:Wo)(l:List Wo)(S:Sto):b7 .In w.d (.tup (l.map Wo.d)) S=.ok (.bl (decide (w∈l))) S:=by
 have s:Sml 0 100 w.d:=by cases w <;> exact Sml.w
 have i:=iM (ws:=l.map Wo.s) (s.any (by decide)) (by decide) (λx hx=>by
  obtain⟨y,_,rfl⟩:=HN.mp hx;exact y.asc) S
 rw[<- EH]at i;rw[i];congr 2;show decide (w.s∈l.map Wo.s)=_;have inj:∀a b:Wo,a.s=b.s->a=b:=by
  intro a b;cases a <;> cases b <;> first | (intro _;rfl) | (intro h;exact absurd h (by decide +kernel))
 by_cases q:w∈l
 ·rw[Hv q,Hv (HN.mpr ⟨w,q,rfl⟩)]
 ·rw[Hs q,Hs λz=>q (by
   obtain⟨y,hy,e⟩:=HN.mp z;rw[inj _ _ e.symm];exact hy)]
theorem jq(mk:Option Nat)(g:Nat)(S:Sto):b7 .Eq (oD mk) (.int (g:Int)) S=.ok (.bl (decide (mk=some g))) S:=by
 cases mk with
 | none=>rfl
 | some h=>
  show R.ok (D.bl (decide ((h:Int)=(g:Int)))) S=_;congr 2;by_cases q:h=g
  ·subst q;rw[Hv rfl,Hv rfl]
  ·rw[Hs (by omega),Hs (λz=>q (by cases z;rfl))]
theorem xL{i:Nat}(h:i<ws.length):ws[i]?=some (wAt ws i):=by unfold wAt;rw[IF,Hi h];rfl
def Wn(w v:Str):Prop:=∀S,b7 .Eq (.str w) (.str v) S=.ok (.bl false) S
def Wy(w:Str):Prop:=∀S,b7 .Eq (.str w) (.str w) S=.ok (.bl true) S
section
variable {mk:Option Nat}{cl:Bool}{ws:List Wo}{hs:List Nat}{w:Str}{xs:List D}{k:Nat}{S:Sto}{Q:D->Sto->Prop}
def sE(mk:Option Nat)(cl:Bool)(ws:List Wo)(hs:List Nat)(w:Str)(xs:List D):L3.Env:=[some (.tup (.str w::xs)),some (dec mk cl ws),some (.tup (hs.map nN)),some (oD mk),some (.bl cl),some (.tup (ws.map Wo.d)),some (.str w)]
def sT(k j:Nat)(e:L3.Env):M D:=nxt (evK Rs Γ (rn k) 40) A2 (([nth says_F.body 2,nth says_F.body 3,nth says_F.body 4,nth says_F.body 5,nth says_F.body 6,nth says_F.body 7,nth says_F.body 8]:List Stmt).drop j) endD (.nx e)
theorem aY(h:Ok (sT k 0 (sE mk cl ws hs w xs)) S Q):Ok (rn (k+1) cv [.tup (.str w::xs),dec mk cl ws,.tup (hs.map nN)]) S Q:=by
 rw[rn,b8 rfl,sU,pr];exact Ok.first<|Ok.cg (Aw ..)<|Ok.eq rfl<|Ok.nxt<|Ok.cg (AH ..)<|(Ok.eq (i7 S rfl) (by exact h))
theorem sk2(n:Wn w "at") (h:Ok (sT k 1 (sE mk cl ws hs w xs)) S Q):Ok (sT k 0 (sE mk cl ws hs w xs)) S Q:=Ok.nxt<|Ok.cg (pi ..)<|Ok.eq (n S)<|Ok.eq rfl<|Ok.neg (by decide) h
theorem sk3(n:Wn w "mark") (h:Ok (sT k 2 (sE mk cl ws hs w xs)) S Q):Ok (sT k 1 (sE mk cl ws hs w xs)) S Q:=Ok.nxt<|Ok.cg (pf ..)<|Ok.eq (n S)<|Ok.eq rfl<|Ok.neg (by decide) h
theorem sk4(n:Wn w "free") (h:Ok (sT k 3 (sE mk cl ws hs w xs)) S Q):Ok (sT k 2 (sE mk cl ws hs w xs)) S Q:=Ok.nxt<|Ok.cg (pQ ..)<|Ok.eq (n S)<|Ok.eq rfl<|Ok.neg (by decide) h
theorem sk5(n:Wn w "closed") (h:Ok (sT k 4 (sE mk cl ws hs w xs)) S Q):Ok (sT k 3 (sE mk cl ws hs w xs)) S Q:=Ok.nxt<|Ok.cg (qI ..)<|Ok.eq (n S)<|Ok.eq rfl<|Ok.neg (by decide) h
theorem sk6(n:Wn w "not") (h:Ok (sT k 5 (sE mk cl ws hs w xs)) S Q):Ok (sT k 4 (sE mk cl ws hs w xs)) S Q:=Ok.nxt<|Ok.cg (pM ..)<|Ok.eq (n S)<|Ok.eq rfl<|Ok.neg (by decide) h
theorem sk7(n:Wn w "both") (h:Ok (sT k 6 (sE mk cl ws hs w xs)) S Q):Ok (sT k 5 (sE mk cl ws hs w xs)) S Q:=Ok.nxt<|Ok.cg (rc ..)<|Ok.eq (n S)<|Ok.eq rfl<|Ok.neg (by decide) h
end
theorem cL:Wn "mark" "at":=λS=>by kernel_rfl
theorem cQ:Wn "free" "at":=λS=>by kernel_rfl
theorem fE:Wn "free" "mark":=λS=>by kernel_rfl
theorem X4:Wn "closed" "at":=λS=>by kernel_rfl
theorem bS:Wn "closed" "mark":=λS=>by kernel_rfl
theorem bT:Wn "closed" "free":=λS=>by kernel_rfl
theorem fq:Wn "not" "at":=λS=>by kernel_rfl
theorem iK:Wn "not" "mark":=λS=>by kernel_rfl
theorem gW:Wn "not" "free":=λS=>by kernel_rfl
theorem R1:Wn "not" "closed":=λS=>by kernel_rfl
theorem cJ:Wn "both" "at":=λS=>by kernel_rfl
theorem gD:Wn "both" "mark":=λS=>by kernel_rfl
theorem fX:Wn "both" "free":=λS=>by kernel_rfl
theorem N0:Wn "both" "closed":=λS=>by kernel_rfl
theorem aH:Wn "both" "not":=λS=>by kernel_rfl
theorem X5:Wn "either" "at":=λS=>by kernel_rfl
theorem bQ:Wn "either" "mark":=λS=>by kernel_rfl
theorem bW:Wn "either" "free":=λS=>by kernel_rfl
theorem E8:Wn "either" "closed":=λS=>by kernel_rfl
theorem T5:Wn "either" "not":=λS=>by kernel_rfl
theorem M8:Wn "either" "both":=λS=>by kernel_rfl
theorem De:Wy "at":=λS=>by kernel_rfl
theorem AM:Wy "mark":=λS=>by kernel_rfl
theorem qO:Wy "free":=λS=>by kernel_rfl
theorem eA:Wy "closed":=λS=>by kernel_rfl
theorem xh:Wy "not":=λS=>by kernel_rfl
theorem nc:Wy "both":=λS=>by kernel_rfl
theorem vL{hs:List Nat}(hh:∀h∈hs,h<ws.length)(S:Sto):∀(f:Fm)(k:Nat),f.vs hs.length->f.h<=k->rn k cv [f.d,dec mk cl ws,.tup (hs.map nN)] S=.ok (.bl (f.so mk cl ws hs)) S:=by
 intro f;have hv:∀v,v<hs.length->(hs.map nN)[v]?=some (.int ((hs.getD v 0:Nat):Int))/\(ws.map Wo.d)[hs.getD v 0]?=some (wAt ws (hs.getD v 0)).d:=λv hv=>by
  have e:hs[v]?=some (hs.getD v 0):=by rw[IF,Hi hv];rfl
  exact⟨w9 e,w9 (xL (hh _ (HE e)))⟩
 induction f with
 | at_ v l=>
  intro k vs hk;obtain⟨k,rfl⟩:∃j,k=j+1:=⟨k-1,by have:1<=k:=hk;omega⟩;obtain⟨h1,h2⟩:=hv v vs;refine i4 ?_;refine aY ?_;exact Ok.nxt<|Ok.cg (pi ..)<|Ok.eq (De S)<|Ok.eq rfl<|Ok.pos rfl<|Ok.eq (i7 S rfl)<|Ok.eq (i7 S h1)<|Ok.eq (i7 S h2)<|Ok.eq (i7 S rfl)<|Ok.eq (in7 _ l S)<|Ok.ret ⟨rfl,rfl⟩
 | mark v=>
  intro k vs hk;obtain⟨k,rfl⟩:∃j,k=j+1:=⟨k-1,by have:1<=k:=hk;omega⟩;obtain⟨h1,h2⟩:=hv v vs;refine i4 ?_;refine aY<|sk2 cL ?_;exact Ok.nxt<|Ok.cg (pf ..)<|Ok.eq (AM S)<|Ok.eq rfl<|Ok.pos rfl<|Ok.eq (i7 S rfl)<|Ok.eq (i7 S h1)<|Ok.eq (jq mk _ S)<|Ok.ret ⟨rfl,rfl⟩
 | free=>
  intro k vs hk;obtain⟨k,rfl⟩:∃j,k=j+1:=⟨k-1,by have:1<=k:=hk;omega⟩;have e:b7 .Is (oD mk) .non S=.ok (.bl mk.isNone) S:=by cases mk <;> rfl
  refine i4 ?_;refine aY<|sk2 cQ<|sk3 fE ?_;exact Ok.nxt<|Ok.cg (pQ ..)<|Ok.eq (qO S)<|Ok.eq rfl<|Ok.pos rfl<|Ok.eq e<|Ok.ret ⟨rfl,rfl⟩
 | closed=>
  intro k vs hk;obtain⟨k,rfl⟩:∃j,k=j+1:=⟨k-1,by have:1<=k:=hk;omega⟩;refine i4 ?_;refine aY<|sk2 X4<|sk3 bS<|sk4 bT ?_;exact Ok.nxt<|Ok.cg (qI ..)<|Ok.eq (eA S)<|Ok.eq rfl<|Ok.pos rfl<|Ok.ret ⟨rfl,rfl⟩
 | no f ih=>
  intro k vs hk;obtain⟨k,rfl⟩:∃j,k=j+1:=⟨k-1,by have:f.h+1<=k:=hk;omega⟩;have a:=ih k vs (by have:f.h+1<=k+1:=hk;omega);refine i4 ?_;refine aY<|sk2 fq<|sk3 iK<|sk4 gW<|sk5 R1 ?_;exact Ok.nxt<|Ok.cg (pM ..)<|Ok.eq (xh S)<|Ok.eq rfl<|Ok.pos rfl<|Ok.eq (i7 S rfl)<|Ok.eq a<|Ok.eq rfl<|Ok.ret ⟨rfl,rfl⟩
 | both f g ihf ihg=>
  intro k vs hk;have hk:max f.h g.h+1<=k:=hk;obtain⟨k,rfl⟩:∃j,k=j+1:=⟨k-1,by omega⟩;have a:=ihf k vs.1 (by omega);have b:=ihg k vs.2 (by omega);refine i4 ?_;refine aY<|sk2 cJ<|sk3 gD<|sk4 fX<|sk5 N0<|sk6 aH ?_;refine Ok.nxt<|Ok.cg (rc ..)<|Ok.eq (nc S)<|Ok.eq rfl<|Ok.pos rfl<|Ok.eq (i7 S rfl)<|Ok.eq a<|Ok.eq rfl ?_;show Ok _ S λd S'=>d=D.bl (f.so mk cl ws hs&&g.so mk cl ws hs)/\S'=S;cases f.so mk cl ws hs with
  | true=>exact Ok.pos rfl<|Ok.eq (i7 S rfl)<|Ok.eq b<|Ok.ret ⟨rfl,rfl⟩
  | false=>exact Ok.neg (by decide)<|Ok.ret ⟨rfl,rfl⟩
 | either f g ihf ihg=>
  intro k vs hk;have hk:max f.h g.h+1<=k:=hk;obtain⟨k,rfl⟩:∃j,k=j+1:=⟨k-1,by omega⟩;have a:=ihf k vs.1 (by omega);have b:=ihg k vs.2 (by omega);refine i4 ?_;refine aY<|sk2 X5<|sk3 bQ<|sk4 bW<|sk5 E8<|sk6 T5<|sk7 M8 ?_;refine Ok.nxt<|Ok.cg (yw ..)<|Ok.eq (i7 S rfl)<|Ok.eq a<|Ok.eq rfl ?_;show Ok _ S λd S'=>d=D.bl (f.so mk cl ws hs||g.so mk cl ws hs)/\S'=S;cases f.so mk cl ws hs with
  | true=>exact Ok.pos rfl<|Ok.ret ⟨rfl,rfl⟩
  | false=>exact Ok.neg (by decide)<|Ok.eq (i7 S rfl)<|Ok.eq b<|Ok.ret ⟨rfl,rfl⟩
def hD(hs:List Nat):D:=.tup (hs.map nN)
def nsD(l:List (List Nat)):D:=.lst (l.map hD)
def bZ(n:Nat):List (List Nat):=(List.range n).map λi=>[i]
def aq(n:Nat):List (List Nat):=(List.range n).flatMap λi=>((List.range n).filter λj=>decide (i≠j)).map λj=>[i,j]
theorem wo{n:Nat}(h:n<=5)(k:Nat)(S:Sto):rn (k+1) fG [.str "each",.int (n:Int)] S=.ok (nsD (bZ n)) S:=by
 rw[rn,b8 rfl,cq];have:n=0\/n=1\/n=2\/n=3\/n=4\/n=5:=by omega
 rcases this with rfl | rfl | rfl | rfl | rfl | rfl <;> kernel_rfl
theorem wG{n:Nat}(h:n<=5)(k:Nat)(S:Sto):rn (k+1) fG [.str "some",.int (n:Int)] S=.ok (nsD (bZ n)) S:=by
 rw[rn,b8 rfl,cq];have:n=0\/n=1\/n=2\/n=3\/n=4\/n=5:=by omega
 rcases this with rfl | rfl | rfl | rfl | rfl | rfl <;> kernel_rfl
theorem vN{n:Nat}(h:n<=5)(k:Nat)(S:Sto):rn (k+1) fG [.str "pairs",.int (n:Int)] S=.ok (nsD (aq n)) S:=by
 rw[rn,b8 rfl,cq];have:n=0\/n=1\/n=2\/n=3\/n=4\/n=5:=by omega
 rcases this with rfl | rfl | rfl | rfl | rfl | rfl <;> kernel_rfl
theorem ja(h:hs∈bZ n):∃i,i<n/\hs=[i]:=by
 obtain⟨i,hi,rfl⟩:=HN.mp h;exact⟨i,Ij.mp hi,rfl⟩
theorem nX(h:hs∈aq n):∃i j,i<n/\j<n/\i≠j/\hs=[i,j]:=by
 obtain⟨i,hi,h⟩:=IZ.mp h;obtain⟨j,hj,rfl⟩:=HN.mp h;obtain⟨a,b⟩:=JB.mp hj;exact⟨i,j,Ij.mp hi,Ij.mp a,HR b,rfl⟩
theorem GK(h:n<=5):(bZ n).length<=25/\(aq n).length<=25:=by
 have:n=0\/n=1\/n=2\/n=3\/n=4\/n=5:=by omega
 rcases this with rfl | rfl | rfl | rfl | rfl | rfl <;> decide +kernel
theorem CV{w:Str}{q:Bool}{f:Fm}{b:List (List Nat)}{n k:Nat}{S:Sto}(m:b7 .Eq (.str w) (.str "some") S=.ok (.bl q) S) (j:rn (k+1) fG [.str w,.int (ws.length:Int)] S=.ok (nsD b) S) (r:b.length<=25) (hs:∀hs∈b,hs.length=n/\∀i∈hs,i<ws.length) (o:f.vs n) (p:f.h<=k+1):rn (k+2) qW [dec mk cl ws,.tup [.str w,f.d]] S=.ok (.bl (if q=true then b.any (λhs=>f.so mk cl ws hs)else b.all λhs=>f.so mk cl ws hs)) S:=by
 refine i4 ?_;rw[rn,b8 rfl,tE,wL];have g:J0 (.tup (ws.map Wo.d)) S=.ok (.int (ws.length:Int)) S:=(A8 _ S).trans (by rw[Hc]);have c:=k5 (l:=b) (t:=λ_=>ret true) (f:=λh=>bind (rn (k+1) cv [f.d,dec mk cl ws,h]) λx6=>ret x6) (by rw[HB];omega) (λ_ _=>rfl) (λa d _=>by
  obtain⟨e,i⟩:=hs a d;exact a8 (vL i S f (k+1) (by rw[e];exact o) p))
 rw[JT.mpr (λ_ _=>rfl),show(b.map λhs=>D.bl (f.so mk cl ws hs))=(b.map λhs=>f.so mk cl ws hs).map D.bl by rw[Jm];rfl]at c;refine Ok.first<|Ok.cg (Dm ..)<|Ok.eq rfl ?_;refine Ok.nxt<|Ok.cg (Ek ..)<|nx_bind<|Ok.eq (i7 S rfl)<|Ok.eq g<|Ok.eq j<|Ok.eq rfl ?_;rw[Hc];refine Ok.of c ?_;refine Ok.nxt<|Ok.cg (Dg ..)<|Ok.eq m<|Ok.eq (i8 _ _) ?_;cases q with
 | true=>
  refine Ok.pos rfl<|Ok.eq (L3.any_ok _ S)<|Ok.ret ⟨?_,rfl⟩;rw[Ly];rfl
 | false=>
  refine Ok.neg (by decide)<|Ok.eq (L3.all_ok _ S)<|Ok.ret ⟨?_,rfl⟩;rw[KH];rfl
inductive Sw where
 | each | some_ | pairs | plain
deriving DecidableEq
def Sw.s:Sw->Str
 | .each=>"each"
 | .some_=>"some"
 | .pairs=>"pairs"
 | .plain=>"plain"
def Sw.n:Sw->Nat
 | .each=>1
 | .some_=>1
 | .pairs=>2
 | .plain=>0
structure Sen where
 w:Sw
 f:Fm
def Sen.d(q:Sen):D:=.tup [.str q.w.s,q.f.d]
structure SOk(q:Sen):Prop where
 v:q.f.vs q.w.n
 h:q.f.h<=8
theorem DN(h:w∈wds):∃o:Wo,w=o.s:=by
 rcases Ho.mp h with rfl | h
 ·exact⟨.out,rfl⟩
 rcases Ho.mp h with rfl | h
 ·exact⟨.ask,rfl⟩
 rcases Ho.mp h with rfl | h
 ·exact⟨.close,rfl⟩
 rcases Ho.mp h with rfl | h
 ·exact⟨.look,rfl⟩
 rcases Ho.mp h with rfl | h
 ·exact⟨.holds,rfl⟩
 rcases Ho.mp h with rfl | h
 ·exact⟨.right,rfl⟩
 rcases Ho.mp h with rfl | h
 ·exact⟨.down,rfl⟩
 cases h
theorem nt:∀{ws:List Str},(∀w∈ws,w∈wds)->∃l:List Wo,ws.map D.str=l.map Wo.d
 | [],_=>⟨[],rfl⟩
 | w::ws,h=>by
  obtain⟨o,e⟩:=DN (h w Hf);obtain⟨l,b⟩:=nt λx a=>h x (Hh _ a);exact⟨o::l,by rw[Ht,Ht,b,e];rfl⟩
theorem rq(h:wOk d=true):∃l:List Wo,d=.tup (l.map Wo.d):=by
 unfold wOk at h;split at h
 ·split at h
  ·rename_i ds _ ws e;rw[Gz,HL]at h;obtain⟨l,b⟩:=nt λw a=>HR (h.1 w a);exact⟨l,by rw[ak e,b]⟩
  ·cases h
 ·cases h
theorem sX(hv:∀i∈hs,∃v:Nat,i=(v:Int)/\v<n){d:D}(h:one hs d=true):∃v:Nat,d=.int (v:Int)/\v<n:=by
 unfold one at h;split at h
 ·obtain⟨v,e,l⟩:=hv _ (HR h);exact⟨v,by rw[e],l⟩
 ·cases h
theorem y8(h:F5 a b=some m):∃x y,a=some x/\b=some y:=by
 cases a with
 | none=>cases h
 | some x=>cases b with
  | none=>cases h
  | some y=>exact⟨x,y,rfl,rfl⟩
theorem yJ(hv:∀i∈hs,∃v:Nat,i=(v:Int)/\v<n):∀(fu:Nat)(d:D)(m:Nat),sN hs fu d=some m->∃f:Fm,d=f.d/\f.h<=fu/\f.vs n
 | 0,_,_,h=>by cases h
 | fu+1,d,m,h=>by
  have ih:=yJ hv fu;rw[sN]at h;by_cases hb:A9 hs d=true
  ·rw[if_pos hb]at h;obtain⟨_,y,_,hs2⟩:=y8 h;clear h;unfold A9 at hb;split at hb
   ·rename_i w ds;rw[Gz]at hb;obtain⟨h1,h2⟩:=hb;have h1:=HR h1;refine jS (P:=λw=>ln (sN hs fu) (U8 (.tup (.str w::ds)))=some y->iC w=some (ds.length+1)->(if w = "at" then one hs (ds.getD 0 .non)&&wOk (ds.getD 1 .non)else if w = "mark" then one hs (ds.getD 0 .non)else true)=true->∃f:Fm,D.tup (.str w::ds)=f.d/\f.h<=fu+1/\f.vs n) ?_ ?_ ?_ ?_ ?_ ?_ ?_ ?_ w hs2 h1 h2
    ·intro _ h1 h2;have h1:(3:Nat)=ds.length+1:=by injection h1
     match ds,h1 with
     | [a,b],_=>
      rw[if_pos rfl,Gz]at h2;obtain⟨v,e,l⟩:=sX hv h2.1;obtain⟨ws,e2⟩:=rq h2.2;have e:a=.int (v:Int):=e;have e2:b=.tup (ws.map Wo.d):=e2;exact⟨.at_ v ws,by rw[e,e2];rfl,Ja (HY _),l⟩
    ·intro _ h1 h2;have h1:(2:Nat)=ds.length+1:=by injection h1
     match ds,h1 with
     | [a],_=>
      rw[if_neg (by decide +kernel),if_pos rfl]at h2;obtain⟨v,e,l⟩:=sX hv h2;have e:a=.int (v:Int):=e;exact⟨.mark v,by rw[e];rfl,Ja (HY _),l⟩
    ·intro _ h1 h2;have h1:(1:Nat)=ds.length+1:=by injection h1
     match ds,h1 with
     | [],_=>exact⟨.free,rfl,Ja (HY _),True.intro⟩
    ·intro _ h1 h2;have h1:(1:Nat)=ds.length+1:=by injection h1
     match ds,h1 with
     | [],_=>exact⟨.closed,rfl,Ja (HY _),True.intro⟩
    ·intro h0 h1 h2;have h1:(2:Nat)=ds.length+1:=by injection h1
     match ds,h1 with
     | [a],_=>
      obtain⟨x,_,e1,_⟩:=y8 (h0);obtain⟨f,e,l,v⟩:=ih a x e1;exact⟨.no f,by rw[e];rfl,Ja l,v⟩
    ·intro h0 h1 h2;have h1:(3:Nat)=ds.length+1:=by injection h1
     match ds,h1 with
     | [a,b],_=>
      obtain⟨x,z,e1,e2⟩:=y8 (h0);obtain⟨x2,_,e2,_⟩:=y8 e2;obtain⟨f,e,l,v⟩:=ih a x e1;obtain⟨g,e3,l3,v3⟩:=ih b x2 e2;exact⟨.both f g,by rw[e,e3];rfl,Ja (Nat.max_le.mpr ⟨l,l3⟩),v,v3⟩
    ·intro h0 h1 h2;have h1:(3:Nat)=ds.length+1:=by injection h1
     match ds,h1 with
     | [a,b],_=>
      obtain⟨x,z,e1,e2⟩:=y8 (h0);obtain⟨x2,_,e2,_⟩:=y8 e2;obtain⟨f,e,l,v⟩:=ih a x e1;obtain⟨g,e3,l3,v3⟩:=ih b x2 e2;exact⟨.either f g,by rw[e,e3];rfl,Ja (Nat.max_le.mpr ⟨l,l3⟩),v,v3⟩
    ·intro w a1 a2 a3 a4 a5 a6 a7 _ h1 _;unfold iC at h1;rw[if_neg a1,if_neg a2,if_neg a3,if_neg a4,if_neg a5,if_neg a6,if_neg a7]at h1;cases h1
   ·cases hb
  ·rw[if_neg hb]at h;cases h
theorem AF(h:aP d=true):∃q:Sen,d=q.d/\SOk q:=by
 unfold aP at h;split at h
 ·rename_i w x;revert h;have b:∀(u:Sw)(hs:List Int),cy u.s=some hs->(∀i∈hs,∃v:Nat,i=(v:Int)/\v<u.n)->(match cy u.s with
    | some hs=>few 0 (sN hs 8 x)
    | none=>false)=true->∃q:Sen,D.tup [.str u.s,x]=q.d/\SOk q:=λu hs e n h=>by
   rw[e]at h;dsimp only at h;cases c:sN hs 8 x with
   | none=>rw[c]at h;cases h
   | some m=>
    obtain⟨f,g,l,v⟩:=yJ n 8 x m c;exact⟨⟨u,f⟩,by rw[g];rfl,v,l⟩
  refine il (P:=λw=>(match cy w with
    | some hs=>few 0 (sN hs 8 x)
    | none=>false)=true->∃q:Sen,D.tup [.str w,x]=q.d/\SOk q) ?_ ?_ ?_ ?_ ?_ w
  ·exact b .each [0] rfl λi a=>⟨0,by simpa using a,Nat.zero_lt_one⟩
  ·exact b .some_ [0] rfl λi a=>⟨0,by simpa using a,Nat.zero_lt_one⟩
  ·refine b .pairs [0,1] rfl λi a=>?_;rcases Ho.mp a with rfl | a
   ·exact⟨0,rfl,Nat.zero_lt_two⟩
   ·exact⟨1,by simpa using a,Nat.one_lt_two⟩
  ·exact b .plain [] rfl λi a=>by cases a
  ·intro w k p o j h;rw[jZ k p o j]at h;cases h
 ·cases h
def hm(w:Sw)(n:Nat):List (List Nat):=match w with
 | .plain=>[[]]
 | .pairs=>aq n
 | _=>bZ n
def Sen.so(q:Sen)(s:Dst):Bool:=if decide (q.w=.some_)=true then (hm q.w s.ws.length).any (λhs=>q.f.so s.ma s.cl s.ws hs)else (hm q.w s.ws.length).all λhs=>q.f.so s.ma s.cl s.ws hs
theorem nM(w:Sw){n:Nat}(h:n<=3)(k:Nat)(S:Sto):rn (k+1) fG [.str w.s,.int (n:Int)] S=.ok (nsD (hm w n)) S:=by
 cases w with
 | each=>exact wo (by omega) k S
 | some_=>exact wG (by omega) k S
 | pairs=>exact vN (by omega) k S
 | plain=>
  rw[rn,b8 rfl,cq];kernel_rfl
theorem xk:∀hs∈hm w n,hs.length=w.n/\∀i∈hs,i<n:=λhs h=>by
 cases w with
 | plain=>
  cases Hm.mp h;exact⟨rfl,λi hi=>by cases hi⟩
 | pairs=>
  obtain⟨i,j,hi,hj,_,rfl⟩:=nX h;refine⟨rfl,λx hx=>?_⟩;rcases Ho.mp hx with rfl | hx
  ·exact hi
  ·rw[Hm.mp hx];exact hj
 | each=>
  obtain⟨i,hi,rfl⟩:=ja h;exact⟨rfl,λx hx=>by rw[Hm.mp hx];exact hi⟩
 | some_=>
  obtain⟨i,hi,rfl⟩:=ja h;exact⟨rfl,λx hx=>by rw[Hm.mp hx];exact hi⟩
theorem oU(w:Sw){n:Nat}(h:n<=3):(hm w n).length<=25:=by
 have:=GK (n:=n) (by omega);cases w with
 | plain=>exact HQ rfl
 | pairs=>exact this.2
 | each=>exact this.1
 | some_=>exact this.1
theorem wx(a:SOk q){s:Dst}(b:s.ws.length<=3)(k:Nat)(S:Sto):rn (k+9) qW [s.d,q.d] S=.ok (.bl (q.so s)) S:=
 CV (by cases q with | mk w f=>cases w <;> kernel_rfl) (nM q.w b _ S) (oU q.w b) xk a.v (HJ a.h (Nat.le_add_left 8 k))
theorem fF(S:Sto):b7 .In (.str "mark") (.tup [(.str "mark"),(.str "free")]) S=.ok (.bl true) S/\b7 .In (.str "free") (.tup [(.str "mark"),(.str "free")]) S=.ok (.bl true) S:=by constructor <;> kernel_rfl
theorem kR(S:Sto):b7 .In (.str "closed") (.tup [(.str "mark"),(.str "free")]) S=.ok (.bl false) S/\b7 .In (.str "not") (.tup [(.str "mark"),(.str "free")]) S=.ok (.bl false) S/\b7 .In (.str "both") (.tup [(.str "mark"),(.str "free")]) S=.ok (.bl false) S/\b7 .In (.str "either") (.tup [(.str "mark"),(.str "free")]) S=.ok (.bl false) S:=by refine⟨?_,?_,?_,?_⟩ <;> kernel_rfl
theorem xr(a b:Bool)(S:Sto):b7 .In (.bl true) (.lst [.bl a,.bl b]) S=.ok (.bl (a||b)) S/\b7 .NotIn (.bl false) (.lst [.bl a,.bl b]) S=.ok (.bl (a&&b)) S:=by cases a <;> cases b <;> constructor <;> kernel_rfl
theorem BM{hs:List Nat}(hh:∀h∈hs,h<ws.length)(S:Sto):∀(f:Fm)(k:Nat),f.vs hs.length->f.h<=k->rn k bH [f.d,dec mk cl ws,.tup (hs.map nN)] S=.ok (.bl (f.so mk cl ws hs)) S:=by
 intro f;have hv:∀v,v<hs.length->(hs.map nN)[v]?=some (.int ((hs.getD v 0:Nat):Int))/\(ws.map Wo.d)[hs.getD v 0]?=some (wAt ws (hs.getD v 0)).d:=λv hv=>by
  have e:hs[v]?=some (hs.getD v 0):=by rw[IF,Hi hv];rfl
  exact⟨w9 e,w9 (xL (hh _ (HE e)))⟩
 induction f with
 | at_ v l=>
  intro k vs hk;obtain⟨k,rfl⟩:∃j,k=j+1:=⟨k-1,by have:1<=k:=hk;omega⟩;obtain⟨h1,h2⟩:=hv v vs;refine i4 ?_;rw[rn,b8 rfl,E2];exact Ok.eq (i7 S rfl)<|Ok.eq (De S)<|Ok.eq rfl<|Ok.pos rfl<|Ok.eq (i7 S rfl)<|Ok.eq (i7 S rfl)<|Ok.eq (i7 S h1)<|Ok.eq (i7 S h2)<|Ok.eq (i7 S rfl)<|Ok.eq (in7 _ l S)<|Ok.ret ⟨rfl,rfl⟩
 | mark v=>
  intro k vs hk;obtain⟨k,rfl⟩:∃j,k=j+1:=⟨k-1,by have:1<=k:=hk;omega⟩;obtain⟨h1,h2⟩:=hv v vs;refine i4 ?_;rw[rn,b8 rfl,E2];refine Ok.eq (i7 S rfl)<|Ok.eq (cL S)<|Ok.eq rfl<|Ok.neg (by decide)<|Ok.eq (fF S).1<|Ok.eq rfl<|Ok.pos rfl<|Ok.eq (show b7 .Eq (.str "mark") (.str "free") S=.ok (.bl false) S by kernel_rfl)<|Ok.eq rfl<|Ok.neg (by decide)<|Ok.eq (i7 S rfl) ?_;cases mk with
  | none=>exact Ok.eq rfl<|Ok.eq rfl<|Ok.neg (by decide)<|Ok.ret ⟨rfl,rfl⟩
  | some g=>exact Ok.eq rfl<|Ok.eq rfl<|Ok.pos rfl<|Ok.eq (i7 S rfl)<|Ok.eq (i7 S rfl)<|Ok.eq (i7 S h1)<|Ok.eq (jq (some g) _ S)<|Ok.ret ⟨rfl,rfl⟩
 | free=>
  intro k vs hk;obtain⟨k,rfl⟩:∃j,k=j+1:=⟨k-1,by have:1<=k:=hk;omega⟩;have e:b7 .Is (oD mk) .non S=.ok (.bl mk.isNone) S:=by cases mk <;> rfl
  refine i4 ?_;rw[rn,b8 rfl,E2];exact Ok.eq (i7 S rfl)<|Ok.eq (cQ S)<|Ok.eq rfl<|Ok.neg (by decide)<|Ok.eq (fF S).2<|Ok.eq rfl<|Ok.pos rfl<|Ok.eq (qO S)<|Ok.eq rfl<|Ok.pos rfl<|Ok.eq (i7 S rfl)<|Ok.eq e<|Ok.ret ⟨rfl,rfl⟩
 | closed=>
  intro k vs hk;obtain⟨k,rfl⟩:∃j,k=j+1:=⟨k-1,by have:1<=k:=hk;omega⟩;refine i4 ?_;rw[rn,b8 rfl,E2];exact Ok.eq (i7 S rfl)<|Ok.eq (X4 S)<|Ok.eq rfl<|Ok.neg (by decide)<|Ok.eq (kR S).1<|Ok.eq rfl<|Ok.neg (by decide)<|Ok.eq (eA S)<|Ok.eq rfl<|Ok.pos rfl<|Ok.eq (i7 S rfl)<|Ok.ret ⟨rfl,rfl⟩
 | no f ih=>
  intro k vs hk;obtain⟨k,rfl⟩:∃j,k=j+1:=⟨k-1,by have:f.h+1<=k:=hk;omega⟩;have a:=ih k vs (by have:f.h+1<=k+1:=hk;omega);have c:=k5 (l:=[f]) (g:=λf=>D.bl (f.so mk cl ws hs)) (t:=λ_=>ret true) (f:=λd1=>bind (rn k bH [d1,dec mk cl ws,.tup (hs.map nN)]) λx6=>ret x6) (by rw[HB];exact HQ rfl) (λ_ _=>rfl) (λx hx _=>by
   rw[Hm.mp hx];exact a8 a)
  refine i4 ?_;rw[rn,b8 rfl,E2];refine Ok.eq (i7 S rfl)<|Ok.eq (fq S)<|Ok.eq rfl<|Ok.neg (by decide)<|Ok.eq (kR S).2.1<|Ok.eq rfl<|Ok.neg (by decide)<|Ok.eq (R1 S)<|Ok.eq rfl<|Ok.neg (by decide)<|nx_bind<|Ok.eq rfl<|Ok.eq rfl<|Ok.of c ?_;exact Ok.eq (xh S)<|Ok.eq rfl<|Ok.pos rfl<|Ok.eq rfl<|Ok.eq rfl<|Ok.ret ⟨rfl,rfl⟩
 | both f g ihf ihg=>
  intro k vs hk;have hk:max f.h g.h+1<=k:=hk;obtain⟨k,rfl⟩:∃j,k=j+1:=⟨k-1,by omega⟩;have a:=ihf k vs.1 (by omega);have b:=ihg k vs.2 (by omega);have c:=k5 (l:=[f,g]) (g:=λf=>D.bl (f.so mk cl ws hs)) (t:=λ_=>ret true) (f:=λd1=>bind (rn k bH [d1,dec mk cl ws,.tup (hs.map nN)]) λx6=>ret x6) (by rw[HB];exact HQ rfl) (λ_ _=>rfl) (λx hx _=>by
   rcases Ho.mp hx with rfl | hx
   ·exact a8 a
   ·rw[Hm.mp hx];exact a8 b)
  refine i4 ?_;rw[rn,b8 rfl,E2];refine Ok.eq (i7 S rfl)<|Ok.eq (cJ S)<|Ok.eq rfl<|Ok.neg (by decide)<|Ok.eq (kR S).2.2.1<|Ok.eq rfl<|Ok.neg (by decide)<|Ok.eq (N0 S)<|Ok.eq rfl<|Ok.neg (by decide)<|nx_bind<|Ok.eq rfl<|Ok.eq rfl<|Ok.of c ?_;exact Ok.eq (aH S)<|Ok.eq rfl<|Ok.neg (by decide)<|Ok.eq (nc S)<|Ok.eq rfl<|Ok.pos rfl<|Ok.eq (xr _ _ S).2<|Ok.ret ⟨rfl,rfl⟩
 | either f g ihf ihg=>
  intro k vs hk;have hk:max f.h g.h+1<=k:=hk;obtain⟨k,rfl⟩:∃j,k=j+1:=⟨k-1,by omega⟩;have a:=ihf k vs.1 (by omega);have b:=ihg k vs.2 (by omega);have c:=k5 (l:=[f,g]) (g:=λf=>D.bl (f.so mk cl ws hs)) (t:=λ_=>ret true) (f:=λd1=>bind (rn k bH [d1,dec mk cl ws,.tup (hs.map nN)]) λx6=>ret x6) (by rw[HB];exact HQ rfl) (λ_ _=>rfl) (λx hx _=>by
   rcases Ho.mp hx with rfl | hx
   ·exact a8 a
   ·rw[Hm.mp hx];exact a8 b)
  refine i4 ?_;rw[rn,b8 rfl,E2];refine Ok.eq (i7 S rfl)<|Ok.eq (X5 S)<|Ok.eq rfl<|Ok.neg (by decide)<|Ok.eq (kR S).2.2.2<|Ok.eq rfl<|Ok.neg (by decide)<|Ok.eq (E8 S)<|Ok.eq rfl<|Ok.neg (by decide)<|nx_bind<|Ok.eq rfl<|Ok.eq rfl<|Ok.of c ?_;exact Ok.eq (T5 S)<|Ok.eq rfl<|Ok.neg (by decide)<|Ok.eq (M8 S)<|Ok.eq rfl<|Ok.neg (by decide)<|Ok.eq (xr _ _ S).1<|Ok.ret ⟨rfl,rfl⟩
theorem vY{n:Nat}(h:n<=3)(S:Sto):(bind (u7 [.int (n:Int)]) λa=>i5 a.1 (λb=>ret true) (λb=>ret (.tup [b])) a.2 0 []) S=.ok ((bZ n).map hD) S:=by
 have:n=0\/n=1\/n=2\/n=3:=by omega
 rcases this with rfl | rfl | rfl | rfl <;> kernel_rfl
theorem wn{n:Nat}(h:n<=3)(S:Sto):(bind (L0 (.int (n:Int)) (.int (n:Int))) λx5=>bind (u7 [x5]) λb=>i5 b.1 (λa=>bind (E7 a (.int (n:Int))) λx7=>bind (O5 a (.int (n:Int))) λx8=>bind (b7 .NotEq x7 x8) λf=>bind (asB f) λc=>ret c) (λa=>bind (E7 a (.int (n:Int))) λe=>bind (O5 a (.int (n:Int))) λd=>ret (.tup [e,d])) b.2 0 []) S=.ok ((aq n).map hD) S:=by
 have:n=0\/n=1\/n=2\/n=3:=by omega
 rcases this with rfl | rfl | rfl | rfl <;> kernel_rfl
theorem jY(k:Nat)(S:Sto):∀a:List Bool,e9 (j7 (k+1) S) (a.map D.bl)=some (a.map PyData.bool)
 | []=>rfl
 | b::a=>by
  show e9 (j7 (k+1) S) (D.bl b::a.map D.bl)=_;simp only[e9,jY k S a];rfl
theorem iV:∀a:List Bool,PyData.canLayAll0 (a.map PyData.bool)=true
 | []=>rfl
 | b::a=>by simp only[Ht,PyData.canLayAll0,PyData.canLay0,iV a,Le]
theorem gX:∀a:List Bool,PyData.depthAll (a.map PyData.bool)=0
 | []=>rfl
 | b::a=>by simp[PyData.depthAll,PyData.depth,gX a]
theorem xP(v:Bool)(c:List Bool)(S:Sto):b7 .In (.bl v) (.lst (c.map D.bl)) S=.ok (.bl (c.any λb=>b==v)) S/\b7 .NotIn (.bl v) (.lst (c.map D.bl)) S=.ok (.bl (!c.any λb=>b==v)) S:=by
 have e:j7 64 S (.lst (c.map D.bl))=some (.list (c.map PyData.bool)):=by
  show(e9 (j7 63 S) (c.map D.bl)).map PyData.list=_;rw[jY 62 S c];rfl
 have a:((c.map PyData.bool).any λy=>PyData.eqv y (.bool v))=c.any λb=>b==v:=by
  rw[Ly];refine congrArg (List.any c) (funext λb=>?_);cases b <;> cases v <;> rfl
 constructor
 ·show inD false (.bl v) (.lst (c.map D.bl)) S=_;unfold inD;rw[e];show X9 false (.bool v) (c.map PyData.bool) S=_;unfold X9;rw[if_pos ⟨rfl,iV c,by rw[gX];exact HJ (Nat.min_le_left _ _) (HY _)⟩,a];rfl
 ·show inD true (.bl v) (.lst (c.map D.bl)) S=_;unfold inD;rw[e];show X9 true (.bool v) (c.map PyData.bool) S=_;unfold X9;rw[if_pos ⟨rfl,iV c,by rw[gX];exact HJ (Nat.min_le_left _ _) (HY _)⟩,a];rfl
theorem vX(bs:List Bool):(!bs.any λb=>b==false)=bs.all id:=by
 induction bs with
 | nil=>rfl
 | cons b bs ih=>rw[IW,Bool.not_or,ih,Ib];cases b <;> rfl
theorem vA(bs:List Bool):(bs.any λb=>b==true)=bs.any id:=by
 refine congrArg (List.any bs) (funext λb=>?_);cases b <;> rfl
theorem AV(ok:SOk q){s:Dst}(h3:s.ws.length<=3)(k:Nat)(S:Sto):rn (k+9) BL [s.d,q.d] S=.ok (.bl (q.so s)) S:=by
 obtain⟨w,f⟩:=q;refine i4 ?_;rw[rn,b8 rfl,tm,wU];have l1:J0 (.tup (s.ws.map Wo.d)) S=.ok (.int (s.ws.length:Int)) S:=(A8 _ S).trans (by rw[Hc]);have c:=k5 (l:=hm w s.ws.length) (t:=λ_=>ret true) (f:=λd1=>bind (ixD (Sen.mk w f).d (.int 1)) λx3=>bind (rn (k+8) bH [x3,s.d,d1]) λx4=>ret x4) (by rw[HB];have:=oU w h3;omega) (λ_ _=>rfl) (λa ha _=>by
  obtain⟨e,i⟩:=xk a ha;exact(a8 (i7 S rfl)).trans (a8 (BM i S f (k+8) (by rw[e];exact ok.v) (HJ ok.h (Nat.le_add_left 8 k)))))
 rw[JT.mpr (λ_ _=>rfl),show((hm w s.ws.length).map λhs=>D.bl (f.so s.ma s.cl s.ws hs))=((hm w s.ws.length).map λhs=>f.so s.ma s.cl s.ws hs).map D.bl by rw[Jm];rfl]at c;have go:∀tr,Ok (nxt (evK Rs Γ (rn (k+8)) 40) W3 [nth soL_F.body 4,nth soL_F.body 5] endD (.nx [some s.d,some (Sen.mk w f).d,some (.int (s.ws.length:Int)),some (.lst ((hm w s.ws.length).map hD)),tr])) S λd S'=>d=.bl ((Sen.mk w f).so s)/\S'=S:=λtr=>by
  refine Ok.nxt<|Ok.cg (Cg ..)<|nx_bind<|Ok.eq rfl ?_;rw[Hc];refine Ok.of c ?_;refine Ok.nxt<|Ok.cg (FJ ..)<|Ok.eq (i7 S rfl)<|Ok.eq (show b7 .Eq (.str w.s) (.str "some") S=.ok (.bl (decide (w=.some_))) S by cases w <;> kernel_rfl)<|Ok.eq (i8 _ _) ?_;unfold Sen.so;cases q:decide (w=.some_) with
  | true=>
   refine Ok.pos rfl<|Ok.eq (xP true _ S).1<|Ok.ret ⟨?_,rfl⟩;rw[vA,Ly];rfl
  | false=>
   refine Ok.neg (by decide)<|Ok.eq (xP false _ S).2<|Ok.ret ⟨?_,rfl⟩;rw[vX,KH];rfl
 refine Ok.first<|Ok.cg (CY ..)<|Ok.eq (i7 S rfl)<|Ok.eq l1 ?_;refine Ok.nxt<|Ok.cg (DZ ..)<|nx_bind<|Ok.of (vY h3 S) ?_;refine Ok.nxt<|Ok.cg (FG ..)<|Ok.eq (i7 S rfl) ?_;cases w with
 | plain=>
  refine Ok.eq (show b7 .Eq (.str "plain") (.str "plain") S=.ok (.bl true) S by kernel_rfl)<|Ok.eq rfl<|Ok.pos rfl ?_;refine Ok.nxt<|Ok.cg (jD ..)<|Ok.eq (i7 S rfl)<|Ok.eq (show b7 .Eq (.str "plain") (.str "pairs") S=.ok (.bl false) S by kernel_rfl)<|Ok.eq rfl<|Ok.neg (by decide) (go _)
 | pairs=>
  refine Ok.eq (show b7 .Eq (.str "pairs") (.str "plain") S=.ok (.bl false) S by kernel_rfl)<|Ok.eq rfl<|Ok.neg (by decide) ?_;refine Ok.nxt<|Ok.cg (jD ..)<|Ok.eq (i7 S rfl)<|Ok.eq (show b7 .Eq (.str "pairs") (.str "pairs") S=.ok (.bl true) S by kernel_rfl)<|Ok.eq rfl<|Ok.pos rfl<|nx_bind<|Ok.of (wn h3 S) (go _)
 | each=>
  refine Ok.eq (show b7 .Eq (.str "each") (.str "plain") S=.ok (.bl false) S by kernel_rfl)<|Ok.eq rfl<|Ok.neg (by decide) ?_;refine Ok.nxt<|Ok.cg (jD ..)<|Ok.eq (i7 S rfl)<|Ok.eq (show b7 .Eq (.str "each") (.str "pairs") S=.ok (.bl false) S by kernel_rfl)<|Ok.eq rfl<|Ok.neg (by decide) (go _)
 | some_=>
  refine Ok.eq (show b7 .Eq (.str "some") (.str "plain") S=.ok (.bl false) S by kernel_rfl)<|Ok.eq rfl<|Ok.neg (by decide) ?_;refine Ok.nxt<|Ok.cg (jD ..)<|Ok.eq (i7 S rfl)<|Ok.eq (show b7 .Eq (.str "some") (.str "pairs") S=.ok (.bl false) S by kernel_rfl)<|Ok.eq rfl<|Ok.neg (by decide) (go _)
def j2(ps:List Sen)(s:Dst):Option Nat:=ps.findIdx? λq=>!q.so s
def paD(ps:List Sen):D:=.tup (ps.map Sen.d)
theorem cS{i:Nat}{q:Sen}(a:∀j q,j<i->ps[j]?=some q->q.so s=true)(e:ps[i]?=some q)(h:q.so s=false):j2 ps s=some i:=by
 obtain⟨l,e⟩:=Hb.mp e;refine Jg.mpr ⟨l,by rw[e,h];rfl,λj hj=>?_⟩;rw[a j ps[j] hj (Hi (Nat.lt_trans hj l))];decide
theorem eS(a:∀j q,j<ps.length->ps[j]?=some q->q.so s=true):j2 ps s=none:=by
 refine JO.mpr λq c=>?_;obtain⟨j,b,e⟩:=JR c;rw[a j q b (by rw[Hi b,e])];rfl
theorem eW(h:j2 ps s=some i):i<ps.length:=(Jg.mp h).1
theorem uZ{ps:List Sen}{i:Nat}{q:Sen}(e:ps[i]?=some q)(S:Sto):F6 (ps.map Sen.d) i S=some (some (.tup [.int (i:Int),q.d])):=by
 unfold F6;rw[w9 e]
theorem rO(ps:List Sen)(S:Sto):F6 (ps.map Sen.d) ps.length S=some none:=by
 unfold F6;rw[HM (by rw[Hc];exact Hd _),if_pos (by rw[Hc])]
section
variable {ps:List Sen}(ok:∀q∈ps,SOk q){s:Dst}(h3:s.ws.length<=3)
include ok h3
theorem oM(k:Nat)(S:Sto):rn (k+10) mf [paD ps,s.d] S=.ok (oD (j2 ps s)) S:=by
 refine i4 ?_;rw[rn,b8 rfl,AA,An];refine Ok.first<|Ok.cg (GX ..)<|Ok.eq rfl<|Ok.bind ?_;rw[Hc];refine(Ok.for_ (λi ρ S'=>(∀j q,j<i->ps[j]?=some q->q.so s=true)/\(∃o2 o3,ρ=[some (paD ps),some s.d,o2,o3])/\S'=S) (λ_ _=>False) (λd S'=>d=oD (j2 ps s)/\S'=S) (λρ S' h=>rO ps S') (λi ρ S' hi h=>?_) ps.length 0 _ S (Nat.add_zero _) ⟨λj q hj=>absurd hj (Nat.not_lt_zero _),⟨_,_,rfl⟩,rfl⟩).mono ?_
 ·obtain⟨a,⟨o2,o3,rfl⟩,rfl⟩:=h;have e:=Hi hi;refine⟨_,_,uZ e S',rfl,?_⟩;unfold jx;rw[iN];refine Ok.first<|Ok.cg (qY ..)<|Ok.eq (wx (ok _ (HG hi)) h3 k S')<|Ok.eq (R0 _ _) ?_;cases q:(ps[i]).so s with
  | false=>exact Ok.pos rfl<|Ok.ret ⟨by rw[cS a e q];rfl,rfl⟩
  | true=>
   refine Ok.neg (by decide)<|Ok.ret ⟨λj x hj ex=>?_,⟨_,_,rfl⟩,rfl⟩;rcases Lf.mp hj with hj | rfl
   ·exact a j x hj ex
   ·rw[e]at ex;cases ex;exact q
 ·rintro fl S' h;cases fl with
  | nx ρ=>
   rcases h with ⟨a,⟨o2,o3,rfl⟩,rfl⟩ | h
   ·exact Ok.nxt<|Ok.cg (Fq ..)<|Ok.ret ⟨by rw[eS a];rfl,rfl⟩
   ·exact h.elim
  | rt d=>exact Ok.ret h
  | ct _=>exact h.elim
  | bk _=>exact h.elim
theorem fK(k:Nat)(S:Sto):rn (k+10) AN [s.d,paD ps] S=.ok (.bl (j2 ps s).isNone) S:=by
 refine i4 ?_;rw[rn,b8 rfl,tB,ve];refine Ok.first<|Ok.cg (DH ..)<|Ok.eq (S1:=S) rfl<|Ok.bind ?_;rw[Hc];refine(Ok.for_ (λi ρ S'=>(∀j q,j<i->ps[j]?=some q->q.so s=true)/\(∃o2,ρ=[some s.d,some (paD ps),o2])/\S'=S) (λ_ _=>False) (λd S'=>d=.bl (j2 ps s).isNone/\S'=S) (λρ S' h=>by show some (ps.map Sen.d)[ps.length]?=_;rw[HM (by rw[Hc];exact Hd _)]) (λi ρ S' hi h=>?_) ps.length 0 _ S (Nat.add_zero _) ⟨λj q hj=>absurd hj (Nat.not_lt_zero _),⟨_,rfl⟩,rfl⟩).mono ?_
 ·obtain⟨a,⟨o2,rfl⟩,rfl⟩:=h;have e:=Hi hi;refine⟨ps[i].d,_,by show some (ps.map Sen.d)[i]?=_;rw[w9 e],rfl,?_⟩;unfold gN;rw[dn];refine Ok.first<|Ok.cg (lS ..)<|Ok.eq (AV (ok _ (HG hi)) h3 k S')<|Ok.eq (R0 _ _) ?_;cases q:(ps[i]).so s with
  | false=>exact Ok.pos rfl<|Ok.ret ⟨by rw[cS a e q];rfl,rfl⟩
  | true=>
   refine Ok.neg (by decide)<|Ok.ret ⟨λj x hj ex=>?_,⟨_,rfl⟩,rfl⟩;rcases Lf.mp hj with hj | rfl
   ·exact a j x hj ex
   ·rw[e]at ex;cases ex;exact q
 ·rintro fl S' h;cases fl with
  | nx ρ=>
   rcases h with ⟨a,⟨o2,rfl⟩,rfl⟩ | h
   ·exact Ok.nxt<|Ok.cg (Bj ..)<|Ok.ret ⟨by rw[eS a];rfl,rfl⟩
   ·exact h.elim
  | rt d=>exact Ok.ret h
  | ct _=>exact h.elim
  | bk _=>exact h.elim
end
def shp:D->Option Nat
 | .tup ds=>if 12<ds.length then some 0 else ds.findIdx? λd=>!aP d
 | _=>some 0
def noP(w:Str)(i:Nat):O:=.exc 2 [("word",.str w),("at",.int (i:Int))]
def Xs(w:Str)(i:Nat)(S:Sto):Nat->Sto->Prop:=λn S'=>S'[n]?=some (noP w i)/\Ex S S'
theorem yg(h:shp d=none):∃ps:List Sen,d=paD ps/\(∀q∈ps,SOk q)/\ps.length<=12:=by
 unfold shp at h;split at h
 ·rename_i ds;by_cases l:12<ds.length
  ·rw[if_pos l]at h;cases h
  ·rw[if_neg l]at h;have a:=JO.mp h;have go:∀ds:List D,(∀d∈ds,(!aP d)=false)->∃ps:List Sen,ds=ps.map Sen.d/\∀q∈ps,SOk q:=by
    intro ds;induction ds with
    | nil=>exact λ_=>⟨[],rfl,λq hq=>by cases hq⟩
    | cons d ds ih=>
     intro a;obtain⟨ps,e,o⟩:=ih λx hx=>a x (Hh _ hx);obtain⟨q,e2,o2⟩:=AF (by simpa using a d Hf);refine⟨q::ps,by rw[e,e2];rfl,λx hx=>?_⟩;rcases Ho.mp hx with rfl | hx
     ·exact o2
     ·exact o x hx
   obtain⟨ps,e,o⟩:=go ds a;refine⟨ps,by rw[e];rfl,o,?_⟩;rw[e,Hc]at l;omega
 ·cases h
theorem Er{w:Str}{i:Nat}(S:Sto)(hw:w = "shape"\/w = "first"\/w = "step") (hi:i<=12):[D.str w,.int (i:Int)].all (E6 S)=true:=by
 have a:E6 S (.str w)=true:=by rcases hw with rfl | rfl | rfl <;> kernel_rfl
 have b:E6 S (.int (i:Int))=true:=by
  have:i=0\/i=1\/i=2\/i=3\/i=4\/i=5\/i=6\/i=7\/i=8\/i=9\/i=10\/i=11\/i=12:=by omega
  rcases this with rfl | rfl | rfl | rfl | rfl | rfl | rfl | rfl | rfl | rfl | rfl | rfl | rfl <;> kernel_rfl
 rw[Ib,a,Ib,b];rfl
theorem raise_p{w:Str}{i:Nat}{S S':Sto}{κ:Fl->M α}(a:w = "shape"\/w = "first"\/w = "step") (b:i<=12) (c:Ex S S'):Xn (L3.bind (F8 2 ["word","at"] [.str w,.int (i:Int)]) λd=>L3.bind (v5 d) κ) S' (Xs w i S):=by
 refine(vH rfl (Er S' a b)).mono ?_;rintro _ _ ⟨rfl,rfl⟩;exact⟨by rw[HC (Hd _),Nat.sub_self];rfl,c.trans ⟨_,rfl⟩⟩
theorem rG(h:shp (.tup ds)=some i):(12<ds.length/\i=0)\/(ds.length<=12/\∃x,ds[i]?=some x/\aP x=false/\∀j y,j<i->ds[j]?=some y->aP y=true):=by
 unfold shp at h;dsimp only at h;by_cases l:12<ds.length
 ·rw[if_pos l]at h;cases h;exact .inl ⟨l,rfl⟩
 ·rw[if_neg l]at h;obtain⟨a,b,c⟩:=Jg.mp h;refine .inr ⟨by omega,ds[i],Hi a,by simpa using b,λj y hj e=>?_⟩;obtain⟨l2,rfl⟩:=Hb.mp e;simpa using c j hj
theorem uQ(h:shp (.tup ds)=none):ds.length<=12/\∀d∈ds,aP d=true:=by
 unfold shp at h;dsimp only at h;by_cases l:12<ds.length
 ·rw[if_pos l]at h;cases h
 ·rw[if_neg l]at h;exact⟨by omega,λd hd=>by simpa using JO.mp h d hd⟩
theorem Aq(h:shp d=some i):i<=12:=by
 cases d with
 | tup ds=>
  rcases rG h with ⟨_,rfl⟩ | ⟨l,x,e,_⟩
  ·exact HY _
  ·have:=(Hb.mp e).1;omega
 | _=>cases h;exact HY _
theorem pK(e:ds[i]?=some x)(S:Sto):F6 ds i S=some (some (.tup [.int (i:Int),x])):=by
 unfold F6;rw[e]
theorem lQ(ds:List D)(S:Sto):F6 ds ds.length S=some none:=by
 unfold F6;rw[HM (Hd _),if_pos rfl]
section
variable {j N:Nat}{d:D}(h:Any j N d)(hj:j<=40)(hN:N<=100000)(k:Nat)(S:Sto)
include h hj hN
theorem nC(e:shp d=some i):Xn (rn (k+6) rK [d]) S (Xs "shape" i S):=by
 rw[rn,b8 rfl,kL,kD];cases d with
 | scr _=>exact h.pl.elim
 | ref _=>exact h.pl.elim
 | tup ds=>
  refine Xn.first<|Xn.cgS (congrFun (nB ..) S)<|Xn.eq rfl<|Xn.eq rfl<|Xn.neg (by decide)<|Xn.eq (A8 ds S)<|Xn.eq (bz _ _ S)<|Xn.eq (i8 _ _) ?_;rcases rG e with ⟨l,rfl⟩ | ⟨l,x,ex,sx,all⟩
  ·exact Xn.pos (Hv (by omega))<|raise_p (.inl rfl) (HY _) (Ex.refl S)
  ·refine Xn.neg (by rw[Hs (by omega)];decide) ?_;refine Xn.nxt<|Xn.cgS (congrFun (xt ..) S)<|Xn.eq rfl<|Xn.bind ?_;have li:=(Hb.mp ex).1;refine Xn.for_ (i0:=i) (λi ρ S'=>(∃o2 o3,ρ=[some (.tup ds),o2,o3])/\Ex S S') (λm ρ S' hm ⟨⟨o2,o3,er⟩,exS⟩=>?_) (λρ S' ⟨⟨o2,o3,er⟩,exS⟩=>?_) (ds.length+1) 0 _ S (HY _) (by omega) ⟨⟨_,_,rfl⟩,Ex.refl _⟩
   ·subst er;have em:ds[m]?=some ds[m]:=Hi (by omega);refine⟨_,_,pK em S',rfl,?_⟩;unfold Q7;rw[K0];refine Ok.first<|Ok.cg (U0 ..)<|Ok.bind ((cb (h.at (HG _)) hj hN k S').mono ?_);rintro _ S2 ⟨rfl,ex2⟩;refine Ok.eq (R0 _ _) ?_;rw[all m _ hm em];exact Ok.neg (by decide)<|Ok.ret ⟨_,rfl,⟨_,_,rfl⟩,exS.trans ex2⟩
   ·subst er;refine⟨_,_,pK ex S',rfl,?_⟩;unfold Q7;rw[K0];refine Xn.first<|Xn.cgS (congrFun (U0 ..) S')<|Xn.ok ((cb (h.at (HE ex)) hj hN k S').mono ?_);rintro _ S2 ⟨rfl,ex2⟩;refine Xn.eq (R0 _ _) ?_;rw[sx];exact Xn.pos rfl<|raise_p (.inl rfl) (Aq e) (exS.trans ex2)
 | _=>
  cases e;exact Xn.first<|Xn.cgS (congrFun (nB ..) S)<|Xn.eq rfl<|Xn.eq rfl<|Xn.pos rfl<|raise_p (.inl rfl) (HY _) (Ex.refl S)
theorem bt(e:shp d=none):Ok (rn (k+6) rK [d]) S λr S'=>Ex S S':=by
 rw[rn,b8 rfl,kL,kD];cases d with
 | tup ds=>
  obtain⟨l,all⟩:=uQ e;refine Ok.first<|Ok.cg (nB ..)<|Ok.eq rfl<|Ok.eq rfl<|Ok.neg (by decide)<|Ok.eq (A8 ds S)<|Ok.eq (bz _ _ S)<|Ok.eq (i8 _ _)<|Ok.neg (by rw[Hs (by omega)];decide) ?_;refine Ok.nxt<|Ok.cg (xt ..)<|Ok.eq rfl<|Ok.bind ?_;refine(Ok.loop (λi ρ S'=>(∃o2 o3,ρ=[some (.tup ds),o2,o3])/\Ex S S') (λρ S' _=>lQ ds S') (λm ρ S' hm ⟨⟨o2,o3,er⟩,exS⟩=>?_) ⟨⟨_,_,rfl⟩,Ex.refl _⟩).mono ?_
  ·subst er;have em:=Hi hm;refine⟨_,_,pK em S',rfl,?_⟩;unfold Q7;rw[K0];refine Ok.first<|Ok.cg (U0 ..)<|Ok.bind ((cb (h.at (HG _)) hj hN k S').mono ?_);rintro _ S2 ⟨rfl,ex2⟩;refine Ok.eq (R0 _ _) ?_;rw[all _ (HG hm)];exact Ok.neg (by decide)<|Ok.ret ⟨_,.inl rfl,⟨_,_,rfl⟩,exS.trans ex2⟩
  ·rintro _ S' ⟨ρ,rfl,⟨o2,o3,rfl⟩,ex⟩;exact Ok.ret ex
 | _=>cases e
end
def fvs(g:Dst->D)(l:List Dst):List (D×D):=l.map λs=>(s.d,g s)
theorem iU(h3:n<=3){g:Dst->D}(s:Dst):∀{l:List Dst},(∀x∈l,DI n x)->Q9 (fvs g l) (kS s)=if s∈l then some (g s)else none
 | [],_=>rfl
 | t::l,h=>by
  have ih:=iU h3 (g:=g) s λx hx=>h x (Hh _ hx);unfold Q9 fvs at ih ⊢;rw[Ht,Ik];rw[oX (h t Hf) h3];by_cases e:t=s
  ·subst e;rw[Hv rfl,if_pos Hf];rfl
  ·rw[Hs λz=>e (Ag (HH z))];rw[ih];by_cases m:s∈l
   ·rw[if_pos m,if_pos (Hh _ m)]
   ·rw[if_neg m,if_neg λz=>(Ho.mp z).elim (λz=>e z.symm) m]
def s0(n:Nat):Dst:=⟨none,false,List.replicate n .out⟩
theorem rg(n:Nat):DI n (s0 n):=⟨by simp[s0],λg a=>by cases a⟩
def A1(s:Dst)(n:Nat):List Dst:=(List.range n).filterMap (step s)
theorem fI(V:DI n s)(h:t∈A1 s n):DI n t:=by
 obtain⟨i,a,e⟩:=Jb.mp h;exact V.step (Ij.mp a) e
theorem gB{n:Nat}(b:1<=n)(a:n<=3)(k:Nat)(S:Sto):rn (k+1) Eu [.int (n:Int)] S=.ok (s0 n).d S:=by
 rw[rn,b8 rfl,At];have:n=1\/n=2\/n=3:=by omega
 rcases this with rfl | rfl | rfl <;> kernel_rfl
theorem wW(V:DI n s)(h3:n<=3)(k:Nat)(S:Sto):rn (k+3) pL [s.d] S=.ok (.lst ((A1 s n).map Dst.d)) S:=by
 refine i4 ?_;rw[rn,b8 rfl,yx];refine nx_bind<|Ok.bind ((lm V h3 (k+1) S).mono ?_);rintro _ S ⟨rfl,rfl⟩;have c:=k5 (l:=(List.range n).filter λj=>(step s j).isSome) (h:=λj=>D.int (j:Int)) (g:=ck s) (t:=λ_=>ret true) (f:=λd1=>bind (rn (k+2) nT [s.d,d1]) λx4=>ret x4) (by
  have:=IJ (λj=>(step s j).isSome) (List.range n);rw[Ks]at this;rw[HB];omega) (λ_ _=>rfl) (λj hj _=>by
  obtain⟨h1,h2⟩:=JB.mp hj;obtain⟨t,e⟩:=HW.mp h2;refine a8 ((oV V (Ij.mp h1) h3 e k S).trans ?_);unfold ck;rw[e])
 refine Ok.eq rfl ?_;rw[Hc];refine Ok.of c<|Ok.ret ⟨?_,rfl⟩;congr 1;rw[JT.mpr (λ_ _=>rfl)];unfold A1;induction List.range n with
 | nil=>rfl
 | cons i l ih=>
  cases e:step s i with
  | none=>rw[IN (by rw[e];exact He),Lg e];exact ih
  | some t=>
   rw[IM (by rw[e];rfl),Lh e,Ht,Ht,ih];unfold ck;rw[e]
theorem cf{f:Type}{l:List f}{h:f->D}{p:f->Bool}{g:f->List D}{t:D->M Bool}{b:D->List D->M (List D)}{src:Src}{S:Sto}(hs:∀i,src i S=some (l.map h)[i]?)(N:Nat)(j:∀a∈l,t (h a) S=.ok (p a) S)
  (k:∀a∈l,p a=true->∀es:List D,es.length+(g a).length<=N->b (h a) es S=.ok (es++g a) S):∀(m i:Nat)(es:List D),i+m=l.length->es.length+(((l.drop i).filter p).flatMap g).length<=N->lvM src t b (m+1) i es S=.ok (es++((l.drop i).filter p).flatMap g) S
 | 0,i,es,e,_=>by
  have:src i S=some none:=by rw[hs,HM (by rw[Hc];omega)]
  rw[List.drop_eq_nil_of_le (by omega),LH,List.flatMap_nil,HU];simp only[lvM,this]
 | m+1,i,es,e,c=>by
  have d:i<l.length:=by omega
  have r:src i S=some (some (h l[i])):=by rw[hs,HK,Hi d];rfl
  have o:=j l[i] (HG d);rw[JN d]at c ⊢;have n:lvM src t b (m+1+1) i es S=bind (t (h l[i])) (λz=>if z=true then bind (b (h l[i]) es) (λes'=>lvM src t b (m+1) (i+1) es')else lvM src t b (m+1) (i+1) es) S:=by
   conv=>lhs;unfold lvM
   simp only[r]
  rw[n,a8 o];cases q:p l[i] with
  | false=>
   rw[IN (by rw[q];exact He)]at c ⊢;rw[if_neg He];exact cf hs N j k m (i+1) es (by omega) c
  | true=>
   rw[IM q,JF]at c ⊢;rw[Hu]at c;rw[if_pos rfl,a8 (k l[i] (HG d) q es (by omega)),cf hs N j k m (i+1) (es++g l[i]) (by omega) (by rw[Hu];omega),JD]
theorem nI{α:Type}{l:List α}{i:Nat}(h:i<l.length):l.take (i+1)=l.take i++[l[i]]:=IG h
theorem Ah(S:Sto)(a b c:O):(S++[a,b]).set (S.length+1) c=S++[a,c]:=by
 rw[List.set_append_right _ _ (Ir _)];congr 1;rw[show S.length+1-S.length=1 from by omega];rfl
theorem Bk(S:Sto)(a b:O):(S++[a,b])[S.length]?=some a:=by
 rw[HC (Hd _),Nat.sub_self];rfl
theorem pP(S:Sto)(a b:O):(S++[a,b])[S.length+1]?=some b:=by
 rw[HC (Ir _),show S.length+1-S.length=1 from by omega];rfl
theorem qP(c:n<=3){l:List Dst}(p:l.Nodup)(hd:∀x∈l,DI n x)(r:l.length<=2744){g:Dst->D}{a:D->M D}(S:Sto)(o:∀s∈l,∀S',a s.d S'=.ok (g s) S'):∀(m i:Nat),i+m=l.length ->
  dcM (O8 S.length) (λ_=>ret true) (λd=>ret d) a (.ref (S.length+1)) (m+1) i (S++[.lst (l.map Dst.d),.dcT (fvs g (l.take i))])=.ok () (S++[.lst (l.map Dst.d),.dcT (fvs g l)])
 | 0,i,e=>by
  have f:O8 S.length i (S++[.lst (l.map Dst.d),.dcT (fvs g (l.take i))])=some none:=by
   unfold O8;rw[Bk];dsimp only;rw[HM (by rw[Hc];omega)]
  simp only[dcM,f];rw[IV (by omega)]
 | m+1,i,e=>by
  have b:i<l.length:=by omega
  have f:O8 S.length i (S++[.lst (l.map Dst.d),.dcT (fvs g (l.take i))])=some (some l[i].d):=by
   unfold O8;rw[Bk];dsimp only;rw[HK,Hi b];rfl
  have V:=hd _ (HG b);have t:l[i]∉l.take i:=λz=>by
   obtain⟨j,w,k⟩:=JR z;rw[List.getElem_take]at k;rw[Jt]at w;have:=(Lj p).mp k;omega
  have h:=iU c (g:=g) l[i] (l:=l.take i) λx y=>hd x (List.mem_of_mem_take y);rw[if_neg t]at h;have u:W6 (.ref (S.length+1)) l[i].d (g l[i]) (S++[.lst (l.map Dst.d),.dcT (fvs g (l.take i))])=.ok .non (S++[.lst (l.map Dst.d),.dcT (fvs g (l.take (i+1)))]):=by
   have q:(fvs g (l.take i)).length<sizeLine:=by
    unfold fvs;rw[Hc,Jt,HB];omega
   simp only[W6,pP,oX V c,if_pos q];unfold mE;rw[h,if_neg (by decide),Ah,nI b];unfold fvs;rw[IB];rfl
  have A:dcM (O8 S.length) (λ_=>ret true) (λd=>ret d) a (.ref (S.length+1)) (m+1+1) i (S++[.lst (l.map Dst.d),.dcT (fvs g (l.take i))])=bind (a l[i].d) (λv=>bind (W6 (.ref (S.length+1)) l[i].d v) λ_=>dcM (O8 S.length) (λ_=>ret true) (λd=>ret d) a (.ref (S.length+1)) (m+1) (i+1)) (S++[.lst (l.map Dst.d),.dcT (fvs g (l.take i))]):=by
   conv=>lhs;unfold dcM
   simp only[f];rfl
  rw[A,a8 (o _ (HG b) _),a8 u];exact qP c p hd r S o m (i+1) (by omega)
section
variable {n:Nat}(h1:1<=n)(h3:n<=3){ps:List Sen}(ok:∀q∈ps,SOk q)
def fD(ps:List Sen)(s:Dst):D:=oD (j2 ps s)
def st1(S:Sto)(n:Nat)(ps:List Sen):Sto:=S++[.lst ((all n).map Dst.d),.dcT (fvs (fD ps) (all n))]
theorem sC{n:Nat}(h3:n<=3)(V:DI n s):s.ws.length<=3:=by rw[V.l];exact h3
include h3 ok
theorem jd(k:Nat)(S:Sto):(bind (rn (k+10) xb [.int (n:Int)]) λi=>bind (k4 i) λb=>bind mS λc=>bind (dcM b.1 (λa=>ret true) (λa=>ret a) (λa=>bind (rn (k+10) mf [paD ps,a]) λx5=>ret x5) c b.2 0) λ_=>ret c) S=.ok (.ref (S.length+1)) (st1 S n ps):=by
 have e:=O7 h3;rw[a8 (all_ok h3 (k+8) S)];have f:k4 (.ref S.length) (S++[.lst ((all n).map Dst.d)])=.ok (O8 S.length,(all n).length+1) (S++[.lst ((all n).map Dst.d)]):=by
  simp only[k4,HC (Hd _),Nat.sub_self,List.getElem?_cons_zero,Hc]
 rw[a8 f];have g:mS (S++[.lst ((all n).map Dst.d)])=.ok (.ref (S.length+1)) (S++[.lst ((all n).map Dst.d),.dcT []]):=by
  unfold mS;rw[Hu,JD];rfl
 rw[a8 g];have d:=qP h3 (yV n) (λx h=>all_mem.mp h) e (a:=λa=>bind (rn (k+10) mf [paD ps,a]) λx5=>ret x5) S (λs hs S'=>a8 (oM ok (sC h3 (all_mem.mp hs)) k S')) (all n).length 0 (Nat.zero_add _);exact a8 d
theorem U5(V:DI n s)(S:Sto):M1 (.ref (S.length+1)) s.d (st1 S n ps)=.ok (fD ps s) (st1 S n ps):=by
 have f:=iU h3 (g:=fD ps) s λx a=>all_mem.mp a;rw[if_pos (all_mem.mpr V)]at f;unfold st1;simp only[M1,pP,oX V h3,f];rfl
end
def E4(n:Nat)(ps:List Sen):List Dst:=(all n).filter λs=>(j2 ps s).isNone
def led(n:Nat)(ps:List Sen):List Nat:=(E4 n ps).flatMap λs=>(A1 s n).filterMap (j2 ps)
def R5(n:Nat)(ps:List Sen):Option (Str×Nat):=match j2 ps (s0 n) with
 | some i=>some ("first",i)
 | none=>(led n ps).min?.map λi=>("step",i)
theorem aN(o:Option Nat)(S:Sto):b7 .Is (oD o) .non S=.ok (.bl o.isNone) S/\b7 .IsNot (oD o) .non S=.ok (.bl o.isSome) S:=by cases o <;> exact⟨rfl,rfl⟩
theorem jU(S:Sto)(i:Nat):gv (S.length+1) (all n).length i (st1 S n ps)=some ((all n).map Dst.d)[i]?:=by
 unfold gv st1;rw[pP];dsimp only;unfold fvs;rw[Hc,if_pos rfl,HK,HK,Option.map_map];rfl
theorem zH{ns:List Nat}{i:Nat}(h:ns.min?=some i)(S:Sto):bg [.lst (ns.map λj=>oD (some j))] S=.ok (.int (i:Int)) S:=by
 obtain⟨m,q⟩:=List.min?_eq_some_iff.mp h;have g:B5 (ns.map λj=>oD (some j))=some (ns.map λ(j:Nat)=>(j:Int)):=by
  clear h m q;induction ns with
  | nil=>rfl
  | cons x ns f=>
   show(B5 (ns.map λj=>oD (some j))).map ((x:Int)::·)=_;rw[f];rfl
 have k:eO (ns.map λ(j:Nat)=>(j:Int))=some (i:Int):=jm (HN.mpr ⟨i,m,rfl⟩) λa c=>by
  obtain⟨b,d,rfl⟩:=HN.mp c;have:=q b d;omega
 have e:(B5 (ns.map λj=>oD (some j))).bind eO=some (i:Int):=by rw[g];exact k
 unfold bg;refine(a8 rfl).trans ?_;rw[e];rfl
theorem cE{S S':Sto}(e:m S=.ok a S'):nx m S=.ok a S':=by unfold nx;rw[e]
theorem zQ(e:n<=3)(ps:List Sen):(led n ps).length<=9000:=by
 have a:=O7 e;have b:(E4 n ps).length<=2744:=HJ (IJ _ _) a;have c:∀l:List Dst,(l.flatMap λs=>(A1 s n).filterMap (j2 ps)).length<=3 * l.length:=λl=>by
  induction l with
  | nil=>exact HY _
  | cons s l g=>
   rw[JF,Hu,Ic];have d:=Li (j2 ps) (A1 s n);have f:=Li (step s) (List.range n);rw[Ks]at f;have d:((A1 s n).filterMap (j2 ps)).length<=((List.range n).filterMap (step s)).length:=d;omega
 have:=c (E4 n ps);unfold led;omega
theorem Ap:∀i∈led n ps,i<ps.length:=λi a=>by
 obtain⟨s,_,h⟩:=IZ.mp a;obtain⟨t,_,e⟩:=Jb.mp h;exact eW e
theorem rC(h:R5 n ps=some (w,i)):i<ps.length:=by
 unfold R5 at h;cases e:j2 ps (s0 n) with
 | some k=>rw[e]at h;cases h;exact eW e
 | none=>
  rw[e]at h;obtain⟨m,b,a⟩:=Iv.mp h;cases a;exact Ap _ (List.min?_eq_some_iff.mp b).1
abbrev inn(f n:Nat)(v:D):D->List D->M (List D):=λd2=>λl3=>bind (bind (rn f pL [d2]) λx5=>bind (k4 x5) λsm6=>ret sm6) λsm4=>lvM sm4.1 (λd7=>bind (M1 v d7) λx8=>bind (b7 .IsNot x8 .non) λx9=>bind (asB x9) λz10=>ret z10) (λd7=>λl11=>bind (bind (M1 v d7) λx13=>ret x13) λx12=>if l11.length<sizeLine then ret (l11++[x12])else bad) sm4.2 0 l3
theorem Q3{b:Type}(f:b->Option Nat):∀l:List b,(l.filter λa=>(f a).isSome).flatMap (λa=>[oD (f a)])=(l.filterMap f).map λj=>oD (some j)
 | []=>rfl
 | a::l=>by
  cases e:f a with
  | none=>rw[IN (by rw[e];exact He),Lg e];exact Q3 f l
  | some j=>rw[IM (by rw[e];rfl),Lh e,JF,Ht,Q3 f l,e];rfl
section
variable {n:Nat}(h3:n<=3){ps:List Sen}(ok:∀q∈ps,SOk q)
include h3 ok
theorem qA(k:Nat)(S:Sto):(bind (k4 (.lst ((E4 n ps).map Dst.d))) λsm1=>lvM sm1.1 (λd2=>ret true) (inn (k+3) n (.ref (S.length+1))) sm1.2 0 []) (st1 S n ps)=.ok ((led n ps).map λj=>oD (some j)) (st1 S n ps):=by
 have al:=O7 h3;have gl:(E4 n ps).length<=2744:=HJ (IJ _ _) al;have gd:∀s∈E4 n ps,DI n s:=λs hs=>all_mem.mp (JB.mp hs).1;have lt:((E4 n ps).flatMap λs=>((A1 s n).filterMap (j2 ps)).map λj=>oD (some j)).length<=9000:=by
  rw[<- JK,Hc];exact zQ h3 ps
 have e0:(E4 n ps).flatMap (λs=>((A1 s n).filterMap (j2 ps)).map λj=>oD (some j))=(led n ps).map λj=>oD (some j):=by
  rw[<- JK];rfl
 rw[a8 (gG (E4 n ps) Dst.d (st1 S n ps))];have:=D7 (g:=λs=>((A1 s n).filterMap (j2 ps)).map λj=>oD (some j)) (b:=inn (k+3) n (.ref (S.length+1))) (src:=B9 ((E4 n ps).map Dst.d)) (S:=st1 S n ps) (λi=>rfl) 9000 (λs hs es he=>?_) (E4 n ps).length 0 [] (Nat.zero_add _) (by rw[Il];simpa using lt)
 ·rw[Il,JY,e0]at this;exact this
 ·have V:=gd s hs;unfold inn;have e1:(bind (rn (k+3) pL [s.d]) λx5=>bind (k4 x5) λsm6=>ret sm6) (st1 S n ps)=.ok (B9 ((A1 s n).map Dst.d),(A1 s n).length+1) (st1 S n ps):=(a8 (wW V h3 k _)).trans (a8 (gG (A1 s n) Dst.d _));rw[a8 e1];have:=cf (t:=λd7=>bind (M1 (.ref (S.length+1)) d7) λx8=>bind (b7 .IsNot x8 .non) λx9=>bind (asB x9) λz10=>ret z10) (b:=λd7=>λl11=>bind (bind (M1 (.ref (S.length+1)) d7) λx13=>ret x13) λx12=>if l11.length<sizeLine then ret (l11++[x12])else bad) (src:=B9 ((A1 s n).map Dst.d)) (S:=st1 S n ps) (λi=>rfl) 9000 (λt ht=>?_) (λt ht _ es he=>?_) (A1 s n).length 0 es (Nat.zero_add _) (by rw[Il,Q3];exact he)
  ·rw[Il,Q3]at this;exact this
  ·exact(a8 (U5 h3 ok (fI V ht) S)).trans ((a8 (aN _ _).2).trans (a8 (i8 _ _)))
  ·refine(a8 ((a8 (U5 h3 ok (fI V ht) S)).trans rfl)).trans ?_;have he:=he;rw[if_pos (by rw[HB];omega)];rfl
variable {j N:Nat}(hA:Any j N (paD ps))(hj:j<=40)(hN:N<=100000)(sh:shp (paD ps)=none)(h1:1<=n)(hl:ps.length<=12)
include hA hj hN sh h1 hl
theorem ym(e:R5 n ps=some (w,i))(k:Nat)(S:Sto):Xn (rn (k+11) jM [.int (n:Int),paD ps]) S (Xs w i S):=by
 rw[rn,b8 rfl,gQ,iL];refine Xn.first<|Xn.cg (yM ..)<|Xn.ok ((bt hA hj hN (k+4) S sh).mono ?_);intro _ b r;have y:=rC e;have d:Ex S (st1 b n ps):=r.trans ⟨_,rfl⟩;refine Xn.nxt<|Xn.cg (Cz ..)<|Xn.eq (cE (jd h3 ok k b)) ?_;refine Xn.nxt<|Xn.cg (CH ..)<|Xn.eq (gB h1 h3 (k+9) _)<|Xn.eq (U5 h3 ok (rg n) b) ?_;refine Xn.nxt<|Xn.cg (CF ..)<|Xn.eq (aN _ _).2<|Xn.eq (i8 _ _) ?_;unfold R5 at e;unfold fD;cases q:j2 ps (s0 n) with
 | some m=>
  rw[q]at e;cases e;exact Xn.pos rfl<|raise_p (.inr (.inl rfl)) (by omega) d
 | none=>
  rw[q]at e;obtain⟨m,f,g⟩:=Iv.mp e;cases g;refine Xn.neg (by decide) ?_;have c:=Q2 (t:=λp=>bind (M1 (.ref (b.length+1)) p) λu=>bind (b7 .Is u .non) λo=>bind (asB o) λv=>ret v) (jU b) (by have:=O7 h3;rw[HB];omega) (λs hs=>(a8 (U5 h3 ok (all_mem.mp hs) b)).trans ((a8 (aN _ _).1).trans (a8 (i8 _ _)))) (λ_ _ _=>rfl);have x:T8 (.ref (b.length+1)) (st1 b n ps)=.ok (gv (b.length+1) (all n).length,(all n).length+1) (st1 b n ps):=by
   unfold st1;simp only[T8,pP];unfold fvs;rw[Hc]
  refine Xn.nxt<|Xn.cg (CT ..)<|Xn.eq (cE ((a8 x).trans c)) ?_;refine Xn.nxt<|Xn.cg (Ee ..)<|Xn.eq (cE (qA h3 ok (k+7) b)) ?_;have h:j0 (.lst ((led n ps).map λj=>oD (some j))) (st1 b n ps)=.ok true (st1 b n ps):=by
   cases z:led n ps with
   | nil=>rw[z]at f;cases f
   | cons a l=>rfl
  exact Xn.nxt<|Xn.cg (Du ..)<|Xn.eq h<|Xn.pos rfl<|Xn.eq (zH f _)<|raise_p (.inr (.inr rfl)) (by omega) d
theorem xB(e:R5 n ps=none)(k:Nat)(S:Sto):Ok (rn (k+11) jM [.int (n:Int),paD ps]) S λr S'=>r=.lst ((E4 n ps).map Dst.d)/\Ex S S':=by
 rw[rn,b8 rfl,gQ,iL];refine Ok.first<|Ok.cg (yM ..)<|Ok.bind ((bt hA hj hN (k+4) S sh).mono ?_);intro _ a g;have b:Ex S (st1 a n ps):=g.trans ⟨_,rfl⟩;refine Ok.nxt<|Ok.cg (Cz ..)<|Ok.eq (cE (jd h3 ok k a)) ?_;refine Ok.nxt<|Ok.cg (CH ..)<|Ok.eq (gB h1 h3 (k+9) _)<|Ok.eq (U5 h3 ok (rg n) a) ?_;refine Ok.nxt<|Ok.cg (CF ..)<|Ok.eq (aN _ _).2<|Ok.eq (i8 _ _) ?_;unfold R5 at e;cases q:j2 ps (s0 n) with
 | some m=>rw[q]at e;cases e
 | none=>
  rw[q]at e;have j:=List.min?_eq_none_iff.mp (Option.map_eq_none_iff.mp e);refine Ok.neg (by decide) ?_;have c:=Q2 (t:=λf=>bind (M1 (.ref (a.length+1)) f) λh=>bind (b7 .Is h .non) λd=>bind (asB d) λi=>ret i) (jU a) (by have:=O7 h3;rw[HB];omega) (λs hs=>(a8 (U5 h3 ok (all_mem.mp hs) a)).trans ((a8 (aN _ _).1).trans (a8 (i8 _ _)))) (λ_ _ _=>rfl);have l:T8 (.ref (a.length+1)) (st1 a n ps)=.ok (gv (a.length+1) (all n).length,(all n).length+1) (st1 a n ps):=by
   unfold st1;simp only[T8,pP];unfold fvs;rw[Hc]
  refine Ok.nxt<|Ok.cg (CT ..)<|Ok.eq (cE ((a8 l).trans c)) ?_;refine Ok.nxt<|Ok.cg (Ee ..)<|Ok.eq (cE (qA h3 ok (k+7) a)) ?_;rw[j];exact Ok.nxt<|Ok.cg (Du ..)<|Ok.eq rfl<|Ok.neg (by decide)<|Ok.nxt<|Ok.cg (Fc ..)<|Ok.ret ⟨rfl,b⟩
end
theorem t2{a:D}{n Z:Nat}(b:Sml n Z a)(d:smB 0 70 (.str w)=true:=by decide +kernel):Sml (n+1) (Z+80) (.tup [.str w,a]):=by
 obtain⟨c,e,f⟩:=bA d;refine⟨⟨c,b.pl,trivial⟩,?_,?_⟩
 ·have:=b.dp;show max 0 (max (dp a) 0)+1<=n+1;omega
 ·have:=b.sz;show sz (.str w)+2+(sz a+2+0)+3<=_;omega
theorem t3{a b:D}{n Z:Nat}(d:Sml n Z a)(c:Sml n Z b)(f:smB 0 70 (.str w)=true:=by decide +kernel):Sml (n+1) (2 * Z+80) (.tup [.str w,a,b]):=by
 obtain⟨e,g,h⟩:=bA f;refine⟨⟨e,d.pl,c.pl,trivial⟩,?_,?_⟩
 ·have:=d.dp;have:=c.dp;show max 0 (max (dp a) (max (dp b) 0))+1<=n+1;omega
 ·have:=d.sz;have:=c.sz;show sz (.str w)+2+(sz a+2+(sz b+2+0))+3<=_;omega
theorem Cp{ws:List Str}(h:∀w∈ws,w∈wds)(l:ws.length<=7):Sml 1 400 (.tup (ws.map D.str)):=
 (Sml.tup (Smls.map λw a=>by
  have:∀w∈wds,smB 0 54 (.str w)=true:=by decide +kernel
  exact Sml.w (this w (h w a))) (by rw[Hc];exact l)).up
def zF:Nat->Nat
 | 0=>600
 | n+1=>2 * zF n+80
def cF:Nat->Nat
 | 0=>12
 | n+1=>2 * cF n+12
theorem Da(n:Nat):600<=zF n:=by
 induction n with
 | zero=>exact Hd _
 | succ n ih=>show 600<=2 * zF n+80;omega
theorem DJ(n:Nat):12<=cF n:=by
 cases n with
 | zero=>exact Hd _
 | succ n=>show 12<=2 * cF n+12;omega
def fc:List D:=[.tup [.str "free"],.tup [.str "closed"]]
theorem Bs(h:d∈fc):Sml 1 70 d:=by
 have:∀d∈fc,smB 1 70 d=true:=by unfold fc;decide +kernel
 exact Sml.w (this d h)
theorem t7{p N m:Nat}{S:Sto}(h:Fw ns p (N+1) S)(g:0<m)(f:m<1073741824)(k:Nat):Ok (rn (k+1) U4 [.ref p,.int (m:Int)]) S λd S'=>∃r:Nat,d=.int (r:Int)/\r<m/\Fw ns p N S'/\Kp p S S':=
 (se h g f k).mono λ_ _ ⟨r,a,b,c,d,e⟩=>⟨r,a,b,c,d,e⟩
theorem O4{p v:Nat}(hv:v<=2):∀(n N k:Nat)(S:Sto),Fw ns p (N+cF n) S->Ok (rn (k+n+2) gu [.ref p,.int (n:Int),.int (v:Int)]) S λd S'=>Sml (n+2) (zF n) d/\Fw ns p N S'/\Kp p S S'
 | n,N,k,S,F=>by
  have zl:=Da n;have cl:=DJ n;rw[rn,b8 rfl,wb,vy];refine Ok.first<|Ok.cg (DP ..)<|Ok.eq (bz _ _ S)<|Ok.eq (i8 _ S) ?_;have main:∀(q:Nat)(S1:Sto),(n=0->q<5)->q<9->Fw ns p (N+cF n-1) S1->Kp p S S1->Ok (nxt (evK Rs Γ (rn (k+n+1)) 40) E9 [nth Cl.body 1,nth Cl.body 2,nth Cl.body 3,nth Cl.body 4,nth Cl.body 5,nth Cl.body 6] endD (.nx [some (.ref p),some (.int (n:Int)),some (.int (v:Int)),some (.int (q:Int)),none,none])) S1 λd S'=>Sml (n+2) (zF n) d/\Fw ns p N S'/\Kp p S S':=by
   intro q S1 q5 q9 F1 K1;have small:Ok (bind (rn (k+n+1) U4 [.ref p,.int 2]) λx=>bind (ixD (.lst fc) x) λy=>nxt (evK Rs Γ (rn (k+n+1)) 40) E9 [nth Cl.body 2,nth Cl.body 3,nth Cl.body 4,nth Cl.body 5,nth Cl.body 6] endD (.rt y)) S1 λd S'=>Sml (n+2) (zF n) d/\Fw ns p N S'/\Kp p S S':=by
    refine Ok.bind ((t7 (N:=N) (m:=2) (F1.less (by omega)) (by omega) (by omega) (k+n)).mono ?_);rintro _ S2 ⟨r,rfl,hr,F2,K2⟩;have er:fc[r]?=some (fc[r]'hr):=Hi hr;exact Ok.eq (FX S2 er)<|Ok.ret ⟨(Bs (HG hr)).mono (by omega) (by omega),F2,K1.tr K2⟩
   refine Ok.nxt<|Ok.cg (Ey ..)<|Ok.eq (fT _ _ S1)<|Ok.eq (i8 _ S1)<|Ok.ite (λc=>?_) λc=>?_
   ·have c:q<5:=by have:=HR c;omega
    refine Ok.eq (C7 _ _ S1)<|Ok.eq (i8 _ S1)<|Ok.ite (λ_=>small) λv0=>?_;have v0:0<v:=Nat.pos_of_ne_zero λz=>v0 (Hv (by omega));refine Ok.eq (C7 _ _ S1)<|Ok.eq (i8 _ S1)<|Ok.ite (λ_=>small) λc4=>?_;have c4:q≠4:=λz=>c4 (Hv (by omega));refine Ok.nxt<|Ok.cg (xM ..)<|Ok.eq (C7 _ _ S1)<|Ok.eq (i8 _ S1)<|Ok.ite (λ_=>?_) λc3=>?_
    ·refine Ok.bind ((t7 (N:=N) (F1.less (by omega)) v0 (by omega) (k+n)).mono ?_);rintro _ S2 ⟨r,rfl,hr,F2,K2⟩;exact Ok.ret ⟨(t2 (Sml.nat (n:=0) (N:=60) (by omega))).mono (by omega) (by omega),F2,K1.tr K2⟩
    ·have c3:q≠3:=λz=>c3 (Hv (by omega));refine Ok.nxt<|Ok.cg (xE ..)<|Ok.eq (fT _ _ S1)<|Ok.eq (i8 _ S1)<|Ok.pos (Hv (by omega))<|nx_bind<|Ok.eq (yr (k+n) S1)<|Ok.eq (a:=(B9 (wds.map D.str),8)) rfl<|(Ok.comp (λi S' es=>Fw ns p (N+2+(7-i)) S'/\Kp p S S'/\∃ws:List Str,es=ws.map D.str/\(∀w∈ws,w∈wds)/\ws.length<=i) (λS' es _=>rfl) ?_ ⟨F1.less (by omega),K1,[],rfl,(λw hw=>by cases hw),Hd _⟩).mono ?_
     ·rintro i S' es hi ⟨Fi,Ki,ws,rfl,hw,hl⟩;have hi':=hi;have ei:(wds.map D.str)[i]?=some (.str wds[i]):=w9 (Hi hi');refine⟨.str wds[i],by simp only[B9,ei],Ok.bind ((t7 (N:=N+2+(7-(i+1))) (m:=3) (Fi.less (by omega)) (by omega) (by omega) (k+n)).mono ?_)⟩;rintro _ S2 ⟨r,rfl,hr,F2,K2⟩;refine Ok.eq (C7 _ _ S2)<|Ok.eq (i8 _ S2)<|Ok.ret ?_;split
      ·refine Ok.ret ⟨by rw[Hc,HB];omega,F2,Ki.tr K2,ws++[wds[i]],by rw[IB];rfl,λw hw'=>?_,by simp;omega⟩;rcases Hz.mp hw' with z | z
       ·exact hw w z
       ·rw[Hm.mp z];exact HG hi'
      ·exact⟨F2,Ki.tr K2,ws,rfl,hw,by omega⟩
     ·rintro _ S2 ⟨F2,K2,ws,rfl,hw,hl⟩;have fin:∀(us:List Str)(S3:Sto),(∀w∈us,w∈wds)->us.length<=7->Fw ns p (N+1) S3->Kp p S S3->Ok (bind (rn (k+n+1) U4 [.ref p,.int (v:Int)]) λx=>bind (O6 (.lst (us.map D.str))) λy=>nxt (evK Rs Γ (rn (k+n+1)) 40) E9 [nth Cl.body 4,nth Cl.body 5,nth Cl.body 6] endD (.rt (.tup [.str "at",x,y]))) S3 λd S'=>Sml (n+2) (zF n) d/\Fw ns p N S'/\Kp p S S':=by
       intro us S3 hu lu F3 K3;refine Ok.bind ((t7 F3 v0 (by omega) (k+n)).mono ?_);rintro _ S4 ⟨r,rfl,hr,F4,K4⟩;refine Ok.eq rfl<|Ok.ret ⟨?_,F4,K3.tr K4⟩;have a:Sml 1 400 (.int (r:Int)):=Sml.nat (by omega);have b:=Cp hu lu;refine⟨(t3 a b).pl,by have:=(t3 (w:="at") a b).dp;omega,?_⟩;have:=b.sz;show 22+2+(60+2+(sz (.tup (us.map D.str))+2+0))+3<=_;omega
      refine Ok.bind ((t7 (N:=N+1) (m:=2) (F2.less (by omega)) (by omega) (by omega) (k+n)).mono ?_);rintro _ S3 ⟨r,rfl,hr,F3,K3⟩;refine Ok.eq (C7 _ _ S3)<|Ok.eq (i8 _ S3)<|Ok.ite (λ_=>?_) λ_=>fin ws S3 hw hl F3 (K2.tr K3);refine Ok.eq rfl<|Ok.eq (by rw[List.map_reverse];rfl)<|fin ws.reverse S3 (λw h=>hw w (List.mem_reverse.mp h)) (by rw[JS];exact hl) F3 (K2.tr K3)
   ·have c:5<=q:=by
     have:¬ ((q:Int)<5):=λz=>c (Hv z);omega
    obtain⟨n',rfl⟩:∃n',n=n'+1:=⟨n-1,by
     have:=λz=>by have:=q5 z;omega
     omega⟩
    have ec:cF (n'+1)=2 * cF n'+12:=rfl;have ez:zF (n'+1)=2 * zF n'+80:=rfl;refine Ok.nxt<|Ok.cg (xM ..)<|Ok.eq (C7 _ _ S1)<|Ok.eq (i8 _ S1)<|Ok.neg (by rw[Hs (by omega)];decide)<|Ok.nxt<|Ok.cg (xE ..)<|Ok.eq (fT _ _ S1)<|Ok.eq (i8 _ S1)<|Ok.neg (by rw[Hs (by omega)];decide) ?_;refine Ok.nxt<|Ok.cg (Ct ..)<|Ok.eq (ic (b:=1) (by omega) S1)<|Ok.bind ((O4 hv n' (N+cF n') k S1 (F1.less (by omega))).mono ?_);rintro a S2 ⟨ha,F2,K2⟩;refine Ok.nxt<|Ok.cg (EM ..)<|Ok.eq (fT _ _ S2)<|Ok.eq (i8 _ S2)<|Ok.ite (λ_=>?_) λc7=>?_
    ·exact Ok.ret ⟨(t2 ha).mono (by omega) (by omega),F2.less (by omega),K1.tr K2⟩
    ·have c7:7<=q:=by
      have:¬ ((q:Int)<7):=λz=>c7 (Hv z);omega
     refine Ok.nxt<|Ok.cg (Dv ..)<|Ok.eq (ic c7 S2) ?_;have go:∀w:Str,smB 0 70 (.str w)=true->ixD (.lst [.str "both",.str "either"]) (.int ((q-7:Nat):Int)) S2=.ok (.str w) S2->Ok (bind (ixD (.lst [.str "both",.str "either"]) (.int ((q-7:Nat):Int))) λx2=>bind (iI (.int ((n'+1:Nat):Int)) (.int 1)) λx3=>bind (rn (k+(n'+1)+1) gu [.ref p,x3,.int (v:Int)]) λx4=>nxt (evK Rs Γ (rn (k+(n'+1)+1)) 40) E9 [] endD (.rt (.tup [x2,a,x4]))) S2 λd S'=>Sml (n'+1+2) (zF (n'+1)) d/\Fw ns p N S'/\Kp p S S':=by
      intro w hw ew;refine Ok.eq ew<|Ok.eq (ic (b:=1) (by omega) S2)<|Ok.bind ((O4 hv n' N k S2 F2).mono ?_);rintro b S3 ⟨hb,F3,K3⟩;exact Ok.ret ⟨(t3 ha hb hw).mono (by omega) (by omega),F3,K1.tr (K2.tr K3)⟩
     have:q=7\/q=8:=by omega
     rcases this with rfl | rfl
     ·exact go "both" (by decide +kernel) rfl
     ·exact go "either" (by decide +kernel) rfl
  refine Ok.ite (λc=>?_) λc=>?_
  ·refine Ok.bind ((t7 (N:=N+cF n-1) (m:=9) (F.less (by omega)) (by omega) (by omega) (k+n)).mono ?_);rintro _ S1 ⟨q,rfl,hq,F1,K1⟩;exact main q S1 (λz=>by subst z;exact absurd (HR c) (by decide)) hq F1 K1
  ·refine Ok.bind ((t7 (N:=N+cF n-1) (m:=5) (F.less (by omega)) (by omega) (by omega) (k+n)).mono ?_);rintro _ S1 ⟨q,rfl,hq,F1,K1⟩;exact main q S1 (λ_=>hq) (by omega) F1 K1
theorem ci(F:Fw ns p N S)(h:Ex S S'):Fw ns p N S':=F.keep (h.at F.lt)
theorem Kp.tk(h:Kp p S S'):Tk p S S':=⟨Nat.le_of_eq h.1.symm,λq _ a=>h.2 q a⟩
theorem tO(ns:List Int)(S:Sto)(k:Nat):∃ms:List Int,rn (k+1) zS [.scr (ns.map D.int)] S=.ok (.ref S.length) (S++[j4 ms 0 0 0]):=by
 obtain⟨ms,a⟩:=mz ns;refine⟨ms,?_⟩;rw[rn,b8 rfl,vT,a8 (show slD (.scr (ns.map D.int)) none (some 63) S=.ok (.lst (B6 (ns.map D.int) none (some 63))) S from rfl),a];kernel_rfl
def yK:Fm:=.at_ 0 [.look,.holds,.right,.down]
def Fo:Fm:=.both (.mark 1) (.at_ 1 [.close,.look])
def f1:Fm:=.either (.no yK) .closed
def f2:Fm:=.either (.no .closed) (.at_ 0 [.look,.holds,.down])
def f3:Fm:=.either (.at_ 0 [.out]) (.no .free)
def f4:Fm:=.either (.no (.mark 0)) (.no (.at_ 0 [.out,.down]))
def f5:Fm:=.either (.no (.at_ 0 [.holds])) (.no Fo)
def f6:Fm:=.no (.both (.at_ 0 [.holds]) (.at_ 1 [.holds]))
def sixS:List Sen:=[⟨.each,f1⟩,⟨.some_,f2⟩,⟨.each,f3⟩,⟨.each,f4⟩,⟨.pairs,f5⟩,⟨.pairs,f6⟩]
def six:List D:=sixS.map Sen.d
theorem Q0(S:Sto)(l:List D)(d:D)(h:l.length<10):P7 (.ref S.length) [d] (S++[.lst l])=.ok .non (S++[.lst (l++[d])]):=by
 have e:(S++[O.lst l])[S.length]?=some (.lst l):=by simp
 simp only[P7,e];rw[if_pos (by rw[HB];omega)];congr 1;rw[List.set_append];simp
theorem Q4(S:Sto)(l:List D):lstOf (.ref S.length) (S++[.lst l])=.ok l (S++[.lst l]):=by
 have e:(S++[O.lst l])[S.length]?=some (.lst l):=by simp
 simp only[lstOf,e]
theorem AG(k:Nat)(S:Sto):rn (k+1) yC [] S=.ok (.ref S.length) (S++[.lst six]):=by
 suffices h:Ok (rn (k+1) yC []) S λd S'=>d=.ref S.length/\S'=S++[.lst six] by
  obtain⟨d,S',e,rfl,rfl⟩:=h;exact e
 rw[rn,b8 rfl,zG];have c:=Q0 S (six.take 1) (.tup [.str "some",f2.d]) (by decide);have a:=Q0 S (six.take 2) (.tup [.str "each",f3.d]) (by decide);have g:=Q0 S (six.take 3) (.tup [.str "each",f4.d]) (by decide);have f:=Q0 S (six.take 4) (.tup [.str "pairs",f5.d]) (by decide);have b:=Q0 S (six.take 5) (.tup [.str "pairs",f6.d]) (by decide);refine Ok.eq rfl ?_;refine Ok.eq (Q4 ..)<|Ok.eq c ?_;refine Ok.eq (Q4 ..)<|Ok.eq a ?_;refine Ok.eq (Q4 ..)<|Ok.eq g ?_;refine Ok.eq (Q4 ..)<|Ok.eq f ?_;refine Ok.eq (Q4 ..)<|Ok.eq b ?_;exact Ok.ret ⟨rfl,rfl⟩
theorem vr{ds:List D}(h:∀d∈ds,Any j Z d)(c:ds.length<=m):Any (j+1) ((Z+2) * m+3) (.tup ds):=by
 refine⟨Plns.up ds (Plns.of λd hd=>(h d hd).pl),?_,?_⟩
 ·have:∀l:List D,(∀d∈l,Any j Z d)->dps l<=3+j:=λl c=>by
   induction l with
   | nil=>exact HY _
   | cons d l f=>
    have a:=(c d Hf).dp;have b:=f λx e=>c x (Hh _ e);show max (dp d) (dps l)<=_;omega
  have:=this ds h;show dps ds+1<=_;omega
 ·have a:=dG λd hd=>(h d hd).sz;have b:(Z+2) * ds.length<=(Z+2) * m:=Nat.mul_le_mul_left _ c;show szs ds+3<=_;omega
def El(ds:List D):Prop:=ds.length<=13/\∀d∈ds,Any 3 2720 d
theorem El.any{ds:List D}(h:El ds):Any 4 35389 (.tup ds):=vr h.2 h.1
theorem jl(h:Sml n N d)(hn:n<=6):Any 3 N d:=⟨h.pl.ups,by have:=h.dp;omega,h.sz⟩
theorem fZ{ns:List Int}{p N n:Nat}(hn:n<=2)(k:Nat)(S:Sto)(F:Fw ns p (N+200) S):Ok (rn (k+5) Bb [.ref p,.int (n:Int)]) S λd S'=>Any 3 2720 d/\Fw ns p N S'/\Kp p S S':=by
 have z3:zF n<=2640/\cF n<=180:=by
  have:n=0\/n=1\/n=2:=by omega
  rcases this with rfl | rfl | rfl <;> decide
 rw[rn,b8 rfl,wu];refine Ok.bind ((t7 (N:=N+180) (m:=4) (F.less (by omega)) (by omega) (by omega) (k+3)).mono ?_);rintro _ S1 ⟨r,rfl,hr,F1,K1⟩;have go:∀(w:Str)(v:Nat),v<=2->smB 0 70 (.str w)=true->ixD (.lst [.str "each",.str "some",.str "pairs",.str "plain"]) (.int (r:Int)) S1=.ok (.str w) S1->ixD (.lst [.int 1,.int 1,.int 2,.int 0]) (.int (r:Int)) S1=.ok (.int (v:Int)) S1->Ok (bind (ixD (.lst [.str "each",.str "some",.str "pairs",.str "plain"]) (.int (r:Int))) λx2=>bind (ixD (.lst [.int 1,.int 1,.int 2,.int 0]) (.int (r:Int))) λx3=>bind (rn (k+4) gu [.ref p,.int (n:Int),x3]) λx4=>ret (.tup [x2,x4])) S1 λd S'=>Any 3 2720 d/\Fw ns p N S'/\Kp p S S':=by
  intro w v hv hw e1 e2;have fd:=O4 (ns:=ns) (p:=p) hv n N (k+2-n) S1 (F1.less (by omega));rw[show k+2-n+n+2=k+4 by omega]at fd;refine Ok.eq e1<|Ok.eq e2<|Ok.bind (fd.mono ?_);rintro d S2 ⟨hd,F2,K2⟩;exact Ok.ret ⟨jl ((t2 hd hw).mono (n':=6) (by omega) (by omega)) (by omega),F2,K1.tr K2⟩
 have:r=0\/r=1\/r=2\/r=3:=by omega
 rcases this with rfl | rfl | rfl | rfl
 ·exact go "each" 1 (by decide) (by decide +kernel) rfl rfl
 ·exact go "some" 1 (by decide) (by decide +kernel) rfl rfl
 ·exact go "pairs" 2 (by decide) (by decide +kernel) rfl rfl
 ·exact go "plain" 0 (by decide) (by decide +kernel) rfl rfl
theorem oB:El six:=⟨by decide,λd hd=>by
 have:six.all (smB 6 2000)=true:=by decide +kernel
 have:=HL.mp this d hd;exact jl ((Sml.w this).mono (Hd _) (by omega)) (Hd _)⟩
theorem Em:Γ.sub 2 2=true:=by kernel_rfl
theorem pA(x:Int)(ns:List Int)(S:Sto):b7 .NotIn (.int x) (.lst (ns.map D.int)) S=.ok (.bl (!decide (x∈ns))) S:=by
 show inD true (.int x) (.lst (ns.map D.int)) S=_;unfold inD;have e:j7 64 S (.lst (ns.map D.int))=some (.list (ns.map PyData.int)):=by
  show(e9 (j7 63 S) (ns.map D.int)).map PyData.list=_;rw[dg 62 S ns];rfl
 rw[e];show X9 true (.int x) (ns.map PyData.int) S=_;unfold X9;rw[if_pos ⟨rfl,gz ns,by simp[PyData.depth]⟩,iE];rfl
theorem mw{n:Nat}(h1:1<=n)(h3:n<=3)(S:Sto):L0 (.tup [(.str "out")]) (.int (n:Int)) S=.ok (.tup ((s0 n).ws.map Wo.d)) S:=by
 have:n=1\/n=2\/n=3:=by omega
 rcases this with rfl | rfl | rfl <;> kernel_rfl
theorem nJ{n:Nat}{d:D}{w:Str}{i k:Nat}{S:Sto}(x:Xn (rn (k+11) jM [.int (n:Int),d]) S (Xs w i S)):Ok (rn (k+13) gY [.int (n:Int),d]) S λr S'=>r=.bl false/\Ex S S':=by
 rw[rn,b8 rfl,im,kA];refine Ok.first<|Ok.cg (xV ..)<|Ok.bind<|Ok.caught ?_;refine Xn.cg (aE ..)<|Xn.bind ?_;show Xn (rn (k+12) ng [.int (n:Int),d]) S _;rw[rn,b8 rfl,kG];refine Xn.bind (x.mono ?_);intro m S1 ⟨e1,ex⟩;refine⟨2,_,e1,Em,?_⟩;unfold qC;rw[eC];exact Ok.first<|Ok.cg (lE ..)<|Ok.ret<|Ok.ret ⟨rfl,ex⟩
theorem wC{n:Nat}{d:D}{k:Nat}{S:Sto}(x:Ok (rn (k+11) jM [.int (n:Int),d]) S λ_ S'=>Ex S S'):Ok (rn (k+13) gY [.int (n:Int),d]) S λr S'=>r=.bl true/\Ex S S':=by
 rw[rn,b8 rfl,im,kA];refine Ok.first<|Ok.cg (xV ..)<|Ok.bind<|Ok.try_ ?_;refine Ok.cg (aE ..)<|Ok.bind ?_;show Ok (rn (k+12) ng [.int (n:Int),d]) S _;rw[rn,b8 rfl,kG];refine Ok.bind (x.mono ?_);intro _ S1 ex;exact Ok.ret<|Ok.ret<|Ok.ret ⟨rfl,ex⟩
structure Car(n:Nat)(ps:List Sen):Prop where
 ok:∀q∈ps,SOk q
 f0:j2 ps (s0 n)=none
 st:∀s t i,DI n s->j2 ps s=none->i<n->step s i=some t->j2 ps t=none
theorem Ai{ps:List Sen}(ok:∀q∈ps,SOk q)(h:R5 n ps=none):Car n ps:=by
 unfold R5 at h;cases e:j2 ps (s0 n) with
 | some i=>rw[e]at h;cases h
 | none=>
  rw[e]at h;have e2:=List.min?_eq_none_iff.mp (Option.map_eq_none_iff.mp h);refine⟨ok,e,λs t i V hf hi est=>?_⟩;cases z:j2 ps t with
  | none=>rfl
  | some k=>
   have:k∈led n ps:=IZ.mpr ⟨s,JB.mpr ⟨all_mem.mpr V,by rw[hf];rfl⟩,Jb.mpr ⟨t,Jb.mpr ⟨i,Ij.mpr hi,est⟩,z⟩⟩;rw[e2]at this;cases this
theorem wY(h:Any j N d)(hj:j<=40)(hN:N<=100000){n:Nat}(h1:1<=n)(h3:n<=3)(k:Nat)(S:Sto):Ok (rn (k+13) gY [.int (n:Int),d]) S λr S'=>(r=.bl false\/(r=.bl true/\∃ps,d=paD ps/\Car n ps))/\Ex S S':=by
 cases e:shp d with
 | some i=>
  refine(nJ (w:="shape") (i:=i) ?_).mono λr S' ⟨q,x⟩=>⟨.inl q,x⟩;rw[rn,b8 rfl,gQ,iL];exact Xn.first<|Xn.cg (yM ..)<|Xn.bind (nC h hj hN (k+4) S e)
 | none=>
  obtain⟨ps,rfl,ok,hl⟩:=yg e;cases e2:R5 n ps with
  | none=>exact(wC ((xB h3 ok h hj hN e h1 hl e2 k S).mono λ_ _ q=>q.2)).mono λr S' ⟨q,x⟩=>⟨.inr ⟨q,ps,rfl,Ai ok e2⟩,x⟩
  | some p=>exact(nJ (ym h3 ok h hj hN e h1 hl e2 k S)).mono λr S' ⟨q,x⟩=>⟨.inl q,x⟩
section
variable {ns:List Int}{p n:Nat}(h1:1<=n)(h3:n<=3){ps:List Sen}(hc:Car n ps)
abbrev e8(p n:Nat)(ps:List Sen)(s:Dst)(zs:List Int)(o4 o6 o7:Option D):L3.Env:=[some (.ref p),some (.int (n:Int)),some (paD ps),some s.d,o4,some (.lst (zs.map D.int)),o6,o7]
include h1 h3 hc
theorem uB(S:Sto)(F:Fw ns p (N+3) S):Ok (bind (u7 [.int (n:Int)]) λsm2=>i5 sm2.1 (λd1=>bind (rn 13 U4 [.ref p,.int 4]) λx3=>bind (b7 .Eq x3 (.int 0)) λx4=>bind (asB x4) λz5=>ret z5) (λd1=>ret d1) sm2.2 0 []) S λes S'=>(∃zs:List Int,es=zs.map D.int)/\Fw ns p N S'/\Tk p S S':=by
 refine Ok.eq (gT (by omega) S) ?_;refine(Ok.comp (λi S' es=>(∃zs:List Int,es=zs.map D.int/\zs.length<=i)/\Fw ns p (N+(3-i)) S'/\Tk p S S') (λS' es _=>T9 n S') (λi S' es hi ⟨⟨zs,ez,lz⟩,F',tk⟩=>?_) ⟨⟨[],rfl,Hd _⟩,F,Tk.refl _ _⟩).mono ?_
 ·have e:N+(3-i)=N+(3-(i+1))+1:=by omega
  rw[e]at F';obtain⟨_,S2,e2,r,rfl,hr,F2,K2⟩:=t7 (m:=4) F' (by decide) (by decide) 12;have tk2:=tk.trans K2.tk;refine⟨_,aJ hi S',decide ((r:Int)=0),S2,(a8 e2).trans ((a8 (C7 _ _ S2)).trans (a8 (i8 _ _))),?_⟩;cases decide ((r:Int)=0) with
  | true=>
   rw[if_pos rfl];exact⟨_,S2,rfl,by rw[ez,Hc,HB];omega,⟨zs++[(i:Int)],by rw[ez,IB];rfl,by rw[Hu,Ia];omega⟩,F2,tk2⟩
  | false=>
   rw[if_neg He];exact⟨⟨zs,ez,by omega⟩,F2,tk2⟩
 ·rintro es S' ⟨⟨zs,ez,_⟩,F',tk⟩;exact⟨⟨zs,ez⟩,F'.less (by omega),tk⟩
theorem vq(S:Sto)(F:Fw ns p (N+30) S):Ok (rn 14 zc [.ref p,.int (n:Int),paD ps]) S λr S'=>r=.bl true/\Fw ns p N S'/\Tk p S S':=by
 rw[rn,b8 rfl,uP,wy];refine Ok.first<|Ok.cg (CN ..)<|Ok.eq (mw h1 h3 S) ?_;refine Ok.nxt<|Ok.cg (Bu ..)<|nx_bind<|((uB h1 h3 hc (N:=N+20) S (F.less (by omega))).mono ?_);rintro _ S1 ⟨⟨zs,rfl⟩,F1,tk1⟩;obtain⟨m6,hm6⟩:∃m,m=6 * n:=⟨_,rfl⟩;have em:L0 (.int 6) (.int (n:Int)) S1=.ok (.int (m6:Int)) S1:=by
  have:n=1\/n=2\/n=3:=by omega
  rcases this with rfl | rfl | rfl <;> subst hm6 <;> kernel_rfl
 refine Ok.nxt<|Ok.cg (Dl ..)<|Ok.eq em<|Ok.eq (gT (by omega) S1)<|Ok.bind ?_;refine(Ok.loop (λi ρ S'=>(∃s o4 o6 o7,ρ=e8 p n ps s zs o4 o6 o7/\DI n s/\j2 ps s=none)/\Fw ns p (N+(m6-i)) S'/\Tk p S S') (λρ S' _=>T9 _ S') (λi ρ S' hi ⟨⟨s,o4,o6,o7,er,V,hf⟩,F',tk⟩=>?_) ⟨⟨s0 n,_,_,_,rfl,rg n,hc.f0⟩,F1.less (by omega),tk1⟩).mono ?_
 ·subst er;refine⟨_,_,aJ hi S',rfl,?_⟩;unfold eL;rw[fL];have so:=fK hc.ok (sC h3 V) 3 S';rw[hf]at so;refine Ok.first<|Ok.cg (mJ ..)<|Ok.eq so<|Ok.eq rfl<|Ok.neg (by decide) ?_;have e:N+(m6-i)=N+(m6-(i+1))+1:=by omega
  rw[e]at F';refine Ok.nxt<|Ok.cg (lN ..)<|Ok.bind ((t7 F' (by omega) (by omega) 12).mono ?_);rintro _ S2 ⟨h,rfl,hh,F2,K2⟩;have tk2:=tk.trans K2.tk;refine Ok.nxt<|Ok.cg (kw ..)<|Ok.eq (pA _ zs S2)<|Ok.eq (i8 _ _) ?_;have go:∀κ:Fl->M Fl,(∀s o7 S3,DI n s->j2 ps s=none->Fw ns p (N+(m6-(i+1))) S3->Tk p S S3->Ok (κ (.nx (e8 p n ps s zs (some (.int (h:Int))) (some (.int (i:Int))) o7))) S3 λfl S'=>∃ρ',(fl=.nx ρ'\/fl=.ct ρ')/\(∃s o4 o6 o7,ρ'=e8 p n ps s zs o4 o6 o7/\DI n s/\j2 ps s=none)/\Fw ns p (N+(m6-(i+1))) S'/\Tk p S S')->Ok (bind (rn 13 ij [s.d,.int (h:Int)]) λx3=>bind (b7 .Is x3 .non) λx4=>bind (asB x4) λz5=>if z5=true then (κ (.nx (e8 p n ps s zs (some (.int (h:Int))) (some (.int (i:Int))) (some x3))))else (κ (.nx [some (.ref p),some (.int (n:Int)),some (paD ps),some x3,some (.int (h:Int)),some (.lst (zs.map D.int)),some (.int (i:Int)),some x3]))) S2 λfl S'=>∃ρ',(fl=.nx ρ'\/fl=.ct ρ')/\(∃s o4 o6 o7,ρ'=e8 p n ps s zs o4 o6 o7/\DI n s/\j2 ps s=none)/\Fw ns p (N+(m6-(i+1))) S'/\Tk p S S':=λκ hk=>by
   refine Ok.bind ((mq V hh h3 12 S2).mono ?_);rintro _ S3 ⟨rfl,ex⟩;unfold ck;cases est:step s h with
   | none=>exact Ok.eq rfl<|Ok.eq rfl<|Ok.pos rfl<|hk s _ S3 V hf (ci F2 ex) (tk2.trans ex.tk)
   | some t=>exact Ok.eq rfl<|Ok.eq (a:=false) rfl<|Ok.neg (by decide)<|hk t _ S3 (V.step hh est) (hc.st s t h V hf hh est) (ci F2 ex) (tk2.trans ex.tk)
  have fin:∀s o7 S3,DI n s->j2 ps s=none->Fw ns p (N+(m6-(i+1))) S3->Tk p S S3->Ok (nxt (evK Rs Γ (rn 13) 39) M9 [] ret (.nx (e8 p n ps s zs (some (.int (h:Int))) (some (.int (i:Int))) o7))) S3 λfl S'=>∃ρ',(fl=.nx ρ'\/fl=.ct ρ')/\(∃s o4 o6 o7,ρ'=e8 p n ps s zs o4 o6 o7/\DI n s/\j2 ps s=none)/\Fw ns p (N+(m6-(i+1))) S'/\Tk p S S':=λs o7 S3 V hf F3 t3=>Ok.ret ⟨_,.inl rfl,⟨s,_,_,_,rfl,V,hf⟩,F3,t3⟩;refine Ok.ite (λ_=>go _ fin) λ_=>?_;refine Ok.eq (fT _ _ S2)<|Ok.eq (i8 _ _)<|Ok.ite (λ_=>go _ fin) λ_=>fin s _ S2 V hf F2 tk2
 ·rintro _ S' ⟨ρ,rfl,⟨s,o4,o6,o7,rfl,V,hf⟩,F',tk⟩;have so:=fK hc.ok (sC h3 V) 3 S';rw[hf]at so;exact Ok.nxt<|Ok.cg (FA ..)<|Ok.eq so<|Ok.ret ⟨rfl,F'.less (by omega),tk⟩
end
theorem DY{q:Nat}{S:Sto}(e:S[q]?=some (.lst (es++[y]))):ixD (.ref q) (.int (-1)) S=.ok y S:=by
 have:=vc (ds:=es++[y]) (d:=y) S (by simp);have this:Y1 (atI (es++[y]) (-1)) S=.ok y S:=this;simp only[ixD,e,this]
def P6(d:D):Prop:=∃ds,d=.tup ds/\ds.length<=6/\∀x∈ds,Any 3 2720 x
def P13(d:D):Prop:=∃ds,d=.tup ds/\El ds
theorem P6.up(h:P6 d):P13 d:=let ⟨ds,e,l,a⟩:=h;⟨ds,e,HJ l (by decide),a⟩
section
variable {ns:List Int}{p:Nat}
theorem Av(S:Sto)(F:Fw ns p (N+6) S):Ok (bind (k4 (.tup six)) λsm2=>i5 sm2.1 (λd1=>bind (rn 13 U4 [.ref p,.int 3]) λx3=>bind (b7 .Gt x3 (.int 0)) λx4=>bind (asB x4) λz5=>ret z5) (λd1=>ret d1) sm2.2 0 []) S λes S'=>(es.length<=6/\∀d∈es,Any 3 2720 d)/\Fw ns p N S':=by
 refine Ok.eq (cj six S) ?_;refine(Ok.comp (n:=6) (λi S' es=>(es.length<=i/\∀d∈es,Any 3 2720 d)/\Fw ns p (N+(6-i)) S') (λS' es _=>rfl) (λi S' es hi ⟨⟨l,a⟩,F'⟩=>?_) ⟨⟨Hd _,λd hd=>by cases hd⟩,F⟩).mono ?_
 ·have e:N+(6-i)=N+(6-(i+1))+1:=by omega
  rw[e]at F';obtain⟨_,S2,e2,r,rfl,hr,F2,_⟩:=t7 (m:=3) F' (by decide) (by decide) 12;have hi':=hi;refine⟨six[i],by show some six[i]?=_;rw[Hi hi'],decide (0<(r:Int)),S2,(a8 e2).trans ((a8 (bz _ _ S2)).trans (a8 (i8 _ _))),?_⟩;cases decide (0<(r:Int)) with
  | true=>
   rw[if_pos rfl];refine⟨_,S2,rfl,by rw[HB];omega,⟨by rw[Hu,Ia];omega,λd hd=>?_⟩,F2⟩;rcases Hz.mp hd with hd | hd
   ·exact a d hd
   ·rw[Hm.mp hd];exact oB.2 _ (HG hi')
  | false=>
   rw[if_neg He];exact⟨⟨by omega,a⟩,F2⟩
 ·rintro es S' ⟨h,F'⟩;exact⟨h,F'.less (by omega)⟩
def Ls(ls:List D):Prop:=∃a b r,ls=a::b::r/\P6 a/\P6 b/\ls.length<=6/\∀d∈ls,P13 d
theorem mK(S:Sto)(F:Fw ns p (N+500) S):Ok (rn 14 zZ [.ref p]) S λr S'=>∃q ls,r=.ref q/\S'[q]?=some (.lst ls)/\Ls ls/\q≠p/\Fw ns p N S':=by
 rw[rn,b8 rfl,vW,uV];have F1:Fw ns p (N+500) (S++[.lst six]):=F.push _;refine Ok.first<|Ok.cg (DK ..)<|Ok.eq (AG 12 S)<|Ok.eq (by
  show bind (aI (.ref S.length)) _ _=_;rw[a8 (show aI (.ref S.length) (S++[.lst six])=.ok six (S++[.lst six]) by
   have e:(S++[O.lst six])[S.length]?=some (.lst six):=by simp
   simp only[aI,e,lstOf])]
  rfl) ?_
 refine Ok.nxt<|Ok.cg (Ej ..)<|nx_bind<|((Av (N:=N+450) _ (F1.less (by omega))).mono ?_);rintro es S2 ⟨he,F2⟩;refine Ok.eq rfl<|Ok.eq (nU (HQ rfl)) ?_;have e3:(S2++[O.lst [D.tup six,D.tup es]])[S2.length]?=some (.lst [D.tup six,D.tup es]):=by simp
 have F3:Fw ns p (N+450) (S2++[.lst [D.tup six,D.tup es]]):=F2.push _;have ne:=Lv F2.lt;generalize S2.length=q at e3 ne;generalize S2++[O.lst [D.tup six,D.tup es]]=S3 at e3 F3;have s6:P6 (.tup six):=⟨six,rfl,by decide,oB.2⟩;have e6:P6 (.tup es):=⟨es,rfl,he⟩;refine Ok.nxt<|Ok.cg (Cn ..)<|Ok.eq rfl<|Ok.bind ?_;refine(Ok.loop (λi ρ S'=>∃o1 o3 ls,ρ=[some (.ref p),o1,some (.ref q),o3]/\S'[q]?=some (.lst ls)/\(∃a b r,ls=a::b::r/\P6 a/\P6 b)/\ls.length=2+2 * i/\(∀d∈ls,P13 d)/\Fw ns p (N+210 * (2-i)) S') (λρ S' _=>T9 2 S') (λi ρ S' hi ⟨o1,o3,ls,er,es',⟨a,b,r,eab,pa,pb⟩,ll,al,F'⟩=>?_) ⟨_,_,_,rfl,e3,⟨_,_,_,rfl,s6,e6⟩,rfl,(λd hd=>by
  rcases Ho.mp hd with rfl | hd
  ·exact s6.up
  ·rw[Hm.mp hd];exact e6.up),F3.less (by omega)⟩).mono ?_
 ·subst er;refine⟨_,_,aJ hi S',rfl,?_⟩;unfold gM;rw[gA];have e:N+210 * (2-i)=N+210 * (2-(i+1))+210:=by omega
  rw[e]at F';refine Ok.first<|Ok.cg (kn ..)<|Ok.eq (pE es')<|Ok.bind ((t7 (N:=N+210 * (2-(i+1))+205) (m:=2) (F'.less (by omega)) (by decide) (by decide) 12).mono ?_);rintro _ T1 ⟨m,rfl,hm,G1,K1⟩;refine Ok.eq (a:=.int ((1+m:Nat):Int)) (by show R.ok _ _=_;rw[Int.natCast_add];rfl) ?_;refine Ok.bind ((fZ (by omega) 8 T1 G1).mono ?_);rintro one T2 ⟨hone,G2,K2⟩;have et2:T2[q]?=some (.lst ls):=by rw[K2.2 q ne,K1.2 q ne];exact es'
  have lq:=(Hb.mp et2).1;have p1:P13 (.tup [one]):=⟨[one],rfl,HQ rfl,λx hx=>by rw[Hm.mp hx];exact hone⟩;refine Ok.eq (xY et2 (by rw[ll,HB];omega)) ?_;have et3:(T2.set q (.lst (ls++[.tup [one]])))[q]?=some (.lst (ls++[.tup [one]])):=HV lq;have G3:Fw ns p (N+210 * (2-(i+1))+5) (T2.set q (.lst (ls++[.tup [one]]))):=G2.keep (HP ne);generalize T2.set q (.lst (ls++[.tup [one]]))=T3 at et3 G3;refine Ok.nxt<|Ok.cg (mD ..)<|Ok.eq (pE et3)<|Ok.bind ((t7 (N:=N+210 * (2-(i+1))) (m:=2) (G3.less (by omega)) (by decide) (by decide) 12).mono ?_);rintro _ T4 ⟨u,rfl,hu,G4,K4⟩;have et4:T4[q]?=some (.lst (ls++[.tup [one]])):=by rw[K4.2 q ne];exact et3
  have lq4:=(Hb.mp et4).1;have pk:∃ds,(ls++[D.tup [one]])[u]?=some (.tup ds)/\ds.length<=6/\∀x∈ds,Any 3 2720 x:=by
   have:u=0\/u=1:=by omega
   rw[eab];rcases this with rfl | rfl
   ·obtain⟨ds,rfl,h⟩:=pa;exact⟨ds,rfl,h⟩
   ·obtain⟨ds,rfl,h⟩:=pb;exact⟨ds,rfl,h⟩
  obtain⟨ds,eu,l6,ad⟩:=pk;refine Ok.eq (Dh et4 eu)<|Ok.eq rfl<|Ok.eq (DY et4)<|Ok.eq (cat_tup (by rw[Ia,HB];omega)) ?_;refine Ok.eq (xY et4 (by rw[Hu,ll,Ia,HB];omega)) ?_;have pn:P13 (.tup (ds++[one])):=⟨_,rfl,by rw[Hu,Ia];omega,λx hx=>by
   rcases Hz.mp hx with hx | hx
   ·exact ad x hx
   ·rw[Hm.mp hx];exact hone⟩
  refine Ok.ret ⟨_,.inl rfl,_,_,ls++[.tup [one]]++[.tup (ds++[one])],rfl,HV lq4,⟨a,b,r++[.tup [one]]++[.tup (ds++[one])],by rw[eab];rfl,pa,pb⟩,by rw[Hu,Hu,ll];show 2+2 * i+1+1=_;omega,λd hd=>?_,G4.keep (HP ne)⟩;rcases Hz.mp hd with hd | hd
  ·rcases Hz.mp hd with hd | hd
   ·exact al d hd
   ·rw[Hm.mp hd];exact p1
  ·rw[Hm.mp hd];exact pn
 ·rintro _ S' ⟨ρ,rfl,o1,o3,ls,rfl,es',⟨a,b,r,eab,pa,pb⟩,ll,al,F'⟩;exact Ok.nxt<|Ok.cg (Co ..)<|Ok.ret ⟨q,ls,rfl,es',⟨a,b,r,eab,pa,pb,by omega,al⟩,ne,F'⟩
end
theorem pd{n:Nat}(h1:1<=n)(h3:n<=3){d:D}(hd:P13 d){N:Nat}(o0 o3 o5:Option D)(S:Sto)(F:Fw ns p (N+120) S):Ok (aO (rn 14) [o0,some (.ref p),some (.int (n:Int)),o3,some d,o5]) S λfl S'=>(∃o5,fl=.nx [o0,some (.ref p),some (.int (n:Int)),o3,some d,o5])/\Fw ns p N S'/\Tk p S S':=by
 obtain⟨ds,rfl,hE⟩:=hd;unfold aO;rw[fz];refine Ok.first<|Ok.cg (lF ..)<|Ok.bind ((wY hE.any (by decide) (by decide) h1 h3 1 S).mono ?_);rintro r S1 ⟨rfl | ⟨rfl,ps,ed,hc⟩,ex⟩
 ·exact Ok.eq rfl<|Ok.neg (by decide)<|Ok.ret ⟨⟨_,rfl⟩,(ci F ex).less (by omega),ex.tk⟩
 ·refine Ok.eq rfl<|Ok.pos rfl ?_;rw[Y0,ed];refine Ok.first<|Ok.cg (bU ..)<|Ok.eq rfl<|Ok.bind ?_;refine(Ok.loop (λi ρ S'=>(∃o5,ρ=[o0,some (.ref p),some (.int (n:Int)),o3,some (paD ps),o5])/\Fw ns p (N+30 * (4-i)) S'/\Tk p S S') (λρ S' _=>T9 4 S') (λi ρ S' hi ⟨⟨o5,er⟩,F',tk⟩=>?_) ⟨⟨_,rfl⟩,ci F ex,ex.tk⟩).mono ?_
  ·subst er;refine⟨_,_,aJ hi S',rfl,?_⟩;unfold C5;rw[M3];have e:N+30 * (4-i)=N+30 * (4-(i+1))+30:=by omega
   rw[e]at F';refine Ok.first<|Ok.cg (Q6 ..)<|Ok.bind ((vq h1 h3 hc S' F').mono ?_);rintro _ S2 ⟨rfl,F2,t2⟩;exact Ok.eq rfl<|Ok.neg (by decide)<|Ok.ret ⟨_,.inl rfl,⟨_,rfl⟩,F2,tk.trans t2⟩
  ·rintro _ S' ⟨ρ,rfl,⟨o5,rfl⟩,F',tk⟩;exact Ok.ret ⟨⟨_,rfl⟩,F',tk⟩
theorem AW(ns:List Int):∃S',rn 15 oJ [.scr (ns.map D.int)] []=.ok (.bl true) S':=by
 suffices h:Ok (rn 15 oJ [.scr (ns.map D.int)]) [] λr _=>r=.bl true by
  obtain⟨r,S',e,rfl⟩:=h;exact⟨S',e⟩
 rw[rn,b8 rfl,wX,vU];obtain⟨ms,ef⟩:=tO ns [] 13;refine Ok.first<|Ok.cg (Ck ..)<|Ok.eq ef ?_;have F0:Fw ms 0 9000 ([]++[j4 ms 0 0 0]):=⟨0,0,0,rfl,by decide,by decide,by decide,by decide⟩;refine Ok.nxt<|Ok.cg (CU ..)<|Ok.bind ((t7 (N:=8000) (m:=4) (F0.less (by decide)) (by decide) (by decide) 13).mono ?_);rintro _ S1 ⟨r,rfl,hr,F1,_⟩;have pn:∃n:Nat,ixD (.lst [(.int 2),(.int 2),(.int 2),(.int 1)]) (.int (r:Int)) S1=.ok (.int (n:Int)) S1/\1<=n/\n<=3:=by
  have:r=0\/r=1\/r=2\/r=3:=by omega
  rcases this with rfl | rfl | rfl | rfl
  ·exact⟨2,rfl,by decide,by decide⟩
  ·exact⟨2,rfl,by decide,by decide⟩
  ·exact⟨2,rfl,by decide,by decide⟩
  ·exact⟨1,rfl,by decide,by decide⟩
 obtain⟨n,en,h1,h3⟩:=pn;refine Ok.eq en ?_;refine Ok.nxt<|Ok.cg (Dk ..)<|Ok.bind ((mK (N:=7000) S1 (F1.less (by decide))).mono ?_);rintro _ S2 ⟨q,ls,rfl,e2,⟨a,b,rs,eab,pa,pb,ll,al⟩,ne,F2⟩;refine Ok.nxt<|Ok.cg (Dc ..)<|Ok.bind ((t7 (N:=6000) (F2.less (by decide)) (by decide) (by decide) 13).mono ?_);rintro _ S3 ⟨u,rfl,hu,F3,K3⟩;have e3:S3[q]?=some (.lst ls):=by rw[K3.2 q ne];exact e2
 refine Ok.eq (C7 _ _ S3)<|Ok.eq (i8 _ _)<|Ok.ite (λ_=>?_) λ_=>?_
 ·obtain⟨ds,rfl,l6,ad⟩:=pa;have s3:=vi ds none (some 3);have pc:P13 (.tup (B6 ds none (some 3))):=⟨_,rfl,HJ s3.length_le (HJ l6 (by decide)),λx hx=>ad x (s3.subset hx)⟩;refine Ok.eq (Dh e3 (by rw[eab];rfl))<|Ok.eq rfl ?_;refine Ok.nxt<|Ok.cg (xy ..)<|Ok.eq rfl<|Ok.bind ?_;refine(Ok.loop (n:=1) (λi ρ S'=>(∃o4 o5,ρ=[some (.scr (ns.map D.int)),some (.ref 0),some (.int 3),some (.lst [.tup (B6 ds none (some 3))]),o4,o5])/\Fw ms 0 (5000+120 * (1-i)) S') (λρ S' _=>rfl) (λi ρ S' hi ⟨⟨o4,o5,er⟩,F'⟩=>?_) ⟨⟨_,_,rfl⟩,F3.less (by decide)⟩).mono ?_
  ·subst er;have i0:i=0:=by omega
   subst i0;refine⟨.tup (B6 ds none (some 3)),_,rfl,rfl,?_⟩;refine(pd (by decide) (by decide) pc _ _ _ S' F').mono ?_;rintro _ S4 ⟨⟨o5,rfl⟩,F4,_⟩;exact⟨_,.inl rfl,⟨_,_,rfl⟩,F4⟩
  ·rintro _ S' ⟨ρ,rfl,⟨o4,o5,rfl⟩,_⟩;exact Ok.nxt<|Ok.cg (xJ ..)<|Ok.ret rfl
 ·refine Ok.nxt<|Ok.cg (xy ..)<|Ok.eq (S1:=S3) (a:=(O8 q,ls.length+1)) (by simp only[k4,e3])<|Ok.bind ?_;refine(Ok.loop (λi ρ S'=>(∃o4 o5,ρ=[some (.scr (ns.map D.int)),some (.ref 0),some (.int (n:Int)),some (.ref q),o4,o5])/\S'[q]?=some (.lst ls)/\Fw ms 0 (5000+120 * (ls.length-i)) S') (λρ S' h=>by show O8 q ls.length S'=_;unfold O8;rw[h.2.1];dsimp only;rw[HM (Hd _)]) (λi ρ S' hi ⟨⟨o4,o5,er⟩,eq,F'⟩=>?_) ⟨⟨_,_,rfl⟩,e3,F3.less (by omega)⟩).mono ?_
  ·subst er;refine⟨ls[i],_,by show O8 q i S'=_;unfold O8;rw[eq];dsimp only;rw[Hi hi],rfl,?_⟩;have e:5000+120 * (ls.length-i)=5000+120 * (ls.length-(i+1))+120:=by omega
   rw[e]at F';refine(pd h1 h3 (al _ (HG hi)) _ _ _ S' F').mono ?_;rintro _ S4 ⟨⟨o5,rfl⟩,F4,tk⟩;exact⟨_,.inl rfl,⟨_,_,rfl⟩,by rw[tk.2 q (Hb.mp eq).1 ne];exact eq,F4⟩
  ·rintro _ S' ⟨ρ,rfl,⟨o4,o5,rfl⟩,_⟩;exact Ok.nxt<|Ok.cg (xJ ..)<|Ok.ret rfl
end L3.K08
namespace L3.K08
open PySem L2 Hn
abbrev iHE:Stmt:=dE (top 1) 0
abbrev iNS:Stmt:=dE (top 2) 0
abbrev iNP:Stmt:=dE (top 3) 0
section
variable {P:Program}{w:World}{K:PySem.W.Frag}{mg:Str->Option Value}{base:Heap}{f fB B:Addr}{fd fdB:FuncData}
theorem FY:FnScope ["self","text"] ["self","text"] (c9 iHE):=⟨rfl,rfl,rfl,by decide +kernel,rfl,by decide +kernel,by decide +kernel⟩
theorem sF(F:Fun K "__init__" "HandError.__init__" iHE f fd) (T:TxE K mg B fB):FnOk P w K mg base CX0 1 f fd ["self","text"] (spHE K):=by
 refine F.ok FY (λvs H Q E h=>?_) (λcdv A outer s H vs Q E hr h=>?_)
 ·obtain⟨x,y,C,d,rfl,_⟩:=h;rfl
 ·obtain⟨x,y,C,d,rfl,M,e0,k⟩:=h;refine⟨_,dD (Z8 (nl rfl T.mV T.fV (y0 (pv 0) (y0 (pv 1) ax)))),?_⟩;exact⟨_,rfl,_,rfl,x,C,d,y,rfl,M,e0,k⟩
theorem GZ:FnScope ["self","hand"] ["self","hand"] (c9 iNS):=⟨rfl,rfl,rfl,by decide +kernel,rfl,by decide +kernel,by decide +kernel⟩
theorem Ez(F:Fun K "__init__" "NoStep.__init__" iNS f fd) (T:TxE K mg B fB) (FB:Fun K "__init__" "HandError.__init__" iHE fB fdB) (bB:Binds K fdB ["self","text"] []):FnOk P w K mg base CX0 2 f fd ["self","hand"] (sp1 K "hand"):=by
 have G:FnOk P w K mg base CX0 1 fB fdB ["self","text"] (spHE K):=sF FB T;refine F.ok GZ (λvs H Q E h=>?_) (λcdv A outer s H vs Q E hr h=>?_)
 ·obtain⟨x,v,C,dv,rfl,_⟩:=h;rfl
 ·obtain⟨x,v,C,dv,rfl,M,na,e0,ft,k⟩:=h;have hu:(A.deeper (PyProof.Rows.envOfC "NoStep.__init__" (c9 iNS) s.heap.objs.size f cdv)).units+80<cLine:=by have:=hr.un;omega
  refine⟨_,Q8 (Z8 (ff rfl T.mB T.sB T.rB T.cB T.kB G hr bB eP (y0 (pv 0) (y0 (jV (Z7 (dF hr.gd hu (pv 1) (Z7 iw))) (by decide)) ax))))
   (dD (dB (pv 0) (pv 1) rfl)),?_⟩
  refine⟨_,rfl,_,rfl,dv,ft.at_,ft.sh,ft.l1,ft.l2,λz hz=>?_⟩;refine⟨x,.str z,C,none,rfl,M,e0,?_⟩;refine⟨_,rfl,_,rfl,x,C,rfl,M,na,.inl ⟨e0,λd hd=>?_⟩⟩;have ne:d≠x:=λq=>by rw[q,e0]at hd;cases hd
  exact k _ ⟨d,hd,ne,b9,by rw[a9 ne,b9],λb hb hb2=>by rw[a9 hb,a9 hb2]⟩
theorem Fs:FnScope ["self","word","at"] ["self","word","at"] (c9 iNP):=⟨rfl,rfl,rfl,by decide +kernel,rfl,by decide +kernel,by decide +kernel⟩
theorem Ep(F:Fun K "__init__" "NoPaper.__init__" iNP f fd) (T:TxE K mg B fB) (FB:Fun K "__init__" "HandError.__init__" iHE fB fdB) (bB:Binds K fdB ["self","text"] []):FnOk P w K mg base CX0 2 f fd ["self","word","at"] (sp2 K "word" "at"):=by
 have G:FnOk P w K mg base CX0 1 fB fdB ["self","text"] (spHE K):=sF FB T;refine F.ok Fs (λvs H Q E h=>?_) (λcdv A outer s H vs Q E hr h=>?_)
 ·obtain⟨x,v,u,C,dv,du,rfl,_⟩:=h;rfl
 ·obtain⟨x,v,u,C,dv,du,rfl,M,na,nb,e0,ft,fu,k⟩:=h;have hu:(A.deeper (PyProof.Rows.envOfC "NoPaper.__init__" (c9 iNP) s.heap.objs.size f cdv)).units+80<cLine:=by have:=hr.un;omega
  refine⟨_,Q8 (Z8 (ff rfl T.mB T.sB T.rB T.cB T.kB G hr bB eP (y0 (pv 0) (y0 (jV (Z7 (dF hr.gd hu (pv 1) (Z7 (dF hr.gd hu (pv 2) iw)))) (by decide)) ax))))
   (Q8 (dB (pv 0) (pv 1) rfl) (dD (dB (pv 0) (pv 2) rfl))),?_⟩
  refine⟨_,rfl,_,rfl,dv,ft.at_,ft.sh,ft.l1,ft.l2,_,rfl,du,fu.at_,fu.sh,fu.l1,fu.l2,λz hz=>?_⟩;refine⟨x,.str z,C,none,rfl,M,e0,?_⟩;refine⟨_,rfl,_,rfl,x,C,rfl,M,na,.inl ⟨e0,λd hd=>?_⟩⟩;have ne:d≠x:=λq=>by rw[q,e0]at hd;cases hd
  refine⟨_,rfl,_,rfl,x,C,rfl,M,nb,.inr ⟨d,_,ne,b9,by rw[a9 ne,b9],by show 1<900;decide,?_⟩⟩;refine k _ ⟨d,hd,ne,by rw[a9 ne.symm,b9],by rw[b9,vf],λb hb hb2=>by rw[a9 hb2,a9 hb,a9 hb2]⟩
end
end L3.K08
section
namespace L3.K08
open PySem PySem.Spec PyProof.Rows L2 Hn
theorem all_mk{l:PySem.W.OpenLaw}{w:World}{K:PySem.W.Frag}{h:Heap}{mg:Str->Option Value}{fa B fB C1 f1 C2 f2 g0 g1 g2 g3 g4 g5 g6 g7 g8 g9 g10 g11 g12 g13 g14 g15 g16 g17 g18 g19 g20 g21 g22 g23 g24 g25 g26 g27 g28 g29 g30 g31 g32 g33 g34 g35:Addr}(X:K.In h)(G:h.Ns mainGlobals mg)(hfa:mg "law" = some (.ref fa))
  {odHE anHE odNS anNS odNP anNP:Option Addr} {slHE slNS slNP:Array (Option Value)} {ocHE kVHE dcHE pmHE cdHE ctHE ocNS kVNS dcNS pmNS cdNS ctNS ocNP kVNP dcNP pmNP cdNP ctNP:Value} {Zc0:Addr} {tC0_0 tC0_1 tC0_2 tC0_3 tC0_4 tC0_5 tC0_6:Tok} {nC0:Nat} {slC0:Array (Option Value)} {Zc1:Addr} {tC1_0 tC1_1 tC1_2:Tok} {nC1:Nat} {slC1:Array (Option Value)} {tC2:Tok} {tC3:Tok} {Zc4:Addr} {esC4:Array DictEntry} {nC4:Nat} {Yc4_0:Addr} {nC4_0:Nat} {slC4_0:Array (Option Value)} {tC4_0_0:Tok} {Yc4_1:Addr} {nC4_1:Nat} {slC4_1:Array (Option Value)} {tC4_1_0:Tok} {Yc4_2:Addr} {nC4_2:Nat} {slC4_2:Array (Option Value)} {tC4_2_0 tC4_2_1:Tok} {Yc4_3:Addr} {nC4_3:Nat} {slC4_3:Array (Option Value)} {Zc5:Addr} {tC5_0 tC5_1 tC5_2 tC5_3 tC5_4 tC5_5 tC5_6:Tok} {esC5:Array DictEntry} {nC5:Nat} {tC6:Tok}
  (aHE:PySem.W.nsIn K mainGlobals "HandError" = some (some (.ref B))) (iHE_:PySem.W.findIn K (.ref B) "__init__" = some (some (.ref fB))) (nHE:PySem.W.isFn K (.ref fB)=true) (lHE:K.lookup fB=some ⟨ocHE,odHE,.func (PySem.W.fnOf "__init__" "HandError.__init__" (t6 (iHE)) (j6 (iHE)) (c9 (iHE)) .none kVHE dcHE pmHE anHE cdHE ctHE),slHE⟩) (cHE:PySem.W.codeIn K cdHE "HandError.__init__" = true) (kHE:PySem.W.keepIn K (.ref fB)=true)
  (aNS:PySem.W.nsIn K mainGlobals "NoStep" = some (some (.ref C1))) (iNS_:PySem.W.findIn K (.ref C1) "__init__" = some (some (.ref f1))) (nNS:PySem.W.isFn K (.ref f1)=true) (lNS:K.lookup f1=some ⟨ocNS,odNS,.func (PySem.W.fnOf "__init__" "NoStep.__init__" (t6 (iNS)) (j6 (iNS)) (c9 (iNS)) .none kVNS dcNS pmNS anNS cdNS ctNS),slNS⟩) (cNS:PySem.W.codeIn K cdNS "NoStep.__init__" = true) (kNS:PySem.W.keepIn K (.ref f1)=true)
  (aNP:PySem.W.nsIn K mainGlobals "NoPaper" = some (some (.ref C2))) (iNP_:PySem.W.findIn K (.ref C2) "__init__" = some (some (.ref f2))) (nNP:PySem.W.isFn K (.ref f2)=true) (lNP:K.lookup f2=some ⟨ocNP,odNP,.func (PySem.W.fnOf "__init__" "NoPaper.__init__" (t6 (iNP)) (j6 (iNP)) (c9 (iNP)) .none kVNP dcNP pmNP anNP cdNP ctNP),slNP⟩) (cNP:PySem.W.codeIn K cdNP "NoPaper.__init__" = true) (kNP:PySem.W.keepIn K (.ref f2)=true)
  (fV:PySem.W.findCls K (.type "ValueError") (.type "type") "__init__" = some (.val (.builtin "ValueError.__init__"))) (sB:PySem.W.specialIn K (.ref B) "__getattribute__" = some (some (.builtin "type.__getattribute__"))) (rB:PySem.W.readsIn K B (.type "type")=true) (cB:PySem.W.findCls K (.ref B) (.type "type") "__init__" = some (.val (.ref fB)))
  (rxc:[B,C1,C2].all (xcB K)=true)
  (rjk:W7 K fB=false)
  (rsub:((List.range [B,C1,C2].length).all λc=>(List.range [B,C1,C2].length).all λc0=>isB (PySem.W.kitOne K (.ref (aL [B,C1,C2] fB c)) (.ref (aL [B,C1,C2] fB c0))) (Γ.sub c c0))=true)
  (rsV:([B,C1,C2].all λC=>isB (PySem.W.kitOne K (.ref C) (.type "ValueError")) true)=true)
  (rsT:([B,C1,C2].all λC=>tys.all λt=>isB (PySem.W.kitOne K (.ref C) (.type t)) false)=true)
  (rfl_:(Γ.flds.all λg=>[B,C1,C2].all λC=>isNo (PySem.W.findIn K (.ref C) g))=true)
  (rbl:(bnames.all λx=>(Γ.gl.lookup x).isSome||isNo (PySem.W.nsIn K mainGlobals x))=true)
  (dg0:GF K "is_whole" (top 5) g0)
  (dg1:GF K "is_one_of" (top 6) g1)
  (dg2:GF K "is_tuple_of" (top 7) g2)
  (dg3:GF K "with_at" (top 8) g3)
  (dg4:GF K "first_decider" (top 12) g4)
  (dg5:GF K "step_decider" (top 13) g5)
  (dg6:GF K "moving_hands" (top 14) g6)
  (dg7:GF K "all_deciders" (top 15) g7)
  (dg8:GF K "all_words" (top 16) g8)
  (dg9:GF K "is_sentence" (top 22) g9)
  (dg10:GF K "is_formula" (top 23) g10)
  (dg11:GF K "is_built" (top 24) g11)
  (dg12:GF K "formulas_in" (top 25) g12)
  (dg13:GF K "are_words" (top 26) g13)
  (dg14:GF K "is_so" (top 27) g14)
  (dg15:GF K "hands_meant" (top 28) g15)
  (dg16:GF K "says" (top 29) g16)
  (dg17:GF K "lets_paper" (top 32) g17)
  (dg18:GF K "carried_stands" (top 33) g18)
  (dg19:GF K "check_shape" (top 34) g19)
  (dg20:GF K "first_fault" (top 35) g20)
  (dg21:GF K "stands_next" (top 36) g21)
  (dg22:GF K "_law_feed" (top 38) g22)
  (dg23:GF K "_law_draw" (top 39) g23)
  (dg24:GF K "_law_words" (top 40) g24)
  (dg25:GF K "_law_behind" (top 42) g25)
  (dg26:GF K "_law_formula" (top 43) g26)
  (dg27:GF K "_law_sentence" (top 44) g27)
  (dg28:GF K "_law_says" (top 45) g28)
  (dg29:GF K "_law_so" (top 46) g29)
  (dg30:GF K "_law_all_so" (top 47) g30)
  (dg31:GF K "_law_good_sentences" (top 48) g31)
  (dg32:GF K "_law_lets" (top 49) g32)
  (dg33:GF K "_law_papers" (top 50) g33)
  (dg34:GF K "_law_holds" (top 51) g34)
  (dg35:GF K "law" (top 52) g35)
  (aC0:PySem.W.nsIn K mainGlobals "WORDS" = some (some (.ref Zc0))) (lC0:K.lookup Zc0=some ⟨.type "tuple",none,.seq #[.str "out" tC0_0,.str "ask" tC0_1,.str "close" tC0_2,.str "look" tC0_3,.str "holds" tC0_4,.str "right" tC0_5,.str "down" tC0_6] nC0,slC0⟩)
  (aC1:PySem.W.nsIn K mainGlobals "ENDED" = some (some (.ref Zc1))) (lC1:K.lookup Zc1=some ⟨.type "tuple",none,.seq #[.str "holds" tC1_0,.str "right" tC1_1,.str "down" tC1_2] nC1,slC1⟩)
  (aC2:PySem.W.nsIn K mainGlobals "MOST_FORMULAS" = some (some (.int 20 tC2)))
  (aC3:PySem.W.nsIn K mainGlobals "MOST_WITHIN" = some (some (.int 8 tC3)))
  (aC4:PySem.W.nsIn K mainGlobals "HANDS" = some (some (.ref Zc4))) (lC4:K.lookup Zc4=some ⟨.type "dict",none,.dict esC4 nC4,#[]⟩) (kC4:PySem.W.KeysLit w.params esC4.toList) (sC4:(Zc4==sysModules)=false) (zC4:N9 esC4.toList=some (["each","some","pairs","plain"]:List Str))
  (dC4_0:PySem.W.nsIn K Zc4 "each" = some (some (.ref Yc4_0))) (eC4_0:K.lookup Yc4_0=some ⟨.type "tuple",none,.seq #[.int 0 tC4_0_0] nC4_0,slC4_0⟩)
  (dC4_1:PySem.W.nsIn K Zc4 "some" = some (some (.ref Yc4_1))) (eC4_1:K.lookup Yc4_1=some ⟨.type "tuple",none,.seq #[.int 0 tC4_1_0] nC4_1,slC4_1⟩)
  (dC4_2:PySem.W.nsIn K Zc4 "pairs" = some (some (.ref Yc4_2))) (eC4_2:K.lookup Yc4_2=some ⟨.type "tuple",none,.seq #[.int 0 tC4_2_0,.int 1 tC4_2_1] nC4_2,slC4_2⟩)
  (dC4_3:PySem.W.nsIn K Zc4 "plain" = some (some (.ref Yc4_3))) (eC4_3:K.lookup Yc4_3=some ⟨.type "tuple",none,.seq #[] nC4_3,slC4_3⟩)
  (aC5:PySem.W.nsIn K mainGlobals "PARTS" = some (some (.ref Zc5))) (lC5:K.lookup Zc5=some ⟨.type "dict",none,.dict esC5 nC5,#[]⟩) (kC5:PySem.W.KeysLit w.params esC5.toList) (sC5:(Zc5==sysModules)=false) (zC5:N9 esC5.toList=some (["at","mark","free","closed","not","both","either"]:List Str))
  (dC5_0:PySem.W.nsIn K Zc5 "at" = some (some (.int 3 tC5_0)))
  (dC5_1:PySem.W.nsIn K Zc5 "mark" = some (some (.int 2 tC5_1)))
  (dC5_2:PySem.W.nsIn K Zc5 "free" = some (some (.int 1 tC5_2)))
  (dC5_3:PySem.W.nsIn K Zc5 "closed" = some (some (.int 1 tC5_3)))
  (dC5_4:PySem.W.nsIn K Zc5 "not" = some (some (.int 2 tC5_4)))
  (dC5_5:PySem.W.nsIn K Zc5 "both" = some (some (.int 3 tC5_5)))
  (dC5_6:PySem.W.nsIn K Zc5 "either" = some (some (.int 3 tC5_6)))
  (aC6:PySem.W.nsIn K mainGlobals "MOST_SENTENCES" = some (some (.int 12 tC6))) :
  ∃fd:FuncData,(∀(s:Shared)(v:Value),BindsTo s fd ⟨[v],[]⟩ [("_law_script",v)])/\∀base:Heap,K.In base->base.Ns mainGlobals mg->FnOk l.prog w K mg base CX0 18 fa fd ["_law_script"] (dR K):=by
 have e:=hfa.symm.trans (Iu X G dg35.a);cases e;have RB:RowB K Γ [B,C1,C2] fB:=⟨rxc,rjk,rsub,rsV,rsT,rfl_,rbl⟩;have FHE:=az (st:=iHE) lHE cHE kHE;have bHE:=FHE.binds (ps:=["self","text"]) λ_ _ _ _ _ _ us hl=>F7 hl λ_ _=>rfl;have FNS:=az (st:=iNS) lNS cNS kNS;have bNS:=FNS.binds (ps:=["self","hand"]) λ_ _ _ _ _ _ us hl=>F7 hl λ_ _=>rfl;have FNP:=az (st:=iNP) lNP cNP kNP;have bNP:=FNP.binds (ps:=["self","word","at"]) λ_ _ _ _ _ _ us hl=>lV hl λ_ _ _=>rfl;have xHE:XC K B:=gp ((HL.mp rxc) B (by simp));have xNS:XC K C1:=gp ((HL.mp rxc) C1 (by simp));have xNP:XC K C2:=gp ((HL.mp rxc) C2 (by simp));obtain⟨_,⟨oc,od,kV,dc,pm,an,cd,ct,sl,rfl,lk,hc⟩,kp⟩:=dg35.f;have FL:=az lk hc kp;refine⟨PySem.W.fnOf "law" "law" (t6 (top 52)) (j6 (top 52)) (c9 (top 52)) .none kV dc pm an cd ct,λs v=>.of_eq rfl,λbase KB GB=>?_⟩
 let T:Tx:=⟨l.prog,w,K,mg,base,aL [B,C1,C2] fB⟩
 have mV:mg "ValueError" = none:=PySem.W.mg_none_of X G (Y9 ((HL.mp rbl) "ValueError" (by decide)));have TE:TxE K mg B fB:=⟨mV,fV,Iu X G aHE,sB,rB,cB,kHE⟩;have gHE:FnOk l.prog w K mg base CX0 2 fB _ ["self","text"] (spHE K):=(sF FHE TE).mono (by decide);have gNS:FnOk l.prog w K mg base CX0 2 f1 _ _ _:=Ez FNS TE FHE bHE;have gNP:FnOk l.prog w K mg base CX0 2 f2 _ _ _:=Ep FNP TE FHE bHE;have st:TxSt T Γ:=by
  refine RB.st (T:=T) X G rfl (λx d e=>?_) (λx c fs e=>?_) (λx kvs e=>?_)
  ·have m:=L2.mem_of_lookup e;simp only[Γ,Ho,IE,KA,Kx,L3.G.val.injEq,reduceCtorEq,and_false,false_or]at m;rcases m with ⟨rfl,rfl⟩ | ⟨rfl,rfl⟩ | ⟨rfl,rfl⟩ | ⟨rfl,rfl⟩ | ⟨rfl,rfl⟩
   ·exact⟨_,.ref Zc0,Iu X G aC0,rfl,λμ H=>.tup (xs:=[.str "out",.str "ask",.str "close",.str "look",.str "holds",.str "right",.str "down"]) (.inr ⟨_,_,_,lC0,rfl,rfl,HQ rfl,(.cons ⟨_,rfl⟩ (.cons ⟨_,rfl⟩ (.cons ⟨_,rfl⟩ (.cons ⟨_,rfl⟩ (.cons ⟨_,rfl⟩ (.cons ⟨_,rfl⟩ (.cons ⟨_,rfl⟩ .nil))))))),rfl⟩) (.cons (.str _) (.cons (.str _) (.cons (.str _) (.cons (.str _) (.cons (.str _) (.cons (.str _) (.cons (.str _) .nil)))))))⟩
   ·exact⟨_,.ref Zc1,Iu X G aC1,rfl,λμ H=>.tup (xs:=[.str "holds",.str "right",.str "down"]) (.inr ⟨_,_,_,lC1,rfl,rfl,HQ rfl,(.cons ⟨_,rfl⟩ (.cons ⟨_,rfl⟩ (.cons ⟨_,rfl⟩ .nil))),rfl⟩) (.cons (.str _) (.cons (.str _) (.cons (.str _) .nil)))⟩
   ·exact⟨_,.int 20,Iu X G aC2,⟨_,rfl⟩,λμ H=>.int _⟩
   ·exact⟨_,.int 8,Iu X G aC3,⟨_,rfl⟩,λμ H=>.int _⟩
   ·exact⟨_,.int 12,Iu X G aC6,⟨_,rfl⟩,λμ H=>.int _⟩
  ·have m:=L2.mem_of_lookup e;simp only[Γ,Ho,IE,KA,Kx,L3.G.err.injEq,reduceCtorEq,and_false,false_or]at m;rcases m with ⟨rfl,rfl,rfl⟩ | ⟨rfl,rfl,rfl⟩ | ⟨rfl,rfl,rfl⟩
   ·exact⟨by simp,⟨xHE,Iu X G aHE,fB,_,_,iHE_,nHE,bHE,gHE⟩,by simp⟩
   ·exact⟨by simp,⟨xNS,Iu X G aNS,f1,_,_,iNS_,nNS,bNS,gNS⟩,by simp[Γ]⟩
   ·exact⟨by simp,⟨xNP,Iu X G aNP,f2,_,_,iNP_,nNP,bNP,gNP⟩,by simp[Γ]⟩
  ·have m:=L2.mem_of_lookup e;simp only[Γ,Ho,IE,KA,Kx,L3.G.dct.injEq,reduceCtorEq,and_false,false_or]at m;rcases m with ⟨rfl,rfl⟩ | ⟨rfl,rfl⟩
   ·refine⟨Zc4,_,_,Iu X G aC4,lC4,kC4,sC4,λk e2=>xg lC4 zC4 rfl e2,λk d e2=>?_⟩;have m2:=L2.mem_of_lookup e2;simp only[Ho,IE,KA,Kx]at m2;rcases m2 with ⟨rfl,rfl⟩ | ⟨rfl,rfl⟩ | ⟨rfl,rfl⟩ | ⟨rfl,rfl⟩
    ·exact⟨_,.ref Yc4_0,dC4_0,rfl,λμ H=>.tup (xs:=[.int 0]) (.inr ⟨_,_,_,eC4_0,rfl,rfl,HQ rfl,(.cons ⟨_,rfl⟩ .nil),rfl⟩) (.cons (.int _) .nil)⟩
    ·exact⟨_,.ref Yc4_1,dC4_1,rfl,λμ H=>.tup (xs:=[.int 0]) (.inr ⟨_,_,_,eC4_1,rfl,rfl,HQ rfl,(.cons ⟨_,rfl⟩ .nil),rfl⟩) (.cons (.int _) .nil)⟩
    ·exact⟨_,.ref Yc4_2,dC4_2,rfl,λμ H=>.tup (xs:=[.int 0,.int 1]) (.inr ⟨_,_,_,eC4_2,rfl,rfl,HQ rfl,(.cons ⟨_,rfl⟩ (.cons ⟨_,rfl⟩ .nil)),rfl⟩) (.cons (.int _) (.cons (.int _) .nil))⟩
    ·exact⟨_,.ref Yc4_3,dC4_3,rfl,λμ H=>.tup (xs:=[]) (.inr ⟨_,_,_,eC4_3,rfl,rfl,HQ rfl,.nil,rfl⟩) .nil⟩
   ·refine⟨Zc5,_,_,Iu X G aC5,lC5,kC5,sC5,λk e2=>xg lC5 zC5 rfl e2,λk d e2=>?_⟩;have m2:=L2.mem_of_lookup e2;simp only[Ho,IE,KA,Kx]at m2;rcases m2 with ⟨rfl,rfl⟩ | ⟨rfl,rfl⟩ | ⟨rfl,rfl⟩ | ⟨rfl,rfl⟩ | ⟨rfl,rfl⟩ | ⟨rfl,rfl⟩ | ⟨rfl,rfl⟩
    ·exact⟨_,.int 3,dC5_0,⟨_,rfl⟩,λμ H=>.int _⟩
    ·exact⟨_,.int 2,dC5_1,⟨_,rfl⟩,λμ H=>.int _⟩
    ·exact⟨_,.int 1,dC5_2,⟨_,rfl⟩,λμ H=>.int _⟩
    ·exact⟨_,.int 1,dC5_3,⟨_,rfl⟩,λμ H=>.int _⟩
    ·exact⟨_,.int 2,dC5_4,⟨_,rfl⟩,λμ H=>.int _⟩
    ·exact⟨_,.int 3,dC5_5,⟨_,rfl⟩,λμ H=>.int _⟩
    ·exact⟨_,.int 3,dC5_6,⟨_,rfl⟩,λμ H=>.int _⟩
 have fs:ny T Γ Tb:=by
  refine Cy ?_;refine And.intro (fe X G (T:=T) dg0 (by decide +kernel) (λ_ _ _ _ _ _ us hl=>V8 hl λ_=>rfl) rfl rfl) ?_;refine And.intro (fe X G (T:=T) dg1 (by decide +kernel) (λ_ _ _ _ _ _ us hl=>F7 hl λ_ _=>rfl) rfl rfl) ?_;refine And.intro (fe X G (T:=T) dg2 (by decide +kernel) (λ_ _ _ _ _ _ us hl=>F7 hl λ_ _=>rfl) rfl rfl) ?_;refine And.intro (fe X G (T:=T) dg3 (by decide +kernel) (λ_ _ _ _ _ _ us hl=>lV hl λ_ _ _=>rfl) rfl rfl) ?_;refine And.intro (fe X G (T:=T) dg4 (by decide +kernel) (λ_ _ _ _ _ _ us hl=>V8 hl λ_=>rfl) rfl rfl) ?_;refine And.intro (fe X G (T:=T) dg5 (by decide +kernel) (λ_ _ _ _ _ _ us hl=>F7 hl λ_ _=>rfl) rfl rfl) ?_;refine And.intro (fe X G (T:=T) dg6 (by decide +kernel) (λ_ _ _ _ _ _ us hl=>V8 hl λ_=>rfl) rfl rfl) ?_;refine And.intro (fe X G (T:=T) dg7 (m:=["return"]) (by decide +kernel) (λ_ _ _ _ _ _ us hl=>V8 hl λ_=>rfl) rfl rfl) ?_;refine And.intro (fe X G (T:=T) dg8 (by decide +kernel) (λ_ _ _ _ _ _ us hl=>V8 hl λ_=>rfl) rfl rfl) ?_;refine And.intro (fe X G (T:=T) dg9 (by decide +kernel) (λ_ _ _ _ _ _ us hl=>V8 hl λ_=>rfl) rfl rfl) ?_;refine And.intro (fe X G (T:=T) dg10 (m:=["waiting"]) (by decide +kernel) (λ_ _ _ _ _ _ us hl=>F7 hl λ_ _=>rfl) rfl rfl) ?_;refine And.intro (fe X G (T:=T) dg11 (by decide +kernel) (λ_ _ _ _ _ _ us hl=>F7 hl λ_ _=>rfl) rfl rfl) ?_;refine And.intro (fe X G (T:=T) dg12 (by decide +kernel) (λ_ _ _ _ _ _ us hl=>V8 hl λ_=>rfl) rfl rfl) ?_;refine And.intro (fe X G (T:=T) dg13 (m:=["setw"]) (by decide +kernel) (λ_ _ _ _ _ _ us hl=>V8 hl λ_=>rfl) rfl rfl) ?_;refine And.intro (fe X G (T:=T) dg14 (by decide +kernel) (λ_ _ _ _ _ _ us hl=>F7 hl λ_ _=>rfl) rfl rfl) ?_;refine And.intro (fe X G (T:=T) dg15 (by decide +kernel) (λ_ _ _ _ _ _ us hl=>F7 hl λ_ _=>rfl) rfl rfl) ?_;refine And.intro (fe X G (T:=T) dg16 (by decide +kernel) (λ_ _ _ _ _ _ us hl=>lV hl λ_ _ _=>rfl) rfl rfl) ?_;refine And.intro (fe X G (T:=T) dg17 (by decide +kernel) (λ_ _ _ _ _ _ us hl=>F7 hl λ_ _=>rfl) rfl rfl) ?_;refine And.intro (fe X G (T:=T) dg18 (m:=["t{}"]) (by decide +kernel) (λ_ _ _ _ _ _ us hl=>F7 hl λ_ _=>rfl) rfl rfl) ?_;refine And.intro (fe X G (T:=T) dg19 (by decide +kernel) (λ_ _ _ _ _ _ us hl=>V8 hl λ_=>rfl) rfl rfl) ?_;refine And.intro (fe X G (T:=T) dg20 (by decide +kernel) (λ_ _ _ _ _ _ us hl=>F7 hl λ_ _=>rfl) rfl rfl) ?_;refine And.intro (fe X G (T:=T) dg21 (by decide +kernel) (λ_ _ _ _ _ _ us hl=>V8 hl λ_=>rfl) rfl rfl) ?_;refine And.intro (fe X G (T:=T) dg22 (by decide +kernel) (λ_ _ _ _ _ _ us hl=>V8 hl λ_=>rfl) rfl rfl) ?_;refine And.intro (fe X G (T:=T) dg23 (by decide +kernel) (λ_ _ _ _ _ _ us hl=>F7 hl λ_ _=>rfl) rfl rfl) ?_;refine And.intro (fe X G (T:=T) dg24 (by decide +kernel) (λ_ _ _ _ _ _ us hl=>Cv hl rfl) rfl rfl) ?_;refine And.intro (fe X G (T:=T) dg25 (by decide +kernel) (λ_ _ _ _ _ _ us hl=>F7 hl λ_ _=>rfl) rfl rfl) ?_;refine And.intro (fe X G (T:=T) dg26 (by decide +kernel) (λ_ _ _ _ _ _ us hl=>lV hl λ_ _ _=>rfl) rfl rfl) ?_;refine And.intro (fe X G (T:=T) dg27 (by decide +kernel) (λ_ _ _ _ _ _ us hl=>F7 hl λ_ _=>rfl) rfl rfl) ?_;refine And.intro (fe X G (T:=T) dg28 (by decide +kernel) (λ_ _ _ _ _ _ us hl=>lV hl λ_ _ _=>rfl) rfl rfl) ?_;refine And.intro (fe X G (T:=T) dg29 (by decide +kernel) (λ_ _ _ _ _ _ us hl=>F7 hl λ_ _=>rfl) rfl rfl) ?_;refine And.intro (fe X G (T:=T) dg30 (by decide +kernel) (λ_ _ _ _ _ _ us hl=>F7 hl λ_ _=>rfl) rfl rfl) ?_;refine And.intro (fe X G (T:=T) dg31 (m:=["_law_some"]) (by decide +kernel) (λ_ _ _ _ _ _ us hl=>Cv hl rfl) rfl rfl) ?_;refine And.intro (fe X G (T:=T) dg32 (by decide +kernel) (λ_ _ _ _ _ _ us hl=>F7 hl λ_ _=>rfl) rfl rfl) ?_;refine And.intro (fe X G (T:=T) dg33 (m:=["_law_some"]) (by decide +kernel) (λ_ _ _ _ _ _ us hl=>V8 hl λ_=>rfl) rfl rfl) ?_;refine And.intro (fe X G (T:=T) dg34 (by decide +kernel) (λ_ _ _ _ _ _ us hl=>lV hl λ_ _ _=>rfl) rfl rfl) ?_;refine And.intro (fe X G (T:=T) dg35 (by decide +kernel) (λ_ _ _ _ _ _ us hl=>V8 hl λ_=>rfl) rfl rfl) ?_
  trivial
 have ok:=wA (Rs:=Rs) (T:=T) (k:=14) (i:=35) (fd:=j9 (top 52) []) (vh st fs 14) rfl FL rfl rfl (aj (by decide +kernel));exact FnOk.imp ok (lX AW)
theorem walk{l:PySem.W.OpenLaw}{q:Program}{loose:List Str}{XP:(Str->Option Value)->Heap->Prop}{YP:World->Heap->Prop}{d:DefRec}{K:Params->PySem.W.Frag}(hn:l.most=some 63)(hdf:d.params.defaults=[])
  (hY:∀(w:World)(h:Heap),YP w h->(K w.params).In h)
  (F:∀(w:World)(mg:Str->Option Value)(fa:Addr)(h:Heap),(K w.params).In h->h.Ns mainGlobals mg->mg d.name=some (.ref fa) ->
   ∃fd:FuncData,(∀(s:Shared)(u:Value),BindsTo s fd ⟨[u],[]⟩ [("_law_script",u)])/\∀base:Heap,(K w.params).In base->base.Ns mainGlobals mg->FnOk l.prog w (K w.params) mg base CX0 18 fa fd ["_law_script"] (dR (K w.params))) :
  PySem.W.WalkO q loose XP YP l.row.toRowW d [] (λf vs=>PySem.call f vs):=
 L2.walk_of (n:=63) (k:=18) (x:="_law_script") (CX:=λ_=>CX0) (sp:=λw=>dR (K w.params)) hn (by decide) hdf ⟨λ_=>rfl,by decide,by decide,rfl⟩ hY F (λ_ _ a ns hl _ hS=>⟨a,ns,rfl,hS,λ_=>rfl⟩) λ_ _ _ _ _ z=>z
end L3.K08
open PySem PySem.W PyProof.Rows
set_option maxRecDepth 100000 in
set_option maxHeartbeats 0 in
theorem PySem.Challenge.cw_handnames_k08_whole_papers_hold_holds : PySem.Challenge.rw_handnames_k08_whole_papers_hold.Holds := by
 w_on;o_law;k_head;(case hw=>w_witness2)
 k_fill
 refine L3.K08.walk (l:=PySem.Challenge.rw_handnames_k08_whole_papers_hold) rfl rfl (λw h Y=>PySem.W.kIn_of Y) ?F
 case F=>
  intro w mg fa h KX G hmg;refine' L3.K08.all_mk KX G hmg ?_ ?_ ?_ ?_ ?_ ?_ ?_ ?_ ?_ ?_ ?_ ?_ ?_ ?_ ?_ ?_ ?_ ?_ ?_ ?_ ?_ ?_ ?_ ?_ ?_ ?_ ?_ ?_ ?_ ?_ ?_ ?_ ?_ ?_ ?_ ?_ ?_ ?_ ?_ ?_ ?_ ?_ ?_ ?_ ?_ ?_ ?_ ?_ ?_ ?_ ?_ ?_ ?_ ?_ ?_ ?_ ?_ ?_ ?_ ?_ ?_ ?_ ?_ ?_ ?_ ?_ ?_ ?_ ?_ ?_ ?_ ?_ ?_ ?_ ?_ ?_ ?_ ?_ ?_ ?_ ?_ ?_ ?_ ?_ ?_ ?_ ?_ ?_ ?_ ?_ ?_ ?_ ?_ ?_ ?_ ?_ ?_
  rotate_left 117
  iterate 22 k_is
  iterate 7 kernel_rfl
  iterate 36 (refine' L3.gf_mk ?a ?l ?c ?k;(case a=>k_is);(case l=>k_is);(case c=>k_is);(case k=>k_is))
  iterate 8 k_is
  (repeat (first | exact True.intro | refine And.intro ⟨_,_,rfl,rfl⟩ ?_))
  iterate 2 rfl
  iterate 10 k_is
  (repeat (first | exact True.intro | refine And.intro ⟨_,_,rfl,rfl⟩ ?_))
  iterate 2 rfl
  iterate 8 k_is
end
