import PyProof.Rows.All
import Wide.All
import OpenK.AllK
import Wide.FinOn
import Lean
import PyProof.EqAt
import PyProof.EqKinds
import PyProof.TupleCall
import PyProof.CompUse
import PyProof.P3Eq
import PyProof.NeData
import PyProof.P3In
import PyProof.EnumMake
import PyProof.Draws
import PyProof.ConsumeWalk
import PyProof.Rows.SetFrom
import PyProof.SetRoads
import PyProof.Rows.SortWalk
import PyProof.ListRange
import PyProof.WalksMore
import PySem.Challenge.RW_handnames_k23_whole_levels_carry
set_option Elab.async false
set_option linter.all false
set_option bootstrap.genMatcherCode false
set_option maxRecDepth 100000
set_option maxHeartbeats 4000000
local macro_rules (kind:=Lean.Parser.Command.declaration)
|s=>do
 if (s[1].isOfKind ``Lean.Parser.Command.definition||s[1].isOfKind ``Lean.Parser.Command.abbrev)&&s[0].getArgs.all (·.isNone) then return s.setArg 0 (<-`(command|noncomputable def x:=0)).raw[0]
 else Lean.Macro.throwUnsupported
local macro_rules|`(tactic|omega)=>`(tactic|first|with_reducible assumption|with_reducible exact Nat.le_refl _|exact Nat.zero_le _|exact Nat.succ_pos _|exact Nat.le_of_lt (by with_reducible assumption)|exact Nat.lt_succ_of_le (by with_reducible assumption)|exact Nat.le_trans (by with_reducible assumption) (by decide)|exact Nat.lt_of_le_of_lt (by with_reducible assumption) (by decide)|exact Nat.lt_of_lt_of_le (by with_reducible assumption) (by decide)|lia|omega +splitDisjunctions)
namespace PySem.W.Fast
def tw7874197587289194591:=0
def tw3507770750305604214:=0
def tw7378311040660595291:=0
def tw8612307481667242848:=0
def tw16305745079488857999:=0
def tw12506437585483241232:=0
def tw14231816483440572120:=0
def tw7383482760854909464:=0
def tw9380314822956224868:=0
def tw1743823579001317651:=0
def tw9657465421464935056:=0
def tw7728998974533163354:=0
def tw16156420768910819960:=0
def tw12862219157848088031:=0
def tw1453775346369520893:=0
def tw15435688774462709836:=0
def tw8328722962071955723:=0
def tw17235938316918440431:=0
def tw8687228609561764022:=0
def tw13101823756142603417:=0
def tw2440525628493321393:=0
def tw9242421710076866609:=0
def tw14580716204382704390:=0
def tw12949149098699340541:=0
def tw12816220676500397948:=0
def tw14833303944526796663:=0
def tw7332173625488900704:=0
def tw17282993806525910892:=0
def tw5931845387900463206:=0
def tw15260253153017087529:=0
def tw16715930682621016450:=0
def tw4816643836113142059:=0
def tw2002560758167809042:=0
def tw9112594488778182120:=0
def tw7262857280837871050:=0
def tw6010789243885103549:=0
def tw13923027254397822133:=0
def tw8841826311405403261:=0
def tw14800617667388588598:=0
def tw2082868698911032757:=0
def tw17400478871988305387:=0
def tw11470187413683826264:=0
def tw2365796345314002556:=0
def tw16649043137544414143:=0
def tw2916224321190741136:=0
def tw5176665245223285058:=0
def tw14642034399121731241:=0
def tw9979702865028555279:=0
def tw11668880207844512644:=0
def tw14105791473446753424:=0
def tw11261020356504655565:=0
def tw16934077805331751941:=0
def tw9395485110800274330:=0
def tw11880079366805852188:=0
def tw12952956608636887514:=0
def tw8796526431567640969:=0
def tw7898981351062984205:=0
def tw6581583661771917385:=0
def tw17075567492916669859:=0
def tw5413173906578548595:=0
def tw11441851057293948919:=0
def tw5935360603728529916:=0
def tw13819288722033789022:=0
def tw17545136079066494365:=0
def tw12914974718395433528:=0
def tw15631863654643853054:=0
def tw2320372135886635590:=0
def tw8169887122209455726:=0
def tw13429374253182972032:=0
def tw1105012371761778665:=0
def tw16172913114666929433:=0
def tw11779779433709512522:=0
def tw14078458895823547861:=0
def tw8928739845656920578:=0
def tw11697976896621760466:=0
def tw2857915625281641716:=0
def tw18190406443819590327:=0
def tw5259041401243751179:=0
def tw11275993886229457226:=0
def tw16316291447382048952:=0
def tw17390985417703364700:=0
def tw9211213434874894550:=0
def tw694431891794057847:=0
def tw5279430949020605491:=0
def tw1749092628914089410:=0
def tw15137441964430279762:=0
def tw13044348467113489195:=0
def tw1871170584190997661:=0
def tw8952353829984579519:=0
def tw13002062804347148556:=0
def tw2762854953642722339:=0
def tw5787224206434395751:=0
def tw15446992309242939403:=0
def tw7003490821046130426:=0
def tw14105249178209914039:=0
def tw5146024251681839863:=0
def tw14530999590283696221:=0
def tw11376678420642284370:=0
def tw15252373114286928021:=0
def tw6377951394049190423:=0
def tw5575240308728983337:=0
def tw866900929775044187:=0
def tw8019007155433892973:=0
def tw14418872539894437047:=0
def tw3042988400561568765:=0
def tw11318106893798162712:=0
def tw5686041650194217751:=0
def tw2666258035356441457:=0
def tw874884983708790775:=0
def tw7707749679543938663:=0
def tw11034579389486052027:=0
def tw12639690567715537615:=0
def tw15441318617318064386:=0
def tw14664284072770124706:=0
def tw13122120045861570254:=0
def tw11344702291031120231:=0
def tw816593923299535187:=0
def tw2752669654139558714:=0
def tw769988875821763204:=0
def tw10522610913374410517:=0
def tw11680170240253658389:=0
def tw5985050719341704262:=0
def tw961918933014475088:=0
def tw6760926065407509528:=0
def tw13507639072443379645:=0
def tw16729064999220787724:=0
def tw14728855668213196408:=0
def tw13026553656048655364:=0
def tw15797940515188003569:=0
def tw4127659231922455224:=0
def tw13619916902951631111:=0
def tw2530828771995856442:=0
def tw11204110839961029252:=0
def tw3510662961732288944:=0
def tw9763099289612515645:=0
def tw16234018829647785637:=0
def tw16756329769272243427:=0
def tw2041437414571281124:=0
def tw12100018664769327283:=0
def tw14433125546652290042:=0
def tw11114748158161544117:=0
def tw3804935883822049666:=0
def tw7449598176448380197:=0
def tw8844518106956721908:=0
def tw7950991792747418644:=0
def tw5090154703928987266:=0
def tw727523237666678716:=0
def tw18430416555759502818:=0
def tw12041255794818248491:=0
def tw16215890361253658193:=0
def tw3006690755326118206:=0
def tw8963977425227371115:=0
def tw16872469346554185283:=0
def tw13735388090682705144:=0
def tw6930489063087336791:=0
def tw13372791335201396896:=0
def tw4812540945103109929:=0
def tw7907300066864819397:=0
def tw2029104342216178478:=0
def tw1655315363842572274:=0
def tw9838956563934686350:=0
def tw12679447358221694712:=0
def tw9677071327465372745:=0
def tw15230581416974645161:=0
def tw4094827272652130365:=0
def tw9323449280479684928:=0
def tw15596555129456203743:=0
def tw11916659157522507149:=0
def tw3118979057131146452:=0
def tw5204832989963360624:=0
def tw8926085241503988243:=0
def tw17310066951600798409:=0
def tw12813118093116792159:=0
def tw12356178459124494777:=0
def tw5715587999503347680:=0
def tw8898860442695258022:=0
def tw397726102245268851:=0
def tw14518925419310157971:=0
def tw1170437670172943531:=0
def tw2845415506875971169:=0
def tw10493388237191113062:=0
def tw15548465578887256389:=0
def tw1660693586190542882:=0
def tw16766094820728975690:=0
def tw10575183662960293495:=0
def tw4348178527467668102:=0
def tw11487586079324674129:=0
def tw14887839321812566025:=0
def tw2295311431585437560:=0
def tw2262198320672068617:=0
def tw7742494361953703824:=0
def tw14998836358223462253:=0
def tw17083187707337970246:=0
def tw2848773066369866789:=0
def tw13341015997527231613:=0
def tw15537034540321522605:=0
def tw8426452672013100123:=0
def tw1261428235206149618:=0
def tw12524423683183398360:=0
def tw715498511005660084:=0
def tw3758074848673699734:=0
def tw944190913411995837:=0
def tw12475244107440620451:=0
def tw3227055853418470530:=0
def tw8011040364167068606:=0
def tw16804252541027517684:=0
def tw17806939029512038173:=0
def tw8458515291086698050:=0
def tw11017238088643469581:=0
def tw13521110017854394426:=0
def tw8709899660555549459:=0
def tw17265789474659087295:=0
def tw2661840062678991073:=0
def tw4391839977677380762:=0
def tw10563586335405276627:=0
def tw6460151611381132398:=0
def tw2333681995358441023:=0
def tw12941022724505098046:=0
def tw8426648468797666056:=0
def tw5305017120427621072:=0
def tw5334685233237644493:=0
def tw14006357512381810794:=0
def tw15692365811520320038:=0
def tw12937407279617414149:=0
def tw16431480129858149494:=0
def tw8655055699461848492:=0
def tw6665319541297949351:=0
def tw6513694169169895573:=0
def tw6777005865571978833:=0
def tw11800888439464408292:=0
def tw13217921639011562059:=0
def tw6833760919634054081:=0
def tw10964033905198948336:=0
def tw5257142869608762513:=0
def tw9657743956502430035:=0
def tw4646911202797125891:=0
def tw13525823431304533706:=0
def tw8079480434400565352:=0
def tw479565088548474171:=0
def tw13834701538349561213:=0
def tw4236027556912258136:=0
def tw12286454699081583400:=0
def tw11204682849568283562:=0
def tw7370402242004795250:=0
def tw18072885523201936619:=0
def tw3699867601176622516:=0
def tw12111526202767431601:=0
def tw10991938040163638894:=0
def tw489244237537319950:=0
def tw13490791268526279213:=0
def tw8516388327925689911:=0
def tw16289467763060121843:=0
def tw2770682546618765251:=0
def tw8746238338202421135:=0
def tw6329223572837084175:=0
def tw754634672779218234:=0
def tw4392769920709058368:=0
def tw2036987176095037271:=0
def tw7951493197308958242:=0
def tw16238509520871966406:=0
def tw5366606128597708310:=0
def tw7051044266488359222:=0
def tw9922628352732478832:=0
def tw6442658087013217241:=0
def tw8492076424499319491:=0
def tw12631196644703449392:=0
def tw12255527113236872845:=0
def tw10047734301438062441:=0
def tw1126978191848734748:=0
def tw6264044613212705436:=0
def tw13664982285281743522:=0
def tw16593035922226567633:=0
def tw13622472381496600954:=0
def tw12946592937962814275:=0
def tw13213404763707360747:=0
def tw193320182113411617:=0
def tw7967284923867907078:=0
def tw12714326214113290124:=0
def tw13412640088515011574:=0
def tw2881835713868757335:=0
def tw7782193157700093559:=0
def tw13206017942937435096:=0
def tw2208741401074483588:=0
def tw9141876175698840377:=0
def tw8672482564756752656:=0
def tw15390698168274252730:=0
def tw2404049459431910712:=0
def tw8453192600677403417:=0
def tw16239721328211088895:=0
def tw8275174173480340107:=0
def tw886754013837740775:=0
def tw9066240308223231147:=0
def tw13360891606098576893:=0
def tw6496429373272559724:=0
def tw9572664994211301384:=0
def tw4758920988133830457:=0
def tw4663643500255451709:=0
def tw508697767006091942:=0
def tw3437984131627531416:=0
def tw768759379989830401:=0
def tw10596994694594943634:=0
def tw8791922089942735539:=0
def tw3537509608736025916:=0
def tw13383782671174602689:=0
def tw13670389282437834894:=0
def tw14954522226811409911:=0
def tw14012598714689960501:=0
def tw15318630752582144491:=0
def tw1591014153440905462:=0
def tw153301460614586602:=0
def tw12145232006754569034:=0
def tw11857518080232667961:=0
def tw17764862526244059633:=0
def tw13927380841025004517:=0
def tw11045180356173054847:=0
def tw15645357300436740944:=0
def tw15025113069190046826:=0
def tw10183945299976145303:=0
def tw6833621217497149275:=0
def tw10813150632416723338:=0
def tw6113296725656437397:=0
def tw12969270607273388811:=0
def tw13569390956121137604:=0
def tw8288477838806944512:=0
def tw8390709724295085117:=0
def tw9613752023509795896:=0
def tw16867365600307009972:=0
def tw11601851261863698268:=0
def tw1902732055479291951:=0
def tw10600314090072486706:=0
def tw15319616360336168477:=0
def tw22726161201262494:=0
def tw12519155869897888430:=0
def tw2324628127611327646:=0
def tw11580901244229628619:=0
def tw1650763611254320802:=0
def tw3243569860402761517:=0
def tw8481075798812058615:=0
def tw7984782434525884872:=0
end PySem.W.Fast
def Fq:=@PySem.wpAny_bind
def Fs:=@PySem.wpAny_pure
def Ft:=@PySem.Heap.get?_push_of_some
def Fu:=@List.length_map
def Fv:=@List.getElem?_eq_some_iff
def Fy:=@List.getElem?_eq_getElem
def Fz:=@Bool.false_ne_true
def FG:=@Bool.and_eq_true
def FH:=@Nat.le_refl
def FI:=@List.getElem?_append_left
def FJ:=@PySem.Heap.get?_push_size
def FK:=@PySem.Heap.lt_size
def FM:=@decide_eq_true
def FN:=@Nat.ne_of_lt
def FO:=@List.mem_cons_self
def FP:=@List.mem_cons
def FQ:=@List.mem_cons_of_mem
def FR:=@List.size_toArray
def FS:=@List.getElem?_set_ne
def FT:=@List.mem_of_getElem?
def FU:=@List.getD_eq_getElem?_getD
def FV:=@decide_eq_false
def FW:=@decide_eq_true_eq
def FX:=@List.all_eq_true
def FY:=@List.getElem?_map
def FZ:=@List.mem_append_right
def Ga:=@Nat.lt_of_lt_of_le
def Gb:=@List.mem_singleton
def Gc:=@List.mem_range
def Gd:=@Nat.le_trans
def Ge:=@List.getElem?_set_self
def Gf:=@PySem.sizeLine_eq
def Gg:=@of_decide_eq_true
def Gh:=@List.mem_append
def Gi:=@PySem.wpAny_newObj_type
def Gj:=@List.length_range
def Gk:=@List.map_cons
def Gn:=@Array.length_toList
def Go:=@Nat.lt_succ_self
def Gp:=@PySem.Heap.get?_update_self
def Gq:=@List.getElem?_append_right
def Gr:=@List.getElem?_eq_none
def Gs:=@PySem.wpAny_mono
def Gu:=@Nat.zero_le
def Gv:=@List.append_nil
def Gw:=@Nat.lt_succ_of_lt
def Gx:=@PySem.wpAny_callSpecial?_slot
def Gy:=@List.all_cons
def Gz:=@Option.some.inj
def GA:=@PySem.wpAny_call_entry
def GC:=@List.getElem_mem
def GD:=@PySem.wpAny_holding
def GE:=@PyProof.Rows.slot_tuple_getitem
def GG:=@List.append_assoc
def GH:=@Option.isNone_iff_eq_none
def GI:=@List.mem_map
def GJ:=@PySem.Heap.SameBut.update
def GK:=@Nat.le_succ
def GL:=@PySem.Heap.size_push
def GM:=@PySem.lookup_relabel_local
def GN:=@List.map_append
def GO:=@List.countP_cons
def GP:=@PySem.wpAny_field
def GQ:=@Option.isSome_iff_exists
def GR:=@PySem.wpAny_Call_Name_kw
def GS:=@List.length_append
def GT:=@PyProof.Rows.callWith_type1
def GU:=@PySem.Heap.get?_update_other
def GV:=@Bool.not_eq_true'
def GW:=@PySem.wpAny_setField
def GX:=@Int.toNat_natCast
def GY:=@List.length_pos_of_mem
def GZ:=@List.length_set
def Ha:=@List.length_filter_le
def Hb:=@Bool.false_eq_true
def Hc:=@List.not_mem_nil
def He:=@PySem.W.mg_of
def Hf:=@Int.eq_ofNat_of_zero_le
def Hg:=@PySem.W.kia_one
def Hh:=@PySem.codeAny_builtin
def Hi:=@beq_eq_false_iff_ne
def Hj:=@List.replicate_succ
def Hk:=@List.getElem_of_mem
def Hl:=@PyProof.Rows.F.plain_set_update_loop
def Hm:=@PySem.codeAny_mono
def Ho:=@List.map_map
def Hq:=@List.any_cons
def Hr:=@List.length_take
def Hs:=@List.length_cons
def Ht:=@List.pairwise_cons
def Hu:=@Array.getElem?_toList
def Hv:=@List.countP_mono_left
def Hw:=@Array.getElem?_eq_getElem
def Hx:=@List.mem_filter
def Hy:=@PySem.wpAny_passesOwn
def Hz:=@List.nodup_cons
def HA:=@List.find?_cons
def HB:=@PySem.wpAny_setState_of
def HC:=@PySem.Around.under_plainId
def HD:=@List.take_succ_eq_append_getElem
def HE:=@List.filterMap_cons
def HF:=@PySem.mem_of_lookup
def HG:=@PySem.wpAny_setEntries_of
def HH:=@List.getElem?_replicate
def HI:=@PyProof.Rows.callWith_builtin1
def HJ:=@List.lookup_cons
def HK:=@Option.map_eq_some_iff
def HL:=@PySem.wpAny_pyIter_tuple
def HM:=@List.take_of_length_le
def HN:=@PySem.PyData.shownAll_length
def HP:=@List.filter_append
def HQ:=@List.map_set
def HR:=@PySem.wpAny_execs_nil
def HS:=@Bool.eq_iff_iff
def HU:=@List.forIn_cons
def HV:=@Nat.lt_irrefl
def HW:=@List.getElem?_toArray
def HX:=@PySem.wpAny_truthy_bool
def HY:=@List.flatten_cons
def HZ:=@List.reverse_cons
def Ia:=@beq_iff_eq
def Ib:=@PySem.wpAny_call
def Ic:=@PySem.call_meets
def Ie:=@PySem.codeAny_call_builtin
def Ig:=@List.mem_iff_getElem
def Ih:=@List.length_drop
def Ii:=@PySem.wpAny_typeOf
def Ij:=@Nat.le_of_not_lt
def Ik:=@Option.bind_some
def Il:=@PySem.wpAny_binaryOp_repeat_ref
def Im:=@List.getElem?_eq_none_iff
def Io:=@List.mem_or_eq_of_mem_set
def Ip:=@PySem.Heap.get?_update_ne
def Iq:=@PyProof.Rows.F.entry_set_update_loop
def Ir:=@List.filter_eq_self
def Iu:=@List.countP_eq_zero
def Iv:=@PySem.wpAny_standAt
def Iw:=@PySem.F.args_tuple_add_2
def Ix:=@PySem.wpAny_comprehension_free
def Iy:=@PySem.wpAny_attempt
def Iz:=@List.length_erase_of_mem
def IA:=@Bool.and_self
def IB:=@Bool.and_true
def IC:=@PySem.W.callWith_K
def ID:=@List.filterMap_map
def IE:=@Int.emod_lt_of_pos
def IF:=@PySem.F.entry_tuple_add
def IG:=@List.length_eq_zero_iff
def IH:=@List.filter_cons_of_neg
def II:=@Nat.le_of_lt
def IJ:=@List.take_sublist
def IK:=@PySem.F.slot_tuple_add
def IL:=@PySem.codeAny_compStart_list
def IM:=@PySem.PyData.noDict_hsm
def IN:=@bne_self_eq_false
def IP:=@List.nodup_append
def IQ:=@PySem.wpAny_pyIter_enum
def IR:=@Array.getElem?_eq_none
def IS:=@List.length_replicate
def IT:=@List.Pairwise.sublist
def IU:=@List.set_getElem_self
def IV:=@List.countP_le_length
def IW:=@PySem.typeIs_int
def IY:=@PySem.wpAny_rule
def IZ:=@List.ext_getElem
def Ja:=@PySem.wpAny_askSetting
def Jb:=@PySem.wpAny_newFunctionEnv
def Jc:=@List.mem_of_mem_tail
def Jd:=@Array.getElem_toList
def Je:=@List.mem_erase_of_ne
def Jf:=@Bool.or_eq_true
def Jg:=@PyProof.Rows.entry_list_sort
def Jh:=@List.find?_some
def Ji:=@Int.emod_nonneg
def Jj:=@List.range_succ
def Jk:=@List.countP_eq_length_filter
def Jl:=@PyProof.Rows.entry_tuple_getitem
def Jm:=@List.map_congr_left
def Jn:=@List.length_reverse
def Jo:=@Nat.ne_of_gt
def Jp:=@PyProof.Rows.slot_list_sort
def Jq:=@PyProof.Rows.list_sort_tree
def Jr:=@PyProof.Rows.args_list_sort
def Js:=@PySem.Calls.Name_function_global
def Jt:=@PySem.Calls.spliced_cons
def Ju:=@PyProof.Rows.slicePart_none
def Jv:=@PyProof.Rows.args_tuple_getitem
def Jw:=@PySem.Heap.IsSliceOf.new
def Jx:=@List.forIn_nil
def Jy:=@PyProof.Rows.isRef_of_reads
def Jz:=@PySem.wpAny_loadPart
def JA:=@PySem.F.excBase_ValueError
def JB:=@PySem.wpAny_seqItems
def JC:=@or_false
def JD:=@PySem.wpAny_fieldsOf
def JE:=@PyProof.Rows.listItems_at
def JF:=@PySem.Calls.call_function_entry
def JG:=@PyProof.Rows.plain_sorted
def JH:=@PyProof.Rows.entry_sorted
def JI:=@PyProof.Rows.args_sorted1
def JJ:=@PySem.Calls.spliced_nil
def JK:=@PySem.wpAny_sequenceKey
def JL:=@PySem.wpAny_pyIter_list
def JM:=@List.drop_sublist
def JN:=@List.pairwise_map
def JO:=@List.ext_getElem?
def JP:=@PyProof.Rows.tupleItemsOf_
def JQ:=@PySem.wpAny_getItem_list_slice
def JR:=@PySem.strLen_append
def JS:=@PyProof.Rows.kind_sorted
def JT:=@PySem.plainId_quiet
def JU:=@PySem.F.slot_tuple_count
def JV:=@PySem.wpAny_execs_cons
def JW:=@PySem.noFill_tuple_add
def JX:=@Nat.succ_ne_self
def JY:=@PySem.F.plainAttrs_list
def JZ:=@PyProof.Rows.size_push'
def Ka:=@PySem.wpAny_isInstance
def Kb:=@PySem.F.plain_list_iadd
def Kc:=@List.filter_cons_of_pos
def Kd:=@Nat.le_of_eq
def Ke:=@Int.ne_of_gt
def Kf:=@Int.le_trans
def Kg:=@List.of_mem_zip
def Kh:=@List.length_nil
def Ki:=@Option.map_some
def Kj:=@PySem.codeAny_of_tree
def Kk:=@Nat.not_lt_zero
def Kl:=@List.countP_map
def Km:=@if_false
def Kn:=@PySem.wpAny_alloc
def Ko:=@PySem.wpAny_of_eq
def Kq:=@PySem.wpAny_runValue
def Kr:=@PySem.isSubtype_type
def Ks:=@Bool.and_false
def Kt:=@LawfulBEq.eq_of_beq
def Ku:=@PySem.seq_tuple_add
def Kv:=@PySem.evalPart_none
def Kw:=@PySem.wpAny_newList
def Kx:=@PySem.wpAny_load
def Ky:=@if_true
namespace L2
open PySem PySem.Spec PyProof.Rows
abbrev Key:=Sum Int Str
def cM:Key->Value->Bool
 | .inl k,v=>Value.isInt k v
 | .inr x,v=>Value.isStrOf x v
def EN (w:World):Key->Int
 | .inl k=>hashInt k
 | .inr x=>hashStr w x
theorem i7:∀ {k:Key} {v:Value},cM k v=true->(∃ i t,k=Sum.inl i/\v=Value.int i t)\/(∃ x t,k=Sum.inr x/\v=Value.str x t)
 | .inl i,v,h=>by
  obtain ⟨t,e⟩:=Value.isInt_shape h;exact .inl ⟨i,t,rfl,e⟩
 | .inr x,v,h=>by
  obtain ⟨t,e⟩:=Value.isStrOf_shape h;exact .inr ⟨x,t,rfl,e⟩
theorem kw (i:Int) (t:Tok):cM (.inl i) (.int i t)=true:=by simp [cM,Value.isInt]
theorem me (x:Str) (t:Tok):cM (.inr x) (.str x t)=true:=by simp [cM,Value.isStrOf]
theorem zA (a b:Int):decide ((Sum.inl a:Key)=Sum.inl b)=(a==b):=by grind
theorem AC (a b:Str):decide ((Sum.inr a:Key)=Sum.inr b)=decide (a=b):=by grind
theorem yx (a:Int) (b:Str):decide ((Sum.inl a:Key)=Sum.inr b)=false:=by grind
theorem Ag (a:Str) (b:Int):decide ((Sum.inr a:Key)=Sum.inl b)=false:=by grind
def j5 (prog:Program) (w:World):PySem.KeyKind prog w Key where
 is:=cM
 hash:=EN w
 inj:=λv a b f d=>by
  rcases i7 f with ⟨i,t,rfl,rfl⟩ | ⟨x,t,rfl,rfl⟩
  ·rcases i7 d with ⟨j,u,rfl,e⟩ | ⟨y,u,rfl,e⟩
   ·grind
   ·exact nomatch e
  ·rcases i7 d with ⟨j,u,rfl,e⟩ | ⟨y,u,rfl,e⟩
   ·exact nomatch e
   ·grind
 byValue:=λk v h=>by
  rcases i7 h with ⟨i,t,rfl,rfl⟩ | ⟨x,t,rfl,rfl⟩ <;> rfl
 pyHash:=λc h=>by
  rcases i7 c with ⟨i,t,rfl,rfl⟩ | ⟨x,t,rfl,rfl⟩
  ·exact wpAny_pyHash_int h
  ·exact wpAny_pyHash_str h
 eqBool:=λg c h=>by
  rcases i7 g with ⟨i,t,rfl,rfl⟩ | ⟨x,t,rfl,rfl⟩
  ·rcases i7 c with ⟨j,u,rfl,rfl⟩ | ⟨y,u,rfl,rfl⟩
   ·rw [zA] at h;exact wpAny_eqBool_int h
   ·rw [yx] at h;exact SeqAt.EqAt.int_str i t y u _ _ _ _ h
  ·rcases i7 c with ⟨j,u,rfl,rfl⟩ | ⟨y,u,rfl,rfl⟩
   ·rw [Ag] at h;exact SeqAt.EqAt.str_int x t j u _ _ _ _ h
   ·rw [AC] at h;exact wpAny_eqBool_str h
 «strs»:=λk x t v h=>by
  rcases i7 h with ⟨i,u,rfl,e⟩ | ⟨y,u,rfl,e⟩
  ·exact nomatch e
  ·injection e with e1 _;subst e1;cases v <;> rfl
theorem eY (prog:Program) (w:World) (i:Int) (t:Tok):(j5 prog w).is (.inl i) (.int i t)=true:=kw i t
theorem eQ (prog:Program) (w:World) (x:Str) (t:Tok):(j5 prog w).is (.inr x) (.str x t)=true:=me x t
inductive V where
 | non | bl (b:Bool) | int (i:Int) | str (x:Str) | byt (b:Array UInt8) | flt (b:UInt64) | ref (a:Addr) | ty (n:String)
 deriving DecidableEq
def RelV:V->Value->Prop
 | .non,u=>u=Value.none
 | .bl b,u=>u=Value.bool b
 | .int i,u=>∃ t,u=Value.int i t
 | .str x,u=>∃ t,u=Value.str x t
 | .byt b,u=>∃ t,u=Value.bytes b t
 | .flt b,u=>∃ t,u=Value.float b t
 | .ref a,u=>u=Value.ref a
 | .ty n,u=>u=Value.type n
abbrev Vals:List V->List Value->Prop:=Paired RelV
theorem Vals.length (r:Vals xs us):xs.length=us.length:=Paired.length r
theorem Vals.get:∀ {xs:List V} {us:List Value} {i:Nat} {x:V},Vals xs us->xs[i]?=some x->∃ u,us[i]?=some u/\RelV x u
 | _,_,_,_,.nil,e=>by simp at e
 | _,_,0,_,.cons r _,e=>by simp at e;subst e;exact ⟨_,rfl,r⟩
 | _,_,i+1,x,.cons _ t,e=>by
  obtain ⟨u,b,a⟩:=Vals.get t (by simpa using e);exact ⟨u,by simpa using b,a⟩
theorem Vals.set (r:RelV x u):∀ {xs:List V} {us:List Value} (i:Nat),Vals xs us->Vals (xs.set i x) (us.set i u)
 | _,_,_,.nil=>.nil
 | _,_,0,.cons _ t=>.cons r t
 | _,_,i+1,.cons q t=>.cons q (Vals.set r i t)
theorem Vals.append:∀ {xs ys:List V} {us ws:List Value},Vals xs us->Vals ys ws->Vals (xs++ys) (us++ws)
 | _,_,_,_,.nil,s=>s
 | _,_,_,_,.cons r t,s=>.cons r (Vals.append t s)
theorem Vals.take:∀ {xs:List V} {us:List Value} (n:Nat),Vals xs us->Vals (xs.take n) (us.take n)
 | _,_,0,_=>.nil
 | _,_,_+1,.nil=>.nil
 | _,_,n+1,.cons r t=>.cons r (Vals.take n t)
theorem Vals.drop:∀ {xs:List V} {us:List Value} (n:Nat),Vals xs us->Vals (xs.drop n) (us.drop n)
 | _,_,0,r=>r
 | _,_,_+1,.nil=>.nil
 | _,_,n+1,.cons _ t=>Vals.drop n t
def RelO:Option V->Option Value->Prop
 | some v,some u=>RelV v u
 | none,none=>True
 | _,_=>False
def KV {κ:Type}:List (κ×V)->List (κ×Value)->Prop:=Paired λ(p:κ×V) (q:κ×Value)=>p.1=q.1/\RelV p.2 q.2
def kV:Key->V
 | .inl i=>.int i
 | .inr x=>.str x
inductive HO where
 | lst (xs:List V)
 | tup (xs:List V)
 | dK (kvs:List (Key×V)) | dT (kvs:List (List Key×V))
 | set (S:Int->Bool) (n:Nat)
 | ins (C dx:Addr) (fs:List (Str×V))
 | own (x:Addr)
 | xd (fs:List (Str×V))
 | met (f x:Addr)
 | rng (lo hi:Int)
 | frz (o:Obj) (u:HO)
 | tbl (ps:Array Value)
 | ext (φ:Heap->Prop)
abbrev Hp:=Addr->Option HO
def upd (H:Hp) (a:Addr) (o:HO):Hp:=λb=>if b=a then some o else H b
theorem b6:upd H a o a=some o:=by unfold upd;rw [if_pos rfl]
theorem a8 {a b:Addr} {o:HO} (h:b≠a):upd H a o b=H b:=by unfold upd;rw [if_neg h]
theorem jc {H:Hp} {a b:Addr} {o u:HO} (h:H a=some o) (h':H b=some u) (d:o≠u):a≠b:=by grind
theorem b9 {H:Hp} {a b:Addr} {o:HO} (h:H a=some o) (h':H b=none):a≠b:=by grind
def TupN (h:Heap) (a:Addr) (items:Array Value):Prop:=∃ o,h.get? a=some o/\o.cls=.type "tuple"/\∃ n,o.data=.seq items n/\o.dict=none
theorem TupN.is (x:TupN h a items):IsTup h a items:=let ⟨o,e,c,n,d,_⟩:=x;⟨o,e,c,n,d⟩
theorem TupN.new (h:Heap) (items:Array Value):TupN (h.push { cls:=.type "tuple",data:=.seq items }) h.objs.size items:=⟨_,FJ _ rfl,rfl,_,rfl,rfl⟩
section
variable (P:Program) (w:World)
def ObjOk (H:Hp) (h:Heap) (a:Addr):HO->Prop
 | .lst xs=>xs.length<=sizeLine/\∃ (b:List Value) (n:Nat),Vals xs b/\h.get? a=some { cls:=.type "list",data:=.seq b.toArray n }
 | .tup xs=>xs.length<=sizeLine/\∃ b:List Value,Vals xs b/\TupN h a b.toArray
 | .dK c=>c.length<=sizeLine/\(a==sysModules)=false/\∃ vs,KV c vs/\h.DictOf (j5 P w) a vs
 | .dT c=>c.length<=sizeLine/\(a==sysModules)=false/\∃ xs:List (List Key×Addr×Value),
   Paired (λ(p:List Key×V) (q:List Key×Addr×Value)=>p.1=q.1/\H q.2.1=some (.tup (p.1.map kV))/\RelV p.2 q.2.2) c xs /\
   ∃ o es k,h.get? a=some o/\o.ExactDict/\o.data=.dict es k/\es.toList=xs.map (entryOfKey (tupleKind (j5 P w)))/\(xs.map (·.1)).Nodup
 | .set S n=>h.SetOf (intKind P w) a S n
 | .ins C d fs=>H d=some (.own a)/\fs.length<=1000/\d≠a/\h.get? a=some (PySem.W.instObj C d) /\
   ∃ mA,h.Ns1 d mA/\(∀ f,RelO (fs.lookup f) (mA f))/\PySem.Within mA (fs.map (·.1))
 | .own _=>∃ o,h.get? a=some o
 | .xd fs=>∃ mA,h.Ns1 a mA/\∀ f,RelO (fs.lookup f) (mA f)
 | .rng lo j=>∃ t u v,h.get? a=some { cls:=.type "range",data:=.fields #[.int lo t,.int j u,.int 1 v] }
 | .frz o u=>h.get? a=some o/\ObjOk H h a u
 | .tbl ps=>h.get? a=some { cls:=.none,data:=.fields ps }
 | .met f x=>h.get? a=some (PySem.W.methodObj (.ref f) (.ref x))
 | .ext e=>e h/\(∃ o,h.get? a=some o)/\∀ g i:Heap,e g->(∀ o,g.get? a=some o->i.get? a=some o)->e i
def HOk (H:Hp) (h:Heap):Prop:=∀ a o,H a=some o->ObjOk P w H h a o
end
section
variable {P:Program} {w:World} {H H':Hp} {h h':Heap} {a:Addr} {o:HO}
theorem ObjOk.lt (x:ObjOk P w H h a o):a<h.objs.size:=by
 cases o with
 | lst xs=>obtain ⟨_,_,_,_,e⟩:=x;exact FK e
 | tup xs=>obtain ⟨_,_,_,p⟩:=x;exact p.is.lt
 | dK kvs=>obtain ⟨_,_,_,_,o,_,_,e,_⟩:=x;exact FK e
 | dT kvs=>obtain ⟨_,_,_,_,o,_,_,e,_⟩:=x;exact FK e
 | set S n=>obtain ⟨o,_,_,_,e,_⟩:=x;exact FK e
 | ins C dx fs=>obtain ⟨_,_,_,e,_⟩:=x;exact FK e
 | own y=>obtain ⟨_,e⟩:=x;exact FK e
 | xd fs=>obtain ⟨_,⟨_,_,_,e,_⟩,_⟩:=x;exact FK e
 | rng lo hi=>obtain ⟨_,_,_,e⟩:=x;exact FK e
 | frz ob u=>obtain ⟨e,_⟩:=x;exact FK e
 | tbl ps=>exact FK (x)
 | met f y=>exact FK (x)
 | ext φ=>obtain ⟨_,⟨_,e⟩,_⟩:=x;exact FK e
theorem Paired.mapP:∀ {c:List α} {d:List β},Paired F c d->(∀ a b,F a b->G a b)->Paired G c d
 | _,_,.nil,_=>.nil
 | _,_,.cons r t,f=>.cons (f _ _ r) (Paired.mapP t f)
theorem ObjOk.stay (x:ObjOk P w H h a o) (k:∀ b u,(b=a\/H b=some (.own a))->h.get? b=some u->h'.get? b=some u)
  (ho:∀ b,H b=some (.own a)->H' b=some (.own a)) (ht:∀ b xs,H b=some (.tup xs)->H' b=some (.tup xs)):ObjOk P w H' h' a o:=by
 induction o with
 | lst xs=>obtain ⟨z,its,n,r,e⟩:=x;exact ⟨z,its,n,r,k _ _ (.inl rfl) e⟩
 | tup xs=>obtain ⟨z,its,r,ob,e,c⟩:=x;exact ⟨z,its,r,ob,k _ _ (.inl rfl) e,c⟩
 | dK kvs=>obtain ⟨z,y,vs,r,ob,es,ep,e,c⟩:=x;exact ⟨z,y,vs,r,ob,es,ep,k _ _ (.inl rfl) e,c⟩
 | dT kvs=>
  obtain ⟨z,y,xs,r,ob,es,ep,e,c⟩:=x;exact ⟨z,y,xs,Paired.mapP r λp q z=>⟨z.1,ht _ _ z.2.1,z.2.2⟩,ob,es,ep,k _ _ (.inl rfl) e,c⟩
 | set S n=>obtain ⟨ob,es,ep,t,e,c⟩:=x;exact ⟨ob,es,ep,t,k _ _ (.inl rfl) e,c⟩
 | ins C dx fs=>
  obtain ⟨d,z,ne,e,mA,⟨od,es,ep,e2,c⟩,r⟩:=x;exact ⟨ho _ d,z,ne,k _ _ (.inl rfl) e,mA,⟨od,es,ep,k _ _ (.inr d) e2,c⟩,r⟩
 | own y=>obtain ⟨ob,e⟩:=x;exact ⟨ob,k _ _ (.inl rfl) e⟩
 | xd fs=>obtain ⟨mA,⟨od,es,ep,e,c⟩,r⟩:=x;exact ⟨mA,⟨od,es,ep,k _ _ (.inl rfl) e,c⟩,r⟩
 | rng lo hi=>obtain ⟨t,u,v,e⟩:=x;exact ⟨t,u,v,k _ _ (.inl rfl) e⟩
 | frz ob u ih=>obtain ⟨e,q⟩:=x;exact ⟨k _ _ (.inl rfl) e,ih q⟩
 | tbl ps=>
  have e:=x;exact k a _ (.inl rfl) e
 | met f y=>
  have e:=x;exact k a _ (.inl rfl) e
 | ext φ=>obtain ⟨p,⟨o,e⟩,st⟩:=x;exact ⟨st _ _ p λo q=>k _ _ (.inl rfl) q,⟨o,k _ _ (.inl rfl) e⟩,st⟩
theorem HOk.lt (x:HOk P w H h) (e:H a=some o):a<h.objs.size:=(x a o e).lt
theorem HOk.fresh (x:HOk P w H h) (e:h.objs.size<=a):H a=none:=by
 cases q:H a with
 | none=>rfl
 | some u=>exact absurd (Ga (x.lt q) e) (HV _)
theorem HOk.kept (x:HOk P w H h) (k:∀ b u,h.get? b=some u->h'.get? b=some u):HOk P w H h':=λa o e=>
 (x a o e).stay (λb u _ q=>k b u q) (λ_ q=>q) λ_ _ q=>q
theorem HOk.laid (x:HOk P w H h) (k:∀ b u,h.get? b=some u->h'.get? b=some u) (i:h.objs.size<=a) (d:ObjOk P w (upd H a o) h' a o):HOk P w (upd H a o) h':=λb u e=>by
 have g:=x.fresh i;by_cases f:b=a
 ·subst f;rw [b6] at e;cases e;exact d
 ·rw [a8 f] at e;exact (x b u e).stay (λc v _ q=>k c v q) (λc q=>by rw [a8 (b9 q g)];exact q) λc xs q=>by rw [a8 (b9 q g)];exact q
end
def Rd (H:Hp) (a:Addr) (u:HO):Prop:=H a=some u\/∃ o,H a=some (.frz o u)
theorem Rd.ok {H:Hp} {h:Heap} {a:Addr} {u:HO} (r:Rd H a u) (x:HOk P w H h):ObjOk P w H h a u:=by
 rcases r with r | ⟨o,r⟩
 ·exact x a u r
 ·obtain ⟨_,q⟩:=x a _ r;exact q
def Mut:Option HO->Prop
 | some (.lst _)=>True
 | some (.dK _)=>True
 | some (.dT _)=>True
 | some (.set _ _)=>True
 | some (.ins _ _ _)=>True
 | some (.ext _)=>True
 | _=>False
section
variable {P:Program} {w:World} {H:Hp} {h h':Heap} {x e:Addr} {o':HO}
theorem HOk.write (s:HOk P w H h) (g:Mut (H x)) (o:e=x\/H e=some (.own x)) (k:∀ b u,b≠e->h.get? b=some u->h'.get? b=some u) (i:∃ u,h'.get? e=some u)
  (j:ObjOk P w (upd H x o') h' x o'):HOk P w (upd H x o') h':=λb u q=>by
 have f:∀ c y,H c=some (.own y)->c≠x:=λc y r z=>by subst z;rw [r] at g;exact g
 have d:∀ c xs,H c=some (.tup xs)->c≠x:=λc xs r z=>by subst z;rw [r] at g;exact g
 by_cases l:b=x
 ·subst l;rw [b6] at q;cases q;exact j
 ·rw [a8 l] at q;by_cases a:b=e
  ·have n:H b=some (.own x):=by
    rcases o with z | z
    ·grind
    ·rw [a];exact z
   rw [q] at n;cases n;obtain ⟨v,p⟩:=i;exact ⟨v,by rw [a];exact p⟩
  ·refine (s b u q).stay (λc v m r=>k c v ?_ r) (λc r=>by rw [a8 (f c b r)];exact r) λc xs r=>by rw [a8 (d c xs r)];exact r
   rcases m with rfl | m
   ·exact a
   ·grind
end
structure Un (fs ex:List Addr) (H H':Hp) (h h':Heap):Prop where
 keep:∀ b o,h.get? b=some o->H b=none->b∉fs->b∉ex->h'.get? b=some o
 slot:∀ b o,h.get? b=some o->H b=none->b∈fs->b∉ex->∃ sl,h'.get? b=some { o with slots:=sl }
 free:∀ b o,h.get? b=some o->H b=none->b∉ex->H' b=none
 there:∀ b o,h.get? b=some o->b∉ex->∃ o',h'.get? b=some o'
 tups:∀ b xs,H b=some (.tup xs)->H' b=some (.tup xs)
 frzs:∀ b o u,H b=some (.frz o u)->H' b=some (.frz o u)
 tbls:∀ b ps,H b=some (.tbl ps)->∃ more,H' b=some (.tbl (ps++more))
section
variable {fs fs' ex ex':List Addr} {H H1 H2:Hp} {h h1 h2 h':Heap} {a x e:Addr} {o:HO}
theorem Un.any (u:Un fs ex H H1 h h1) {b:Addr} {ob:Obj} (q:h.get? b=some ob) (n:H b=none) (c:b∉ex):∃ d,h1.get? b=some { ob with slots:=d }:=by
 by_cases a:b∈fs
 ·exact u.slot b ob q n a c
 ·exact ⟨ob.slots,u.keep b ob q n a c⟩
theorem Un.kept (k:∀ b u,h.get? b=some u->h'.get? b=some u):Un fs ex H H h h':=
 ⟨λb ob q _ _ _=>k b ob q,λb ob q _ _ _=>⟨ob.slots,k b ob q⟩,λ_ _ _ n _=>n,λb ob q _=>⟨ob,k b ob q⟩,λ_ _ q=>q,λ_ _ _ q=>q,λ_ ps q=>⟨#[],by rw [q];simp⟩⟩
theorem Un.refl:Un fs ex H H h h:=Un.kept λ_ _ q=>q
theorem Un.laid (k:∀ b u,h.get? b=some u->h'.get? b=some u) (d:h.objs.size<=a) (c:H a=none):Un fs ex H (upd H a o) h h' where
 keep:=λb u q _ _ _=>k b u q
 slot:=λb u q _ _ _=>⟨u.slots,k b u q⟩
 free:=λb u q n _=>by rw [a8 (FN (Ga (FK q) d))];exact n
 there:=λb u q _=>⟨u,k b u q⟩
 tups:=λb xs q=>by rw [a8 (b9 q c)];exact q
 frzs:=λb u xs q=>by rw [a8 (b9 q c)];exact q
 tbls:=λb ps q=>⟨#[],by rw [a8 (b9 q c),q];simp⟩
theorem Un.write (a:Mut (H x)) (i:e=x\/H e=some (.own x)) (k:∀ b u,b≠e->h.get? b=some u->h'.get? b=some u) (g:∃ u,h'.get? e=some u):Un fs ex H (upd H x o) h h':=by
 have d:∀ b,H b=none->b≠x:=λb n z=>by subst z;rw [n] at a;exact a
 have f:∀ b,H b=none->b≠e:=λb n z=>by
  subst z;rcases i with r | r
  ·exact d b n r
  ·rw [n] at r;cases r
 have c:∀ b u,H b=some u->¬ Mut (some u)->b≠x:=λb u q j z=>by subst z;rw [q] at a;exact j a
 refine ⟨λb u q n _ _=>k b u (f b n) q,λb u q n _ _=>⟨u.slots,k b u (f b n) q⟩,λb u q n _=>by rw [a8 (d b n)];exact n,λb u q _=>?_,
  λb xs q=>by rw [a8 (c b _ q λz=>z)];exact q,λb u xs q=>by rw [a8 (c b _ q λz=>z)];exact q,λb ps q=>⟨#[],by rw [a8 (c b _ q λz=>z),q];simp⟩⟩
 grind
end
def trk (h:Heap) (H:Hp):List Addr:=(List.range h.objs.size).filter λa=>(H a).isSome
def eW (h:Heap) (H:Hp):Heap:=PySem.W.hideAll h (trk h H)
theorem mT (h:Heap) (H:Hp):(eW h H).objs.size=h.objs.size:=PySem.W.hideAll_size _ _
theorem rj {H:Hp} {b:Addr} {o:Obj} (e:h.get? b=some o) (n:H b=none):(eW h H).get? b=some o:=
 PySem.W.hideAll_get _ e λa=>by
  have q:=(Hx.mp a).2;rw [n] at q;simp at q
theorem sR (e:(eW h H).get? b=some o):h.get? b=some o/\H b=none:=by
 have a:=PySem.W.of_hideAll (trk h H) e;refine ⟨a,?_⟩;cases q:H b with
 | none=>rfl
 | some x=>
  have c:b∈trk h H:=Hx.mpr ⟨Gc.mpr (FK a),by simp [q]⟩;have z:(eW h H).get? b=none:=PySem.W.hideAll_none (trk h H) c;rw [z] at e;cases e
structure Mod (K:PySem.W.Frag) (mg:Str->Option Value) (base:Heap):Prop where
 kin:K.In base
 glob:base.Ns mainGlobals mg
 blt:∃ mb,base.Ns builtinsNs mb/\∀ x:Str,x ≠ "__name__"->mb x=bootBuiltins x
 nolimit:base.NoLimit
structure Cx where
 prog:Program
 w:World
 K:PySem.W.Frag
 mg:Str->Option Value
 base:Heap
 A:Around
 N:List Str
 s₀:Shared
 H₀:Hp
 env:Env
 outer:List Env
 stack:List Env
 ex:List Addr
 fn:Str->Bool
 calm:Bool
 pn:List (Addr×Obj)
 xe:Value->Shared->Prop
def frs (l:List Env):List Addr:=l.filterMap (·.frame)
abbrev Cx.fs (X:Cx):List Addr:=frs X.outer
def Vis (a:Scope) (x:Str):Prop:=a.names.lookup x=some .local\/a.names.lookup x=some .cell\/a.names.lookup x=some .free
def Loc (a:Scope) (x:Str):Prop:=a.names.lookup x=some .local\/a.names.lookup x=some .cell
def Dx (a:Env) (h:Heap) (m:Str->Option Value) (x:Str) (u:Value):Prop:=
 (a.kindOf x=some .local/\m x=some u)\/((a.kindOf x=some .cell\/a.kindOf x=some .free)/\∃ c,a.cells.lookup x=some c/\h.IsCell c (some u))
structure Cx.Ok (X:Cx):Prop where
 mod:Mod X.K X.mg X.base
 kind:X.env.scope.kind=.function
 glob:X.env.globals=mainGlobals
 blt:X.env.builtins=builtinsNs
 above:X.s₀.heap.objs.size<=X.env.locals
 inj:∀ x y c,X.env.cells.lookup x=some c->X.env.cells.lookup y=some c->x=y
 has:∀ x,(X.env.kindOf x=some .cell\/X.env.kindOf x=some .free)->∃ c,X.env.cells.lookup x=some c
 cab:∀ x c,X.fn x=true->X.env.cells.lookup x=some c->X.s₀.heap.objs.size<=c
 hd:X.calm=true->X.A.handled=none
 frames:X.A.frames=some X.stack
 stk:X.stack=X.outer\/(X.stack=X.env :: X.outer/\X.env.frame=some X.env.locals)
 exf:∀ b∈X.ex,b≠X.env.locals/\∀ x c,X.env.cells.lookup x=some c->c≠b
 bs:∀ b o,X.base.get? b=some o->X.s₀.heap.get? b=some o/\X.H₀ b=none
 bsz:X.base.objs.size<=X.s₀.heap.objs.size
 noex:∀ b o,X.base.get? b=some o->b∉X.ex
 exfs:∀ b∈X.ex,b∉X.fs
 funs:X.s₀.heap.FunFrames X.base X.outer
 frf:∀ b∈X.fs,X.H₀ b=none
structure Inv (X:Cx) (pins:List (Addr×Obj)) (σ:List (Option V)) (H:Hp) (s:Shared):Prop where
 ok:X.Ok
 os:s.os=X.s₀.os
 bare:AllBare s.gens
 base:Un X.fs X.ex X.H₀ H X.s₀.heap s.heap
 loc:∃ m,s.heap.Ns X.env.locals m/\∀ (i:Nat) (x:Str) (v:V),X.N[i]?=some x->σ[i]?=some (some v)->Vis X.env.scope x->∃ u,RelV v u/\Dx X.env s.heap m x u
 cell:∀ x c,X.env.cells.lookup x=some c->∃ v,s.heap.IsCell c v
 free:H X.env.locals=none
 freeC:∀ x c,X.env.cells.lookup x=some c->H c=none
 pin:∀ p∈X.pn++pins,s.heap.get? p.1=some p.2/\H p.1=none/\p.1≠X.env.locals/\p.1∉X.fs/\∀ v,p.2.data≠.cell v
 hok:HOk X.prog X.w H s.heap
 len:σ.length=X.N.length
section
variable {X:Cx} {pins:List (Addr×Obj)} {σ:List (Option V)} {H H':Hp} {s:Shared} {h':Heap}
theorem Cx.Ok.nofr (c:X.Ok) {b:Addr} {o:Obj} (e:X.base.get? b=some o):b∉X.fs:=λa=>by
 have:=(c.funs.mem a).1;rw [e] at this;cases this
theorem Inv.bs (I:Inv X pins σ H s):∀ b o,X.base.get? b=some o->s.heap.get? b=some o/\H b=none:=λb o e=>
 ⟨I.base.keep b o (I.ok.bs b o e).1 (I.ok.bs b o e).2 (I.ok.nofr e) (I.ok.noex b o e),I.base.free b o (I.ok.bs b o e).1 (I.ok.bs b o e).2 (I.ok.noex b o e)⟩
theorem Inv.bk (I:Inv X pins σ H s):∀ b o,X.base.get? b=some o->s.heap.get? b=some o:=λb o e=>(I.bs b o e).1
theorem Inv.mod (I:Inv X pins σ H s):Mod X.K X.mg X.base:=I.ok.mod
theorem Inv.kIn (I:Inv X pins σ H s):X.K.In s.heap:=I.ok.mod.kin.keeps I.bk
theorem Inv.fr (I:Inv X pins σ H s):∃ m,Fr X.base X.env.locals s.heap m:=
 let ⟨m,a,_⟩:=I.loc
 ⟨m,a,I.bk,Gd I.ok.bsz I.ok.above⟩
theorem Inv.lt (I:Inv X pins σ H s):X.env.locals<s.heap.objs.size:=let ⟨_,a,_⟩:=I.loc;a.lt
theorem Inv.sz (I:Inv X pins σ H s):X.s₀.heap.objs.size<=s.heap.objs.size:=Gd I.ok.above (II I.lt)
theorem Inv.nofs (I:Inv X pins σ H s) {a:Addr} (h:s.heap.objs.size<=a):a∉X.fs:=λb=>by
 obtain ⟨_,o,c,_⟩:=I.ok.funs.mem b;exact absurd (Ga (FK c) (Gd I.sz h)) (HV _)
theorem Inv.cne (I:Inv X pins σ H s):∀ x c,X.env.cells.lookup x=some c->c≠X.env.locals:=λx c e z=>by
 obtain ⟨v,o,d,hd⟩:=I.cell x c e;obtain ⟨m,⟨o',es,f,a,b,_⟩,_⟩:=I.loc;rw [z,a] at d;cases d;rw [b] at hd;cases hd
theorem Inv.funs (I:Inv X pins σ H s):s.heap.FunFrames X.base X.outer:=by
 have a:∀ (l:List Env),(∀ b∈frs l,b∈X.fs)->X.s₀.heap.FunFrames X.base l->s.heap.FunFrames X.base l:=by
  intro l;induction l with
  | nil=>intro _ _;trivial
  | cons j r n=>
   intro hs k;obtain ⟨g,⟨L,o,c,i,h,hd⟩,m⟩:=k;have f:=hs L (by unfold frs;rw [HE,c];exact FO);obtain ⟨p,e⟩:=I.base.slot L o h (I.ok.frf L f) f λz=>I.ok.exfs L z f;exact ⟨g,⟨L,_,c,i,e,hd⟩,n (λb d=>hs b (by unfold frs;rw [HE,c];exact FQ _ d)) m⟩
 exact a X.outer (λ_ d=>d) I.ok.funs
theorem Inv.stack (I:Inv X pins σ H s):s.heap.FunFrames X.base X.stack:=by
 rcases I.ok.stk with e | ⟨e,hf⟩
 ·rw [e];exact I.funs
 ·rw [e];obtain ⟨m,a,_⟩:=I.loc;refine .cons (by rw [I.ok.kind];decide) hf a ?_ I.funs;exact Heap.get?_none_of_le (Gd I.ok.bsz I.ok.above)
theorem Inv.stkSub (I:Inv X pins σ H s):∀ b∈frs X.stack,b∈X.env.locals :: X.fs:=λb a=>by
 rcases I.ok.stk with e | ⟨e,hf⟩
 ·grind
 ·rw [e] at a;unfold frs at a;rw [HE,hf] at a;exact a
theorem Inv.stkFree (I:Inv X pins σ H s):∀ b∈frs X.stack,H b=none:=λb a=>by
 rcases FP.mp (I.stkSub b a) with e | a
 ·rw [e];exact I.free
 ·obtain ⟨_,o,c,_⟩:=I.ok.funs.mem a;exact I.base.free b o c (I.ok.frf b a) λz=>I.ok.exfs b z a
theorem Inv.step {d':Drawn} {ch:List Addr} (I:Inv X pins σ H s)
  (h:∀ b∈ch,(b∈X.ex\/X.s₀.heap.objs.size<=b)/\b≠X.env.locals/\(∀ x c,X.env.cells.lookup x=some c->c≠b)/\∀ p∈X.pn++pins,p.1≠b)
  (j:∀ b o,b≠X.env.locals->b∉X.fs->b∉ch->s.heap.get? b=some o->H b=none->h'.get? b=some o)
  (A:∀ b o,b≠X.env.locals->b∈X.fs->b∉ch->s.heap.get? b=some o->H b=none->∃ O,h'.get? b=some { o with slots:=O }) (f:∀ b o,b∉ch->s.heap.get? b=some o->H b=none->H' b=none)
  (C:∀ b o,b∉ch->s.heap.get? b=some o->∃ o',h'.get? b=some o')
  (G:∀ b xs,H b=some (.tup xs)->H' b=some (.tup xs)) (J:∀ b o u,H b=some (.frz o u)->H' b=some (.frz o u)) (E:∀ b ps,H b=some (.tbl ps)->∃ F,H' b=some (.tbl (ps++F)))
  (ns:∀ m,s.heap.Ns X.env.locals m->h'.Ns X.env.locals m) (N:HOk X.prog X.w H' h') (Y:AllBare g') :
  Inv X pins σ H' { s with heap:=h',gens:=g',drawn:=d',toks:=t' }:=by
 have K:∀ b o,X.s₀.heap.get? b=some o->b≠X.env.locals:=λb o e=>FN (Ga (FK e) I.ok.above);have w:∀ b o,X.s₀.heap.get? b=some o->b∉X.ex->b∉ch:=λb o e a B=>by
  rcases (h b B).1 with z | z
  ·exact a z
  ·exact absurd (Ga (FK e) z) (HV _)
 have t:∀ x c,X.env.cells.lookup x=some c->∀ v,s.heap.IsCell c v->h'.IsCell c v:=λx c e v ⟨o,D,hd⟩=>by
  have g:=λz=>(h c z).2.2.1 x c e rfl;by_cases P:c∈X.fs
  ·obtain ⟨O,q⟩:=A c o (I.cne x c e) P g D (I.freeC x c e);exact ⟨_,q,hd⟩
  ·exact ⟨o,j c o (I.cne x c e) P g D (I.freeC x c e),hd⟩
 refine ⟨I.ok,I.os,Y,⟨λb o e n B a=>?_,λb o e n B a=>?_,λb o e n a=>?_,λb o e a=>?_,λb xs e=>G b xs (I.base.tups b xs e),λb o xs e=>J b o xs (I.base.frzs b o xs e),λb ps e=>?_⟩,?_,λx c e=>?_,?_,λx c e=>?_,λp S=>?_,N,I.len⟩
 ·exact j b o (K b o e) B (w b o e a) (I.base.keep b o e n B a) (I.base.free b o e n a)
 ·obtain ⟨O,y⟩:=I.base.slot b o e n B a;obtain ⟨M,L⟩:=A b _ (K b o e) B (w b o e a) y (I.base.free b o e n a);exact ⟨M,L⟩
 ·obtain ⟨o',y⟩:=I.base.there b o e a;exact f b o' (w b o e a) y (I.base.free b o e n a)
 ·obtain ⟨o',y⟩:=I.base.there b o e a;exact C b o' (w b o e a) y
 ·obtain ⟨U,y⟩:=I.base.tbls b ps e;obtain ⟨m2,L⟩:=E b _ y;exact ⟨U++m2,by rw [L,Array.append_assoc]⟩
 ·obtain ⟨m,V,T⟩:=I.loc;refine ⟨m,ns m V,λi x v y L W=>?_⟩;obtain ⟨u,r,l⟩:=T i x v y L W;refine ⟨u,r,?_⟩;rcases l with l | ⟨k,c,e,z⟩
  ·exact .inl l
  ·exact .inr ⟨k,c,e,t x c e _ z⟩
 ·obtain ⟨v,z⟩:=I.cell x c e;exact ⟨v,t x c e v z⟩
 ·obtain ⟨m,⟨o,_,_,D,_⟩,_⟩:=I.loc;exact f _ o (λz=>(h _ z).2.1 rfl) D I.free
 ·obtain ⟨v,o,D,hd⟩:=I.cell x c e;exact f c o (λz=>(h c z).2.2.1 x c e rfl) D (I.freeC x c e)
 ·obtain ⟨e,n,R,Q,d⟩:=I.pin p S;have g:=λz=>(h p.1 z).2.2.2 p S rfl;exact ⟨j p.1 p.2 R Q g e n,f p.1 p.2 g e n,R,Q,d⟩
theorem Inv.un (I:Inv X pins σ H s) (u:Un X.fs [] H H' s.heap h') (c:HOk X.prog X.w H' h'):Inv X pins σ H' { s with heap:=h',toks:=t' }:=by
 obtain ⟨m,⟨o,es,k,g,r⟩,_⟩:=id I.loc;obtain ⟨l,j⟩:=u.any g I.free (by simp);exact I.step (ch:=[]) (λ_ z=>nomatch z) (λb o _ d _ e n=>u.keep b o e n d (by simp)) (λb o _ d _ e n=>u.slot b o e n d (by simp)) (λb o _ e n=>u.free b o e n (by simp)) (λb o _ e=>u.there b o e (by simp)) u.tups u.frzs u.tbls (λm' i=>by
  obtain ⟨o',es',f,a,h⟩:=i;rw [g] at a;cases a;exact ⟨_,es',f,j,h⟩) c I.bare
theorem Inv.call {d':Drawn} {ch:List Addr} (I:Inv X pins σ H s) (u:Un (frs X.stack) ch H H' s.heap h') (g:HOk X.prog X.w H' h') (q:AllBare g')
  (f:∀ b∈ch,(b∈X.ex\/X.s₀.heap.objs.size<=b)/\b≠X.env.locals/\(∀ x c,X.env.cells.lookup x=some c->c≠b)/\∀ p∈X.pn++pins,p.1≠b) :
  Inv X pins σ H' { s with heap:=h',gens:=g',drawn:=d',toks:=t' }:=by
 obtain ⟨m,⟨o,es,v,j,r⟩,_⟩:=id I.loc;obtain ⟨w,i⟩:=u.any j I.free λz=>(f _ z).2.1 rfl;exact I.step f (λb o i l a e n=>u.keep b o e n (λz=>(FP.mp (I.stkSub b z)).elim i l) a) (λb o _ _ a e n=>u.any e n a) (λb o a e n=>u.free b o e n a) (λb o a e=>u.there b o e a) u.tups u.frzs u.tbls (λm' t=>by
  obtain ⟨o',es',h,d,k⟩:=t;rw [j] at d;cases d;exact ⟨_,es',h,i,k⟩) g q
theorem Inv.turned {t':Nat} {it:Addr} (I:Inv X pins σ H s) (k:∀ b o,b≠it->s.heap.get? b=some o->h'.get? b=some o) (hn:H it=none) (hL:it≠X.env.locals)
  (h1:it∈X.ex\/X.s₀.heap.objs.size<=it) (h2:∀ x c,X.env.cells.lookup x=some c->c≠it) (h3:∀ p∈X.pn++pins,p.1≠it):Inv X pins σ H { s with heap:=h',toks:=t' }:=by
 have nit:∀ b u,H b=some u->b≠it:=λb u e z=>by rw [z,hn] at e;cases e
 refine I.step (g':=s.gens) (d':=s.drawn) (ch:=[it]) (λb hb=>?_) (λb o _ _ hc e _=>k b o (λz=>hc (by simp [z])) e) (λb o _ _ hc e _=>⟨o.slots,k b o (λz=>hc (by simp [z])) e⟩) (λ_ _ _ _ n=>n)
  (λb o hc e=>⟨o,k b o (λz=>hc (by simp [z])) e⟩) (λ_ _ e=>e) (λ_ _ _ e=>e) (λb ps e=>⟨#[],by rw [e];simp⟩) (λm hm=>?_) (λb u e=>?_) I.bare
 ·have e:b=it:=by simpa using hb
  subst e;exact ⟨h1,hL,h2,h3⟩
 ·obtain ⟨o,es,ep,ho,r⟩:=hm;exact ⟨o,es,ep,k _ o (Ne.symm hL) ho,r⟩
 ·refine (I.hok b u e).stay (λc v hc q=>k c v ?_ q) (λ_ q=>q) λ_ _ q=>q;rcases hc with z | z
  ·rw [z];exact nit b u e
  ·exact nit c _ z
theorem Inv.tok (I:Inv X pins σ H s) (t:Nat):Inv X pins σ H { s with toks:=t }:=I.un Un.refl I.hok
theorem Inv.kept (I:Inv X pins σ H s) (k:∀ b u,s.heap.get? b=some u->h'.get? b=some u):Inv X pins σ H { s with heap:=h',toks:=t' }:=I.un (Un.kept k) (I.hok.kept k)
theorem Inv.laid {a:Addr} {o:HO} {t':Nat} (I:Inv X pins σ H s) (k:∀ b u,s.heap.get? b=some u->h'.get? b=some u) (d:s.heap.objs.size<=a) (c:ObjOk X.prog X.w (upd H a o) h' a o) :
  Inv X pins σ (upd H a o) { s with heap:=h',toks:=t' }:=I.un (Un.laid k d (I.hok.fresh d)) (I.hok.laid k d c)
theorem Inv.write (I:Inv X pins σ H s) (f:Mut (H x)) (d:e=x\/H e=some (.own x)) (k:∀ b u,b≠e->s.heap.get? b=some u->h'.get? b=some u) (a:∃ u,h'.get? e=some u)
  (c:ObjOk X.prog X.w (upd H x o) h' x o):Inv X pins σ (upd H x o) { s with heap:=h',toks:=t' }:=I.un (Un.write f d k a) (I.hok.write f d k a c)
theorem Inv.weak (I:Inv X pins σ H s) (d:σ'.length=σ.length) (w:∀ (i:Nat) v,σ'[i]?=some (some v)->σ[i]?=some (some v)):Inv X pins σ' H s:=
 ⟨I.ok,I.os,I.bare,I.base,let ⟨m,b,a⟩:=I.loc;⟨m,b,λi x v e c f=>a i x v e (w i v c) f⟩,I.cell,I.free,I.freeC,I.pin,I.hok,d.trans I.len⟩
theorem Inv.pins_of (I:Inv X pins σ H s) (h:∀ p∈pins',s.heap.get? p.1=some p.2/\H p.1=none/\p.1≠X.env.locals/\p.1∉X.fs/\∀ v,p.2.data≠.cell v):Inv X pins' σ H s:=
 ⟨I.ok,I.os,I.bare,I.base,I.loc,I.cell,I.free,I.freeC,λp a=>(Gh.mp a).elim (λz=>I.pin p (List.mem_append_left _ z)) (h p),I.hok,I.len⟩
theorem ah {N:List Str} (e:N.Nodup) {i j:Nat} {x:Str} (a:N[i]?=some x) (b:N[j]?=some x):i=j:=by
 obtain ⟨f,d⟩:=Fv.mp a;obtain ⟨g,c⟩:=Fv.mp b;exact (List.getElem_inj e).mp (d.trans c.symm)
theorem cu {i:Nat} {x:Str} {v:V} {u:Value} {Q:Unit->Shared->Prop} (I:Inv X pins σ H s) (hN:X.N.Nodup) (O:X.N[i]?=some x) (t:Loc X.env.scope x) (r:RelV v u)
  (h:∀ s',Inv X pins (σ.set i (some v)) H s'->(∃ a,Heap.SameBut a s.heap s'.heap/\(a=X.env.locals\/X.env.cells.lookup x=some a))->Q () s') (hf:X.fn x=true\/X.env.scope.names.lookup x=some .local:=by first | exact .inl rfl | exact .inr rfl | assumption):wpAny M A (storeName X.env x u) Q E s:=by
 obtain ⟨m,Z,hl⟩:=id I.loc;have L:(X.env.scope.kind==.class||(X.env.scope.kind==.module&&X.env.locals != X.env.globals))=false:=by rw [I.ok.kind];rfl
 have B:i<σ.length:=by rw [I.len];exact (Fv.mp O).1
 have C:=I.cne;have f:∀ {a:Addr} {h':Heap},(∃ o,s.heap.get? a=some o/\H a=none)->Heap.SameBut a s.heap h'->HOk X.prog X.w H h':=λ{a h'} ha hs b ob e=>by
  obtain ⟨_,_,hfree⟩:=ha;refine (I.hok b ob e).stay (λc w' l q=>(hs.2 c ?_).trans q) (λ_ q=>q) λ_ _ q=>q;rintro rfl;rcases l with rfl | l
  ·grind
  ·grind
 rcases t with hk | hk
 ·refine wpAny_storeName_local hk Z (λh' W hs=>?_) L;obtain ⟨oL,_,_,hoL,_⟩:=id Z;refine h _ ⟨I.ok,I.os,I.bare,⟨λb o e n D t=>?_,λb o e n D t=>?_,I.base.free,λb o e t=>?_,I.base.tups,I.base.frzs,I.base.tbls⟩,⟨_,W,λj y T g w e3=>?_⟩,λy c e=>?_,I.free,I.freeC,λp hp=>?_,f ⟨oL,hoL,I.free⟩ hs,by simpa using I.len⟩ ⟨_,hs,.inl rfl⟩
  ·exact (hs.2 b (FN (Ga (FK e) I.ok.above))).trans (I.base.keep b o e n D t)
  ·obtain ⟨sl,g⟩:=I.base.slot b o e n D t;exact ⟨sl,(hs.2 b (FN (Ga (FK e) I.ok.above))).trans g⟩
  ·obtain ⟨o',g⟩:=I.base.there b o e t;exact ⟨o',(hs.2 b (FN (Ga (FK e) I.ok.above))).trans g⟩
  ·by_cases F:j=i
   ·subst F;rw [O] at g;cases g;rw [Ge B] at w;cases w;exact ⟨u,r,.inl ⟨hk,by simp⟩⟩
   ·rw [FS (Ne.symm F)] at w;obtain ⟨Y,r',q⟩:=hl j y T g w e3;refine ⟨Y,r',?_⟩;rcases q with ⟨k,e⟩ | ⟨k,c,e,z⟩
    ·refine .inl ⟨k,?_⟩;have:y≠x:=λe=>F (ah hN g (e▸O));simp [this,e]
    ·exact .inr ⟨k,c,e,z.sameBut hs (C y c e)⟩
  ·obtain ⟨w',z⟩:=I.cell y c e;exact ⟨w',z.sameBut hs (C y c e)⟩
  ·obtain ⟨e,n,R,U,d⟩:=I.pin p hp;exact ⟨(hs.2 p.1 R).trans e,n,R,U,d⟩
 ·have G:X.fn x=true:=by
   rcases hf with z | z
   ·exact z
   ·rw [z] at hk;cases hk
  obtain ⟨c,l⟩:=I.ok.has x (.inl hk);obtain ⟨w',z⟩:=I.cell x c l;refine wpAny_storeName_cell I.ok.kind hk l z (λh' N hs=>?_);obtain ⟨oc,J,P⟩:=id z;refine h { s with heap:=h' } ⟨I.ok,I.os,I.bare,⟨λb o e n D t=>?_,λb o e n D t=>?_,I.base.free,λb o e t=>?_,I.base.tups,I.base.frzs,I.base.tbls⟩,⟨m,Z.sameBut hs (Ne.symm (C x c l)),λj y T g w e3=>?_⟩,λy S e=>?_,I.free,I.freeC,λp hp=>?_,f ⟨oc,J,I.freeC x c l⟩ hs,by simpa using I.len⟩ ⟨c,hs,.inr l⟩
  ·exact (hs.2 b (FN (Ga (FK e) (I.ok.cab x c G l)))).trans (I.base.keep b o e n D t)
  ·obtain ⟨sl,g⟩:=I.base.slot b o e n D t;exact ⟨sl,(hs.2 b (FN (Ga (FK e) (I.ok.cab x c G l)))).trans g⟩
  ·obtain ⟨o',g⟩:=I.base.there b o e t;exact ⟨o',(hs.2 b (FN (Ga (FK e) (I.ok.cab x c G l)))).trans g⟩
  ·by_cases F:j=i
   ·subst F;rw [O] at g;cases g;rw [Ge B] at w;cases w;exact ⟨u,r,.inr ⟨.inl hk,c,l,N⟩⟩
   ·rw [FS (Ne.symm F)] at w;obtain ⟨Y,r',q⟩:=hl j y T g w e3;refine ⟨Y,r',?_⟩;rcases q with q | ⟨k,S,e,z'⟩
    ·exact .inl q
    ·refine .inr ⟨k,S,e,z'.sameBut hs ?_⟩;rintro rfl;exact F (ah hN g (I.ok.inj _ _ _ e l▸O))
  ·by_cases K:S=c
   ·subst K;exact ⟨_,N⟩
   ·obtain ⟨w2,z2⟩:=I.cell y S e;exact ⟨w2,z2.sameBut hs K⟩
  ·obtain ⟨e,n,R,U,d⟩:=I.pin p hp;refine ⟨(hs.2 p.1 ?_).trans e,n,R,U,d⟩;intro q;rw [q,J] at e;have q':=Gz e;exact d w' (by rw [<- q'];exact P)
theorem U2 {i:Nat} {x:Str} {v:V} {u:Value} {Q:Unit->Shared->Prop} (I:Inv X pins σ H s) (e:X.N.Nodup) (c:X.N[i]?=some x) (a:Loc X.env.scope x) (r:RelV v u)
  (h:∀ s',Inv X pins (σ.set i (some v)) H s'->Q () s') (b:X.fn x=true\/X.env.scope.names.lookup x=some .local:=by first | exact .inl rfl | exact .inr rfl | assumption):wpAny M A (storeName X.env x u) Q E s:=
 cu I e c a r (λs' d _=>h s' d) b
theorem Inv.call' {ch:List Addr} (I:Inv X pins σ H s) (g:s'.os=s.os) (u:Un (frs X.stack) ch H H' s.heap s'.heap) (d:HOk X.prog X.w H' s'.heap) (f:AllBare s'.gens)
  (a:∀ b∈ch,(b∈X.ex\/X.s₀.heap.objs.size<=b)/\b≠X.env.locals/\(∀ x c,X.env.cells.lookup x=some c->c≠b)/\∀ p∈X.pn++pins,p.1≠b):Inv X pins σ H' s':=by
 obtain ⟨h',g',d',t',o'⟩:=s';have e:=g;subst e;exact I.call u d f a
end
abbrev XK:=Value->Option Addr->Hp->Prop
abbrev St:=List (Option V)
abbrev VK:=V->Hp->Prop
abbrev TE:=St->Hp->VK->Prop
abbrev TT:=St->Hp->(Bool->Hp->Prop)->Prop
abbrev TA:=St->Hp->(List V->Hp->Prop)->Prop
structure Ends where
 nx:St->Hp->Prop
 rt:VK
 bk:St->Hp->Prop:=λ_ _=>False
 ct:St->Hp->Prop:=λ_ _=>False
abbrev TS:=Ends->St->Hp->Prop
def EP (X:Cx) (pins:List (Addr×Obj)) (σ:St) (Q:VK) (u:Value) (s':Shared):Prop:=∃ v H',Inv X pins σ H' s'/\RelV v u/\Q v H'
def TP (X:Cx) (pins:List (Addr×Obj)) (σ:St) (Q:Bool->Hp->Prop) (b:Bool) (s':Shared):Prop:=∃ H',Inv X pins σ H' s'/\Q b H'
def AP (X:Cx) (pins:List (Addr×Obj)) (σ:St) (Q:List V->Hp->Prop) (us:List Value) (s':Shared):Prop:=∃ vs H',Inv X pins σ H' s'/\Vals vs us/\Q vs H'
def SP (X:Cx) (pins:List (Addr×Obj)) (D:Ends) (f:Flow) (s':Shared):Prop:=
 match f with
 | .next=>∃ a H',Inv X pins a H' s'/\D.nx a H'
 | .brk=>∃ a H',Inv X pins a H' s'/\D.bk a H'
 | .cont=>∃ a H',Inv X pins a H' s'/\D.ct a H'
 | .ret u=>∃ v a H',Inv X pins a H' s'/\RelV v u/\D.rt v H'
def PE (X:Cx) (e:Expr) (t:TE):Prop:=
 ∀ (pins:List (Addr×Obj)) (s:Shared) (σ:St) (H:Hp) (Q:VK),Inv X pins σ H s->t σ H Q->wpAny (model X.prog X.w) X.A (eval e X.env) (EP X pins σ Q) X.xe s
def PT (X:Cx) (e:Expr) (t:TT):Prop:=
 ∀ (pins:List (Addr×Obj)) (s:Shared) (σ:St) (H:Hp) (Q:Bool->Hp->Prop),Inv X pins σ H s->t σ H Q->wpAny (model X.prog X.w) X.A (isTrue e X.env (eval e X.env)) (TP X pins σ Q) X.xe s
def PW (X:Cx) (e:Expr) (t:TT):Prop:=
 ∀ (a:Sem Value) (pins:List (Addr×Obj)) (s:Shared) (σ:St) (H:Hp) (Q:Bool->Hp->Prop),Inv X pins σ H s->t σ H Q->wpAny (model X.prog X.w) X.A (isTrue e X.env a) (TP X pins σ Q) X.xe s
theorem PW.pt (h:PW X e t):PT X e t:=h _
def PA (X:Cx) (es:List Expr) (t:TA):Prop:=
 ∀ (pos:Pos) (pins:List (Addr×Obj)) (s:Shared) (σ:St) (H:Hp) (Q:List V->Hp->Prop),Inv X pins σ H s->t σ H Q->wpAny (model X.prog X.w) X.A (spliced (backTo pos (starEach es X.env))) (AP X pins σ Q) X.xe s
def PS (X:Cx) (st:Stmt) (t:TS):Prop:=
 ∀ (pins:List (Addr×Obj)) (s:Shared) (σ:St) (H:Hp) (D:Ends),Inv X pins σ H s->t D σ H->wpAny (model X.prog X.w) X.A (exec st X.env) (SP X pins D) X.xe s
def PSs (X:Cx) (st:List Stmt) (t:TS):Prop:=
 ∀ (pins:List (Addr×Obj)) (s:Shared) (σ:St) (H:Hp) (D:Ends),Inv X pins σ H s->t D σ H->wpAny (model X.prog X.w) X.A (execs st X.env) (SP X pins D) X.xe s
theorem thn {M:Model} {A:Around} {E:Value->Shared->Prop} {s:Shared} (h:wpAny M A t Q E s) (b:∀ a s,Q a s->Q' a s):wpAny M A t Q' E s:=Gs h b λ_ _ x=>x
section
variable {X:Cx}
def zO (i:Nat):TE:=λσ H Q=>∃ v,σ[i]?=some (some v)/\Q v H
def tC (v:V):TE:=λ_ H Q=>Q v H
theorem rS {pos:Pos} (o:X.N[i]?=some x) (p:Vis X.env.scope x) (hd:(x==("__debug__" : Str))=false:=by decide) (f:(x==("__classdict__" : Str))=false:=by decide):PE X (.Name x pos) (zO i):=by
 intro pins s σ H Q I h;obtain ⟨v,e,h⟩:=h;obtain ⟨m,j,k⟩:=I.loc;obtain ⟨u,r,l⟩:=k i x v o e p;have d:EP X pins σ Q u s:=⟨v,H,I,r,h⟩;rcases l with ⟨b,n⟩ | ⟨b,c,g,a⟩
 ·exact wpAny_Name (wpAny_loadName_local I.ok.kind b j n d) hd
 ·rcases b with b | b
  ·exact wpAny_Name (wpAny_loadName_cell I.ok.kind b g a d) hd
  ·exact wpAny_Name (wpAny_loadName_free I.ok.kind b g a d f) hd
theorem yI {i j pos}:PE X (.Constant (.int i) j pos) (tC (.int i)):=λ_ _ _ H _ I h=>wpAny_Constant_int ⟨.int i,H,I.tok _,⟨_,rfl⟩,h⟩
theorem Co {b j pos}:PE X (.Constant (.bool b) j pos) (tC (.bl b)):=λ_ _ _ H _ I h=>Constant_bool ⟨.bl b,H,I,rfl,h⟩
theorem zC {j pos}:PE X (.Constant .none j pos) (tC .non):=λ_ _ _ H _ I h=>Constant_none ⟨.non,H,I,rfl,h⟩
theorem xp {x j pos}:PE X (.Constant (.str x) j pos) (tC (.str x)):=λ_ _ _ H _ I h=>Calls.Constant_str ⟨.str x,H,I.tok _,⟨_,rfl⟩,h⟩
def Gl (X:Cx) (x:Str):Prop:=X.env.kindOf x=some .globalImplicit
theorem G4 {pins:List (Addr×Obj)} {s:Shared} {σ:St} {H:Hp} {x:Str} {u:Value} {pos:Pos} {Q:Value->Shared->Prop} (I:Inv X pins σ H s) (a:Gl X x) (b:X.mg x=some u) (h:Q u s)
  (hd:(x==("__debug__" : Str))=false:=by decide):wpAny (model X.prog X.w) X.A (eval (.Name x pos) X.env) Q E s:=
 Js I.ok.kind a (Calls.loadGlobal_global (by rw [I.ok.glob];exact I.mod.glob.keeps I.bk) b h) hd
theorem G0 {E:Value->Shared->Prop} {pins:List (Addr×Obj)} {s:Shared} {σ:St} {H:Hp} {x:Str} {u:Value} {pos:Pos} {Q:Value->Shared->Prop} (I:Inv X pins σ H s) (d:Gl X x) (e:X.mg x=none) (f:bootBuiltins x=some u) (h:Q u s)
  (a:x ≠ "__name__":=by decide) (hd:(x==("__debug__" : Str))=false:=by decide):wpAny (model X.prog X.w) X.A (eval (.Name x pos) X.env) Q E s:=by
 obtain ⟨g,b,c⟩:=I.mod.blt;exact Js I.ok.kind d (Calls.loadGlobal_builtin (by rw [I.ok.glob];exact I.mod.glob.keeps I.bk) e (by rw [I.ok.blt];exact b.keeps I.bk) ((c x a).trans f) h) hd
theorem dk {u:Value} {pos:Pos} (a:Gl X x) (b:X.mg x=some u) (r:RelV v u) (hd:(x==("__debug__" : Str))=false:=by decide):PE X (.Name x pos) (tC v):=
 λ_ _ _ H _ I h=>G4 I a b ⟨v,H,I,r,h⟩ hd
theorem sY {u:Value} {pos:Pos} (c:Gl X x) (d:X.mg x=none) (b:bootBuiltins x=some u) (r:RelV v u) (a:x ≠ "__name__":=by decide) (hd:(x==("__debug__" : Str))=false:=by decide):PE X (.Name x pos) (tC v):=
 λ_ _ _ H _ I h=>G0 I c d b ⟨v,H,I,r,h⟩ a hd
variable {a b:Expr} {ta tb:TE} {pos:Pos}
variable {tA tB':TT} {rest:List Expr}
def Dr (t u:TT):TT:=λσ H Q=>t σ H λc a=>if c=true then u σ a Q else Q false a
def tOr (t u:TT):TT:=λσ H Q=>t σ H λc a=>if c=true then Q true a else u σ a Q
def zT (t:TT):TT:=λσ H Q=>t σ H λc a=>Q (!c) a
theorem pw_and1 (b:PT X a tA):PW X (.BoolOp .And [a] pos) tA:=by
 intro d pins s σ H Q I h;refine isTrue_and (thn (b pins s σ H Q I h) λc f e=>?_);cases c with
 | true=>exact isTrue_and_nil e
 | false=>exact e
theorem pw_or1 (b:PT X a tA):PW X (.BoolOp .Or [a] pos) tA:=by
 intro d pins s σ H Q I h;refine isTrue_or (thn (b pins s σ H Q I h) λc f e=>?_);cases c with
 | false=>exact isTrue_or_nil e
 | true=>exact e
theorem pw_and (g:PT X a tA) (j:PW X (.BoolOp .And (b :: rest) pos) tB'):PW X (.BoolOp .And (a :: b :: rest) pos) (Dr tA tB'):=by
 intro i pins s σ H Q I h;refine isTrue_and (thn (g pins s σ H _ I h) λc k ⟨e,d,f⟩=>?_);cases c with
 | true=>exact j i pins k σ e Q d f
 | false=>exact ⟨e,d,f⟩
theorem pw_or (g:PT X a tA) (j:PW X (.BoolOp .Or (b :: rest) pos) tB'):PW X (.BoolOp .Or (a :: b :: rest) pos) (tOr tA tB'):=by
 intro i pins s σ H Q I h;refine isTrue_or (thn (g pins s σ H _ I h) λc k ⟨e,d,f⟩=>?_);cases c with
 | true=>exact ⟨e,d,f⟩
 | false=>exact j i pins k σ e Q d f
theorem gr (d:PT X a tA):PT X (.UnaryOp .Not a pos) (zT tA):=by
 intro pins s σ H Q I h;exact isTrue_not (d pins s σ H (λc b=>Q (!c) b) I h)
theorem AI {op} {t:TE} (h:PE X a t):PE X (.BoolOp op [a] pos) t:=λpins s σ H Q I b=>BoolOp_one (h pins s σ H Q I b)
def tIf (t:TT) (b d:TE):TE:=λσ H Q=>t σ H λc a=>if c=true then b σ a Q else d σ a Q
theorem ng (l:PT X c tA) (j:PE X a ta) (k:PE X b tb):PE X (.IfExp c a b pos) (tIf tA ta tb):=by
 intro pins s σ H Q I h;refine wpAny_IfExp (thn (l pins s σ H _ I h) λd g ⟨f,e,i⟩=>?_);cases d with
 | true=>exact j pins g σ f Q e i
 | false=>exact k pins g σ f Q e i
end
def SqL (K:PySem.W.Frag) (H:Hp) (a:Addr) (xs:List V):Prop:=
 Rd H a (.lst xs) \/
  ∃ (o:Obj) (b:Array Value) (n:Nat),K.lookup a=some o/\o.cls=.type "list"/\o.dict=none/\o.data=.seq b n/\b.size<=sizeLine/\Vals xs b.toList
def SqT (K:PySem.W.Frag) (H:Hp) (a:Addr) (xs:List V):Prop:=
 Rd H a (.tup xs) \/
  ∃ (o:Obj) (b:Array Value) (n:Nat),K.lookup a=some o/\o.cls=.type "tuple"/\o.data=.seq b n/\b.size<=sizeLine/\Vals xs b.toList
def EI:Value->Option V
 | .none=>some .non
 | .bool b=>some (.bl b)
 | .int i _=>some (.int i)
 | .str x _=>some (.str x)
 | .bytes b _=>some (.byt b)
 | .float b _=>some (.flt b)
 | .ref a=>some (.ref a)
 | .type n=>some (.ty n)
 | _=>none
theorem RelV.abs (r:RelV x u):EI u=some x:=by
 cases x with
 | non=>cases r;rfl
 | bl _=>cases r;rfl
 | int _=>obtain ⟨t,rfl⟩:=r;rfl
 | str _=>obtain ⟨t,rfl⟩:=r;rfl
 | byt _=>obtain ⟨t,rfl⟩:=r;rfl
 | flt _=>obtain ⟨t,rfl⟩:=r;rfl
 | ref _=>cases r;rfl
 | ty _=>cases r;rfl
theorem RelV.inj {u:Value} (r:RelV x u) (q:RelV y u):x=y:=Gz (r.abs.symm.trans q.abs)
theorem Vals.inj:∀ {xs ys:List V} {us:List Value},Vals xs us->Vals ys us->xs=ys
 | _,_,_,.nil,.nil=>rfl
 | _,_,_,.cons r t,.cons a t'=>by rw [r.inj a,Vals.inj t t']
section
variable {X:Cx} {pins:List (Addr×Obj)} {σ:St} {H:Hp} {s:Shared} {a:Addr} {xs ys:List V}
theorem Inv.list (I:Inv X pins σ H s) (h:SqL X.K H a xs):∃ b:List Value,Vals xs b/\PlainL s.heap a b.toArray/\xs.length<=sizeLine:=by
 rcases h with h | ⟨o,b,n,hk,hc,hd,hs,hz,r⟩
 ·obtain ⟨z,b,n,r,e⟩:=h.ok I.hok;exact ⟨b,r,⟨_,n,e,rfl,rfl,rfl⟩,z⟩
 ·refine ⟨b.toList,r,⟨o,n,I.kIn a o hk,hc,hd,by simpa using hs⟩,?_⟩;have e:=r.length;simp at e;omega
theorem Inv.tuple (I:Inv X pins σ H s) (h:SqT X.K H a xs):∃ b:List Value,Vals xs b/\IsTup s.heap a b.toArray/\xs.length<=sizeLine:=by
 rcases h with h | ⟨o,b,n,hk,hc,hs,hz,r⟩
 ·obtain ⟨z,b,r,p⟩:=h.ok I.hok;exact ⟨b,r,p.is,z⟩
 ·refine ⟨b.toList,r,⟨o,I.kIn a o hk,hc,n,by simpa using hs⟩,?_⟩;have e:=r.length;simp at e;omega
theorem Inv.list_inj (I:Inv X pins σ H s) (h:SqL X.K H a xs) (h':SqL X.K H a ys):xs=ys:=by
 obtain ⟨b,r,⟨o,n,e,_,_,d⟩,_⟩:=I.list h;obtain ⟨its',f,⟨o',g,c,_,_,d'⟩,_⟩:=I.list h';rw [e] at c;cases c;rw [d] at d';injection d' with d1 _;have:b=its':=by simpa using congrArg Array.toList d1
 subst this;exact r.inj f
theorem Inv.tuple_inj (I:Inv X pins σ H s) (h:SqT X.K H a xs) (h':SqT X.K H a ys):xs=ys:=by
 obtain ⟨b,r,⟨o,e,_,n,d⟩,_⟩:=I.tuple h;obtain ⟨its',f,⟨o',c,_,g,d'⟩,_⟩:=I.tuple h';rw [e] at c;cases c;rw [d] at d';injection d' with d1 _;have:b=its':=by simpa using congrArg Array.toList d1
 subst this;exact r.inj f
end
abbrev Cx.wish (X:Cx) (E:Value->Shared->Prop):Cx:={ X with xe:=E }
abbrev Cx.nox (X:Cx):Cx:=X.wish λ_ _=>False
theorem Cx.Ok.wish {X:Cx} (a:X.Ok) (E:Value->Shared->Prop):(X.wish E).Ok:=
 ⟨a.mod,a.kind,a.glob,a.blt,a.above,a.inj,a.has,a.cab,a.hd,a.frames,a.stk,a.exf,a.bs,a.bsz,a.noex,a.exfs,a.funs,a.frf⟩
theorem Cx.Ok.unwish {X:Cx} {E:Value->Shared->Prop} (a:(X.wish E).Ok):X.Ok:=
 ⟨a.mod,a.kind,a.glob,a.blt,a.above,a.inj,a.has,a.cab,a.hd,a.frames,a.stk,a.exf,a.bs,a.bsz,a.noex,a.exfs,a.funs,a.frf⟩
section
variable {X:Cx} {pins:List (Addr×Obj)} {σ:St} {H:Hp} {s:Shared} {E:Value->Shared->Prop}
theorem Inv.wish (I:Inv X pins σ H s) (E:Value->Shared->Prop):Inv (X.wish E) pins σ H s:=⟨I.ok.wish E,I.os,I.bare,I.base,I.loc,I.cell,I.free,I.freeC,I.pin,I.hok,I.len⟩
theorem Inv.unwish (I:Inv (X.wish E) pins σ H s):Inv X pins σ H s:=⟨I.ok.unwish,I.os,I.bare,I.base,I.loc,I.cell,I.free,I.freeC,I.pin,I.hok,I.len⟩
theorem SP.unwish (h:SP (X.wish E) pins D f s'):SP X pins D f s':=by
 cases f with
 | next=>obtain ⟨σ',H',I,q⟩:=h;exact ⟨σ',H',I.unwish,q⟩
 | brk=>obtain ⟨σ',H',I,q⟩:=h;exact ⟨σ',H',I.unwish,q⟩
 | cont=>obtain ⟨σ',H',I,q⟩:=h;exact ⟨σ',H',I.unwish,q⟩
 | ret u=>obtain ⟨v,σ',H',I,r,q⟩:=h;exact ⟨v,σ',H',I.unwish,r,q⟩
theorem PSs.nox {st:List Stmt} {t:TS} (h:PSs X.nox st t):PSs X st t:=λpins s σ H D I a=>
 Gs (h pins s σ H D (I.wish _) a) (λ_ _ q=>q.unwish) λ_ _ z=>False.elim z
end
section
variable {X:Cx} {st:Stmt} {rest:List Stmt} {t u:TS} {e:Expr} {te:TE} {pos:Pos}
def tNext:TS:=λD σ H=>D.nx σ H
def Ek (t u:TS):TS:=λD σ H=>t { D with nx:=u D } σ H
theorem sd:PSs X [] tNext:=λ_ _ σ H _ I h=>HR ⟨σ,H,I,h⟩
theorem u3 (h1:PS X st t) (h2:PSs X rest u):PSs X (st :: rest) (Ek t u):=by
 intro pins s σ H D I h;refine JV (thn (h1 pins s σ H { D with nx:=u D } I h) λf s1 q=>?_);cases f with
 | next=>
  obtain ⟨σ',H',I',q⟩:=q;exact h2 pins s1 σ' H' D I' q
 | ret v=>exact q
 | brk=>exact q
 | cont=>exact q
theorem M1 (h1:PS X st t):PSs X [st] t:=by
 intro pins s σ H D I h;refine JV (thn (h1 pins s σ H D I h) λf s1 q=>?_);cases f with
 | next=>exact HR q
 | ret v=>exact q
 | brk=>exact q
 | cont=>exact q
theorem Inv.quiet {σ:St} {H:Hp} {s:Shared} (I:Inv X pins σ H s):interactive X.env=false:=by simp [interactive,I.ok.kind]
def Bv (te:TE):TS:=λD σ H=>te σ H λ_ a=>D.nx σ a
theorem D9 (a:PE X e te) (hs:swapsWith e none pos.line X.env=pure false:=by rfl):PS X (.Expr e pos) (Bv te):=by
 intro pins s σ H D I h;exact wpAny_Expr_any (thn (a pins s σ H _ I h) λv f ⟨x,c,b,g,d⟩=>⟨σ,c,b,d⟩) I.quiet hs
def FD (te:TE):TS:=λD σ H=>te σ H D.rt
theorem yy (a:PE X e te):PS X (.Return (some e) pos) (FD te):=by
 intro pins s σ H D I h;exact wpAny_Return_some (thn (a pins s σ H _ I h) λv g ⟨x,c,b,f,d⟩=>⟨x,σ,c,b,f,d⟩)
def EC (c:TT) (t u:TS):TS:=λD σ H=>c σ H λb a=>if b=true then t D σ a else u D σ a
theorem ps_if {j:TT} (m:PT X c j) (k:PSs X a t) (l:PSs X b u):PS X (.If c a b pos) (EC j t u):=by
 intro pins s σ H D I h;refine wpAny_If (thn (m pins s σ H _ I h) λd g ⟨f,e,i⟩=>?_);cases d with
 | true=>exact k pins g σ f D e i
 | false=>exact l pins g σ f D e i
def tNever:TS:=λ_ _ _=>False
theorem eT:PS X st tNever:=λ_ _ _ _ _ _ h=>h.elim
end
abbrev TG:=V->St->Hp->(St->Hp->Prop)->Prop
abbrev TGs:=List V->St->Hp->(St->Hp->Prop)->Prop
def PG (X:Cx) (a:Expr) (t:TG):Prop:=
 ∀ (pins:List (Addr×Obj)) (s:Shared) (σ:St) (H:Hp) (v:V) (u:Value) (Q:St->Hp->Prop),Inv X pins σ H s->RelV v u->t v σ H Q ->
  wpAny (model X.prog X.w) X.A (assign a X.env u) (λ_ s'=>∃ b H',Inv X pins b H' s'/\Q b H') X.xe s
def PGs (X:Cx) (b:List Expr) (t:TGs):Prop:=
 ∀ (pins:List (Addr×Obj)) (s:Shared) (σ:St) (H:Hp) (vs:List V) (us:List Value) (Q:St->Hp->Prop),Inv X pins σ H s->Vals vs us->t vs σ H Q ->
  wpAny (model X.prog X.w) X.A (assignInOrder ((assignEach b X.env).map (·.2)) us) (λ_ s'=>∃ a H',Inv X pins a H' s'/\Q a H') X.xe s
abbrev zb:=V->V->V->Hp->(Hp->Prop)->Prop
def AH (X:Cx) (t:zb):Prop:=
 ∀ (pins:List (Addr×Obj)) (s:Shared) (σ:St) (H:Hp) (o i v:V) (b a u:Value) (Q:Hp->Prop),Inv X pins σ H s->RelV o b->RelV i a->RelV v u->t o i v H Q ->
  wpAny (model X.prog X.w) X.A (setItem b a u) (λ_ s'=>∃ H',Inv X pins σ H' s'/\Q H') X.xe s
section
variable {X:Cx} {pos:Pos}
def ax (i:Nat):TG:=λv σ H Q=>Q (σ.set i (some v)) H
theorem L7 (e:X.N.Nodup) (c:X.N[i]?=some x) (a:Loc X.env.scope x) (b:X.fn x=true\/X.env.scope.names.lookup x=some .local:=by first | exact .inl rfl | exact .inr rfl | assumption):PG X (.Name x pos) (ax i):=by
 intro pins s σ H v u Q I r h;exact wpAny_assign_Name (U2 I e c a r (λs' d=>⟨_,H,d,h⟩) b)
def gNil:TGs:=λvs σ H Q=>vs=[]/\Q σ H
def ni (t:TG) (u:TGs):TGs:=λvs σ H Q=>∃ v r,vs=v :: r/\t v σ H λa H'=>u r a H' Q
theorem kS:PGs X [] gNil:=by
 intro pins s σ H vs us Q I r h;obtain ⟨e,h⟩:=h;subst e;cases r;exact assignInOrder_nil ⟨σ,H,I,h⟩
theorem bE {t:TG} {u:TGs} (b:PG X e t) (g:PGs X es u)
  (hs:(assignEach (e :: es) X.env).map (·.2)=assign e X.env :: (assignEach es X.env).map (·.2):=by rfl):PGs X (e :: es) (ni t u):=by
 intro pins s σ H vs us Q I r h;obtain ⟨v,l,f,h⟩:=h;subst f;cases r with
 | cons r i=>
  rw [hs];refine assignInOrder_cons (thn (b pins s σ H _ _ _ I r h) λ_ j ⟨a,d,c,k⟩=>?_);exact g pins j a d _ _ Q c i k
def DP (K:PySem.W.Frag) (n:Nat) (t:TGs):TG:=λv σ H Q=>∃ a xs,v=.ref a/\SqT K H a xs/\xs.length=n/\t xs σ H Q
theorem nF {k:Nat} {t:TGs} {n:Nat} (x:X.calm=true) (h:PGs X es t)
  (i:(assignEach es X.env).length=n:=by rfl) (d:(assignEach es X.env).findIdx? (·.1)=none:=by rfl):PG X (.Tuple es k pos) (DP X.K n t):=by
 intro pins s σ H v u Q I r c;obtain ⟨a,xs,w,j,p,c⟩:=c;subst w;cases r;obtain ⟨q,f,l,hz⟩:=I.tuple j;refine assign_Tuple_tuple (I.ok.hd x) l (by simp [i,<- p,f.length]) d λh' g=>?_;have m:=I.kept (t':=s.toks) λb o e=>g b o (FN (FK e)) e;exact h pins _ σ H xs _ Q m (by simpa using f) c
def FA (c d:TE) (t:zb):TG:=λv σ H Q=>c σ H λo b=>d σ b λi e=>t o i v e λa=>Q σ a
theorem xy {c d:TE} {t:zb} (w:PE X o c) (A:PE X i d) (hs:AH X t)
  (q:∀ v,assign (.Subscript o i pos) X.env v=(do
   let a <- holding [v] (eval o X.env)
   let b <- holding [v,a] (eval i X.env)
   standAt pos
   holding [v,a,b] (setItem a b v)
   release [v,a,b] []):=by intro _;rfl):PG X (.Subscript o i pos) (FA c d t):=by
 intro pins s σ H v u Q I r h;rw [q];refine Fq (GD (thn (w pins s σ H _ I h) λa f ⟨x,l,g,p,n⟩=>?_));refine Fq (GD (thn (A pins f σ l _ g n) λb C ⟨y,D,z,k,e⟩=>?_));refine Fq (Iv (Fq (GD (thn (hs pins C σ D x y v a b u _ z p k r e) λ_ E ⟨B,j,m⟩=>?_))));exact wpAny_release ⟨σ,B,j,m⟩
def nq (te:TE) (g:TG):TS:=λD σ H=>te σ H λx a=>g x σ a D.nx
theorem nM {tg e:Expr} {te:TE} {g:TG} (a:PE X e te) (f:PG X tg g) (hs:swapsWithSole [tg] e pos.line X.env=pure false:=by rfl) (l:swappedStores [tg] e X.env=pure none:=by rfl)
  (b:(assignEach [tg] X.env).map (·.2)=[assign tg X.env]:=by rfl):PS X (.Assign [tg] e pos) (nq te g):=by
 intro pins s σ H D I h;refine wpAny_Assign_stores (thn (a pins s σ H _ I h) λv i ⟨x,d,c,k,j⟩=>?_) hs l;rw [b];exact thn (f pins i σ d x v _ c k j) λ_ m q=>q
theorem hU (k:X.N.Nodup) (f:X.N[i]?=some x) (a:Loc X.env.scope x) (d:PE X e te) (hs:swapsWith e (some (.Name x pos')) pos.line X.env=pure false:=by rfl) (b:X.fn x=true\/X.env.scope.names.lookup x=some .local:=by first | exact .inl rfl | exact .inr rfl | assumption) :
  PS X (.Assign [.Name x pos'] e pos) (nq te (ax i)):=by
 intro pins s σ H D I h;refine wpAny_Assign_Name (thn (d pins s σ H _ I h) λv n ⟨y,j,g,m,l⟩=>?_) hs;exact U2 g k f a m (λo c=>⟨_,j,c,l⟩) b
end
section
variable {X:Cx} {pos:Pos}
def AJ (c:TT) (e:TS):TS:=λD σ H=>∃ W:Nat->St->Hp->Prop,(∃ m,W m σ H)/\∀ m σ H,W m σ H ->
 c σ H λb d=>if b=true then ∃ N:St->Hp->Prop,(∀ a H',N a H'->∃ m',m'<m/\W m' a H')/\e { D with nx:=N,ct:=N,bk:=D.nx } σ d else D.nx σ d
theorem qL {tc:TT} {tb:TS} (hp:PassesOwn (model X.prog X.w) X.A X.env X.xe) (hc:PT X c tc) (hb:PSs X body tb):PS X (.While c body [] pos) (AJ tc tb):=by
 intro pins s σ H D I h;obtain ⟨W,⟨m0,w0⟩,turn⟩:=h;refine wpAny_While (codeAny_whileLoop (λn s'=>∃ σ' H',Inv X pins σ' H' s'/\W n σ' H') ?_ m0 ⟨σ,H,I,w0⟩);rintro n s1 ⟨σ1,H1,I1,w1⟩;refine Hy hp (thn (hc pins s1 σ1 H1 _ I1 (turn n σ1 H1 w1)) λb s2 ⟨H2,I2,q2⟩=>?_);cases b with
 | true=>
  obtain ⟨N,hN,q2⟩:=q2;rw [if_pos rfl];refine Hy hp (thn (hb pins s2 σ1 H2 _ I2 q2) λf s3 q3=>?_);cases f with
  | next=>
   obtain ⟨σ3,H3,I3,n3⟩:=q3;obtain ⟨m',hm,w3⟩:=hN σ3 H3 n3;exact ⟨m',hm,σ3,H3,I3,w3⟩
  | cont=>
   obtain ⟨σ3,H3,I3,n3⟩:=q3;obtain ⟨m',hm,w3⟩:=hN σ3 H3 n3;exact ⟨m',hm,σ3,H3,I3,w3⟩
  | brk=>exact q3
  | ret v=>exact q3
 | false=>
  rw [if_neg Fz];exact HR ⟨σ1,H2,I2,q2⟩
end
structure It where
 go:Nat->Hp->Prop
 yld:Nat->Hp->V->Hp->Prop
 stop:Nat->Hp->Prop
def L6 (X:Cx) (pins:List (Addr×Obj)) (H:Hp) (b:Addr):Prop:=
 H b=none/\b≠X.env.locals/\b∉X.fs/\(b∈X.ex\/X.s₀.heap.objs.size<=b)/\(∀ x c,X.env.cells.lookup x=some c->c≠b)/\∀ p∈X.pn++pins,p.1≠b
theorem Inv.fpOk {σ:St} {H H':Hp} {s:Shared} {b:Addr} (I:Inv X pins σ H s) (a:s.heap.objs.size<=b) (f:H' b=none):L6 X pins H' b:=by
 refine ⟨f,Jo (Ga I.lt a),I.nofs a,.inr (Gd I.sz a),λx c e z=>?_,λp d z=>?_⟩
 ·obtain ⟨v,q⟩:=I.cell x c e;exact absurd (Ga q.lt (by rw [z];exact a)) (HV _)
 ·exact absurd (Ga (FK (I.pin p d).1) (by rw [z];exact a)) (HV _)
structure Turn (P:Program) (w:World) (K:PySem.W.Frag) (tg:Expr) (J:It) (fp:List Addr) (it:Addr) (tn:Nat->Heap->Prop):Prop where
 mem:it∈fp
 obj:∀ i h,tn i h->∀ b∈fp,∃ o,h.get? b=some o/\∀ v,o.data≠.cell v
 keep:∀ i h h',tn i h->(∀ b∈fp,∀ o,h.get? b=some o->h'.get? b=some o)->tn i h'
 item:∀ (X:Cx),X.prog=P->X.w=w->X.K=K->X.calm=true->∀ (i:Nat) (pins:List (Addr×Obj)) (s:Shared) (σ:St) (H:Hp) (E:Value->Shared->Prop),Inv X pins σ H s->(∀ b∈fp,L6 X pins H b)->tn i s.heap->J.go i H ->
  wpAny (model P w) X.A (pyNext (.ref it)) (λr s1=>∃ u,r=some u /\
   wpAny (model P w) X.A (letOwnedTupleGo tg (.ref it) u) (λ_ s2=>∃ x H',Inv X pins σ H' s2/\RelV x u/\J.yld i H x H'/\tn (i+1) s2.heap/\∀ b∈fp,H' b=none) E s1) E s
 done:∀ (X:Cx),X.prog=P->X.w=w->X.K=K->X.calm=true->∀ (i:Nat) (pins:List (Addr×Obj)) (s:Shared) (σ:St) (H:Hp) (E:Value->Shared->Prop),Inv X pins σ H s->(∀ b∈fp,L6 X pins H b)->tn i s.heap->J.stop i H ->
  wpAny (model P w) X.A (pyNext (.ref it)) (λr s1=>r=none/\Inv X pins σ H s1) E s
 self:∀ (A:Around) (i:Nat) (s:Shared) (Q:Value->Shared->Prop) (E:Value->Shared->Prop),tn i s.heap->Q (.ref it) s->wpAny (model P w) A (pyIter (.ref it)) Q E s
abbrev TI:=St->Hp->(It->Hp->Prop)->Prop
def PIE (X:Cx) (pins:List (Addr×Obj)) (σ:St) (tg:Expr) (R:It->Hp->Prop) (a:Value) (d:Shared):Prop:=
 ∃ (it:Addr) (c:List Addr) (tn:Nat->Heap->Prop) (J:It) (H':Hp),a=.ref it/\Inv X pins σ H' d/\Turn X.prog X.w X.K tg J c it tn/\tn 0 d.heap/\(∀ b∈c,L6 X pins H' b)/\R J H'
def PI (X:Cx) (tg a:Expr) (b:TI):Prop:=
 ∀ (pins:List (Addr×Obj)) (s:Shared) (σ:St) (H:Hp) (R:It->Hp->Prop),Inv X pins σ H s->b σ H R ->
  wpAny (model X.prog X.w) X.A (eval a X.env) (λv c=>wpAny (model X.prog X.w) X.A (pyIter v) (PIE X pins σ tg R) X.xe c) X.xe s
theorem mx {s:Shared} {tg:Expr} {it:Addr} {u:Value} {o:Obj} {n:String} {vs:Array Value} {Q:Unit->Shared->Prop} (c:s.heap.get? it=some o) (b:o.cls=.type n) (hd:o.data=.fields vs)
  (d:["enumerate","zip","dict_itemiterator","dict_reverseitemiterator","odict_iterator","itertools.zip_longest","itertools.pairwise"].contains n=false) (a:Q () s):wpAny M A (letOwnedTupleGo tg (.ref it) u) Q E s:=by
 cases tg <;> first
  | exact Fs a
  | (cases u <;> first
    | exact Fs a
    | (refine Fq (Kx c ?_);rw [b,hd];show wpAny M A (if (["enumerate","zip","dict_itemiterator","dict_reverseitemiterator","odict_iterator","itertools.zip_longest","itertools.pairwise"].contains n&&vs[0]?==some (rawInt _))=true then _ else _) Q E s;rw [if_neg (by intro h;rw [d,Bool.false_and] at h;cases h)];exact Fs a))
def Itl (K:PySem.W.Frag) (a:Addr):It:=
 ⟨λi H=>∃ xs x,SqL K H a xs/\xs[i]?=some x,λi H x H'=>H'=H/\∀ xs,SqL K H a xs->xs[i]?=some x,λi H=>∃ xs,SqL K H a xs/\xs.length<=i⟩
def Itt (K:PySem.W.Frag) (a:Addr):It:=
 ⟨λi H=>∃ xs x,SqT K H a xs/\xs[i]?=some x,λi H x H'=>H'=H/\∀ xs,SqT K H a xs->xs[i]?=some x,λi H=>∃ xs,SqT K H a xs/\xs.length<=i⟩
def Itr (lo:Int) (n:Nat):It:=⟨λi _=>i<n,λi H x H'=>H'=H/\x=.int (lo+i),λi _=>n<=i⟩
theorem lz {K:PySem.W.Frag} {tg:Expr} (a it:Addr):Turn P w K tg (Itl K a) [it] it (λi h=>h.IsListIter it a i) where
 mem:=by simp
 obj:=λi h st b f=>by
  have e:b=it:=by simpa using f
  subst e;obtain ⟨o,e,c,d⟩:=st;exact ⟨o,e,λv z=>by rw [d] at z;cases z⟩
 keep:=λi h h' st k=>st.at λo e=>k it (by simp) o e
 item:=by
  intro X G D A J i pins s σ H E I j st F;subst G D A;obtain ⟨xs,x,l,B⟩:=F;obtain ⟨n,C,p,hz⟩:=I.list l;obtain ⟨u,S,N⟩:=C.get B;obtain ⟨y,q,O,m,t,r⟩:=j it (by simp);refine wpAny_pyNext_list_item st p.isList (by simpa using S) λh' g R=>?_;have M:=I.turned (t':=s.toks) (λb o f e=>(R.2 b f).trans e) y q m t r;obtain ⟨o,e,c,d⟩:=id g;exact ⟨u,rfl,mx e c d (by decide) ⟨x,H,M,N,⟨rfl,λys Q=>by rw [I.list_inj Q l];exact B⟩,g,λb f=>(j b f).1⟩⟩
 done:=by
  intro X G D A J i pins s σ H E I j st F;subst G D A;obtain ⟨xs,l,B⟩:=F;obtain ⟨n,C,p,hz⟩:=I.list l;obtain ⟨y,q,O,m,t,r⟩:=j it (by simp);have T:=C.length;exact wpAny_pyNext_list_end (I.ok.hd J) st p.isList (by simp;omega) λh' L=>⟨rfl,I.turned (λb o f e=>L b o f e) y q m t r⟩
 self:=λ_ _ _ _ _ st h=>wpAny_pyIter_listiter st h
theorem hW {K:PySem.W.Frag} {tg:Expr} (a it:Addr):Turn P w K tg (Itt K a) [it] it (λi h=>h.IsTupleIter it a i) where
 mem:=by simp
 obj:=λi h st b f=>by
  have e:b=it:=by simpa using f
  subst e;obtain ⟨o,e,c,d⟩:=st;exact ⟨o,e,λv z=>by rw [d] at z;cases z⟩
 keep:=λi h h' st k=>st.at λo e=>k it (by simp) o e
 item:=by
  intro X G D A J i pins s σ H E I j st F;subst G D A;obtain ⟨xs,x,l,B⟩:=F;obtain ⟨n,C,p,hz⟩:=I.tuple l;obtain ⟨u,S,N⟩:=C.get B;obtain ⟨y,q,O,m,t,r⟩:=j it (by simp);refine wpAny_pyNext_tuple_item st (p) (by simpa using S) λh' g R=>?_;have M:=I.turned (t':=s.toks) (λb o f e=>(R.2 b f).trans e) y q m t r;obtain ⟨o,e,c,d⟩:=id g;exact ⟨u,rfl,mx e c d (by decide) ⟨x,H,M,N,⟨rfl,λys Q=>by rw [I.tuple_inj Q l];exact B⟩,g,λb f=>(j b f).1⟩⟩
 done:=by
  intro X G D A J i pins s σ H E I j st F;subst G D A;obtain ⟨xs,l,B⟩:=F;obtain ⟨n,C,p,hz⟩:=I.tuple l;obtain ⟨y,q,O,m,t,r⟩:=j it (by simp);have T:=C.length;exact wpAny_pyNext_tuple_end (I.ok.hd J) st (p) (by simp;omega) λh' L=>⟨rfl,I.turned (λb o f e=>L b o f e) y q m t r⟩
 self:=λ_ _ _ _ _ st h=>wpAny_pyIter_tupleiter st h
theorem gz {K:PySem.W.Frag} {tg:Expr} (it:Addr) (lo:Int) (n:Nat):Turn P w K tg (Itr lo n) [it] it (λi h=>IsRangeIter h it (lo+(i:Nat) * 1) ((n:Int)-(i:Nat)) 1) where
 mem:=by simp
 obj:=λi h st b a=>by
  have e:b=it:=by simpa using a
  subst e;exact ⟨_,st,λv z=>by
   have D:=z;cases D⟩
 keep:=λi h h' st k=>k it (by simp) _ st
 item:=by
  intro X x r q g i pins s σ H E I d st u;subst x r q;obtain ⟨p,j,C,f,m,l⟩:=d it (by simp);have W:=Walks.range (prog:=X.prog) (w:=X.w) (I.ok.hd g) it lo 1 n;refine W.item i s _ _ u st λv h' G A c F=>?_;obtain ⟨t,rfl⟩:=A;have B:Inv X pins σ H { s with heap:=h',toks:=G }:=I.turned (λb o a e=>F b o (by simpa using a) e) p j f m l;refine ⟨_,rfl,mx c rfl rfl (by decide) ⟨.int (lo+i),H,B,⟨t,?_⟩,⟨rfl,rfl⟩,c,λb a=>(d b a).1⟩⟩;rw [Int.mul_one]
 done:=by
  intro X x r q g i pins s σ H E I d st u;subst x r q;obtain ⟨p,j,C,f,m,l⟩:=d it (by simp);exact wpAny_pyNext_range_end (I.ok.hd g) st (by have:n<=i:=u;omega) λh' y=>⟨rfl,I.turned (λb o a e=>y b o a e) p j f m l⟩
 self:=λ_ _ _ _ _ st h=>wpAny_pyIter_rangeiter st h
section
variable {X:Cx} {tg:Expr}
theorem fM {σ:St} {H:Hp} {s:Shared} {R:It->Hp->Prop} {E:Value->Shared->Prop} {lo a:Int} {t u v:Tok} {d:Nat} (I:Inv X pins σ H s) (f:-(2 ^ 62)<=lo) (j:lo<2 ^ 62) (l:-(2 ^ 62)<=a) (h:a<2 ^ 62)
  (q:R (Itr lo (a-lo).toNat) H):wpAny (model X.prog X.w) X.A (pyIter (.ref s.heap.objs.size)) (PIE X pins σ tg R) E { s with heap:=s.heap.push { cls:=.type "range",data:=.fields #[.int lo t,.int a u,.int 1 v] },toks:=d }:=by
 refine wpAny_pyIter_range (IsRange.new ..) (small_one f j l h) ?_;have c:Inv X pins σ H { s with heap:=s.heap.push { cls:=.type "range",data:=.fields #[.int lo t,.int a u,.int 1 v] },toks:=d }:=I.kept λb o e=>Ft _ e;refine ⟨(s.heap.push { cls:=.type "range",data:=.fields #[.int lo t,.int a u,.int 1 v] }).objs.size,[(s.heap.push { cls:=.type "range",data:=.fields #[.int lo t,.int a u,.int 1 v] }).objs.size],_,_,H,rfl,
  c.kept λb o e=>Ft _ e,gz _ lo (a-lo).toNat,?_,λb k=>?_,q⟩
 ·have i:lo+((0:Nat):Int) * 1=lo:=by simp
  have g:(((a-lo).toNat:Nat):Int)-((0:Nat):Int)=Builtin.Range.rangeSize lo a 1:=by rw [rangeSize_one];split <;> omega
  rw [i,g];exact FJ _ rfl
 ·have e:b=(s.heap.push { cls:=.type "range",data:=.fields #[.int lo t,.int a u,.int 1 v] }).objs.size:=by simpa using k
  subst e;exact c.fpOk (FH _) (c.hok.fresh (FH _))
def DH (a:TA):TI:=λσ H R=>a σ H λvs b=>∃ j:Int,vs=[.int j]/\-(2 ^ 62)<=j/\j<2 ^ 62/\R (Itr 0 j.toNat) b
def Bs (a:TA):TI:=λσ H R=>a σ H λvs b=>∃ i j:Int,vs=[.int i,.int j]/\(-(2 ^ 62)<=i/\i<2 ^ 62/\-(2 ^ 62)<=j/\j<2 ^ 62)/\R (Itr i (j-i).toNat) b
theorem mE (f:Gl X "range") (k:X.mg "range" = none) (c:PA X [a] ta) (hs:starEach [a] X.env=[(false,eval a X.env)]:=by rfl):PI X tg (.Call (.Name "range" p) [a] [] pos) (DH ta):=by
 intro pins s σ H R I h;refine Call_ (G0 I f k boot_range (GT (thn (c pos pins s σ H _ I h) λus m ⟨vs,n,d,l,b⟩=>?_) hs rfl));obtain ⟨j,e,b,g,q⟩:=b;subst e;cases l with
 | cons r i=>
  cases i;obtain ⟨t,rfl⟩:=r;exact call_range_1 (fM d (by omega) (by omega) b g (by simpa using q))
theorem kh {p pos:Pos} (u:Gl X "range") (v:X.mg "range" = none) (g:PA X [a,b] ta) (hs:starEach [a,b] X.env=[(false,eval a X.env),(false,eval b X.env)]:=by rfl) (c:starEach [b] X.env=[(false,eval b X.env)]:=by rfl) :
  PI X tg (.Call (.Name "range" p) [a,b] [] pos) (Bs ta):=by
 intro pins s σ H R I h;refine Call_ (G0 I u v boot_range (GT (thn (g pos pins s σ H _ I h) λus x ⟨vs,y,l,w,f⟩=>?_) (by rw [hs,c]) (by rw [c];rfl)));obtain ⟨i,j,e,⟨f,o,m,n⟩,q⟩:=f;subst e;cases w with
 | cons r d=>
  cases d with
  | cons k d=>
   cases d;obtain ⟨t,rfl⟩:=r;obtain ⟨t',rfl⟩:=k;exact call_range_2 (fM l f o m n q)
def Dp (f:TI) (g:TG) (c:TS):TS:=λD σ H=>f σ H λJ d=>∃ W:Nat->Nat->St->Hp->Prop,(∃ m,W 0 m σ d)/\∀ i m σ H,W i m σ H ->
 (J.stop i H/\D.nx σ H)\/(J.go i H/\∃ N:St->Hp->Prop,(∀ a H',N a H'->∃ m',m'<m/\W (i+1) m' a H')/\∀ x H',J.yld i H x H'->g x σ H' λb e=>c { D with nx:=N,ct:=N,bk:=D.nx } b e)
def C8 (a:List Addr) (h:Heap):List (Addr×Obj):=a.filterMap λb=>(h.get? b).map λo=>(b,o)
theorem m7 {b:Addr} {o:Obj} (a:b∈fp) (e:h.get? b=some o):(b,o)∈C8 fp h:=List.mem_filterMap.mpr ⟨b,a,by rw [e];rfl⟩
theorem lY (a:p∈C8 fp h):p.1∈fp/\h.get? p.1=some p.2:=by
 obtain ⟨b,c,e⟩:=List.mem_filterMap.mp a;cases q:h.get? b with
 | none=>rw [q] at e;cases e
 | some o=>
  rw [q] at e;have d:=Gz e;subst d;exact ⟨c,q⟩
theorem Inv.pinned {σ:St} {H:Hp} {s:Shared} {a:List Addr} (I:Inv X pins σ H s) (i:∀ b∈a,L6 X pins H b) (k:∀ b∈a,∃ o,s.heap.get? b=some o/\∀ v,o.data≠.cell v):Inv X (pins++C8 a s.heap) σ H s:=
 I.pins_of λp j=>(Gh.mp j).elim (λz=>I.pin p (FZ _ z)) λz=>by
  obtain ⟨c,e⟩:=lY z;obtain ⟨h,l,g,_⟩:=i p.1 c;obtain ⟨o,f,d⟩:=k p.1 c;rw [e] at f;cases f;exact ⟨e,h,l,g,d⟩
theorem Inv.unpinned {σ:St} {H:Hp} {s:Shared} (I:Inv X (pins++pl) σ H s):Inv X pins σ H s:=I.pins_of λp a=>I.pin p (FZ _ (List.mem_append_left _ a))
theorem xr {wi:TI} {g:TG} {tb:TS} {pos:Pos} (hp:PassesOwn (model X.prog X.w) X.A X.env X.xe) (hc:X.calm=true) (hi:PI X tg iter wi) (hg:PG X tg g) (hb:PSs X body tb)
  (hs:∀ x,foldedSetIterable iter X.env x=pure x:=by intro _;rfl):PS X (.For tg iter body [] pos) (Dp wi g tb):=by
 intro pins s σ H D I h;refine wpAny_For (thn (hi pins s σ H _ I h) λv s1 h1=>thn h1 λitv s2 h2=>?_) hs;obtain ⟨it,fp,tn,J,H2,e,I2,T,st2,f2,W,⟨m0,w0⟩,turn⟩:=h2;subst e;have stat:∀ {H':Hp},(∀ b∈fp,H' b=none)->∀ b∈fp,L6 X pins H' b:=λhn b hb=>⟨hn b hb,(f2 b hb).2⟩;refine codeAny_forLoop_any (λn s'=>∃ i σ' H',Inv X pins σ' H' s'/\tn i s'.heap/\(∀ b∈fp,H' b=none)/\W i n σ' H') ?_ m0 ⟨0,σ,H2,I2,st2,λb hb=>(f2 b hb).1,w0⟩;rintro n s3 ⟨i,σ3,H3,I3,st3,fr3,w3⟩;rcases turn i n σ3 H3 w3 with ⟨stop,qn⟩ | ⟨go,N,hN,step⟩
 ·refine Hy hp (thn (T.done X rfl rfl rfl hc i pins s3 σ3 H3 X.xe I3 (stat fr3) st3 stop) λr s4 ⟨hr,I4⟩=>?_);subst hr;exact HR ⟨σ3,H3,I4,qn⟩
 ·refine Hy hp (thn (T.item X rfl rfl rfl hc i pins s3 σ3 H3 X.xe I3 (stat fr3) st3 go) λr s4 ⟨u,hr,h4⟩=>?_);subst hr;refine Hy hp (thn h4 λ_ s5 ⟨x,H5,I5,r5,y5,st5,fr5⟩=>?_);have I5':=I5.pinned (stat fr5) (T.obj _ _ st5);refine Hy hp (thn (hg _ s5 σ3 H5 x u _ I5' r5 (step x H5 y5)) λ_ s6 ⟨σ6,H6,I6,q6⟩=>?_);refine Hy hp (thn (hb _ s6 σ6 H6 _ I6 q6) λf s7 q7=>?_);have again:∀ {σ7:St} {H7:Hp},Inv X (pins++C8 fp s5.heap) σ7 H7 s7->N σ7 H7->∃ m,m<n/\∃ i σ' H',Inv X pins σ' H' s7/\tn i s7.heap/\(∀ b∈fp,H' b=none)/\W i m σ' H':=λ{σ7 H7} I7 n7=>by
   obtain ⟨m',hm,w7⟩:=hN σ7 H7 n7;refine ⟨m',hm,i+1,σ7,H7,I7.unpinned,T.keep _ _ _ st5 λb hb o e=>(I7.pin (b,o) (FZ _ (FZ _ (m7 hb e)))).1,λb hb=>?_,w7⟩;obtain ⟨o,e,d⟩:=T.obj _ _ st5 b hb;exact (I7.pin (b,o) (FZ _ (FZ _ (m7 hb e)))).2.1
  cases f with
  | next=>obtain ⟨σ7,H7,I7,n7⟩:=q7;exact again I7 n7
  | cont=>obtain ⟨σ7,H7,I7,n7⟩:=q7;exact again I7 n7
  | brk=>obtain ⟨σ7,H7,I7,q7⟩:=q7;exact ⟨σ7,H7,I7.unpinned,q7⟩
  | ret v=>obtain ⟨x7,σ7,H7,I7,r7,q7⟩:=q7;exact ⟨x7,σ7,H7,I7.unpinned,r7,q7⟩
end
abbrev R2:=V->V->Hp->VK->Prop
def OpR (X:Cx) (f:Value->Value->Sem Value) (r:R2):Prop:=
 ∀ (pins:List (Addr×Obj)) (s:Shared) (σ:St) (H:Hp) (x y:V) (v u:Value) (Q:VK),Inv X pins σ H s->RelV x v->RelV y u->r x y H Q ->
  wpAny (model X.prog X.w) X.A (f v u) (EP X pins σ Q) X.xe s
def UnR (X:Cx) (f:Value->Sem Value) (r:V->Hp->VK->Prop):Prop:=
 ∀ (pins:List (Addr×Obj)) (s:Shared) (σ:St) (H:Hp) (x:V) (v:Value) (Q:VK),Inv X pins σ H s->RelV x v->r x H Q ->
  wpAny (model X.prog X.w) X.A (f v) (EP X pins σ Q) X.xe s
def i5 (X:Cx) (f:Value) (r:List V->Hp->VK->Prop):Prop:=
 ∀ (pins:List (Addr×Obj)) (s:Shared) (σ:St) (H:Hp) (xs:List V) (us:List Value) (Q:VK),Inv X pins σ H s->Vals xs us->r xs H Q ->
  wpAny (model X.prog X.w) X.A (call f us) (EP X pins σ Q) X.xe s
def Dq (X:Cx) (r:V->Hp->(Bool->Hp->Prop)->Prop):Prop:=
 ∀ (pins:List (Addr×Obj)) (s:Shared) (σ:St) (H:Hp) (x:V) (v:Value) (Q:Bool->Hp->Prop),Inv X pins σ H s->RelV x v->r x H Q ->
  wpAny (model X.prog X.w) X.A (truthy v) (TP X pins σ Q) X.xe s
def tOp (r:R2) (a b:TE):TE:=λσ H Q=>a σ H λx d=>b σ d λy c=>r x y c Q
def tUn (r:V->Hp->VK->Prop) (a:TE):TE:=λσ H Q=>a σ H λx b=>r x b Q
def rI (C:Int->Int->Prop) (g:Int->Int->V):R2:=λx y H Q=>∃ i j,x=.int i/\y=.int j/\C i j/\Q (g i j) H
def rI0 (g:Int->Int->V):R2:=λx y H Q=>∃ i j,x=.int i/\y=.int j/\Q (g i j) H
def rU (g:Int->V):V->Hp->VK->Prop:=λx H Q=>∃ i,x=.int i/\Q (g i) H
section
variable {X:Cx} {a b c:Expr} {ta tb tc:TE} {pos:Pos}
theorem zN (j:PE X a ta) (l:PE X b tb) {pins:List (Addr×Obj)} {s:Shared} {σ:St} {H:Hp} {R:V->V->Hp->Prop} (I:Inv X pins σ H s)
  (h:ta σ H λx g=>tb σ g λy d=>R x y d) {Q:Value->Shared->Prop} {f:Value->Value->Sem Value}
  (o:∀ v u i x y d,Inv X pins σ d i->RelV x v->RelV y u->R x y d->wpAny (model X.prog X.w) X.A (f v u) Q X.xe i) :
  wpAny (model X.prog X.w) X.A (eval a X.env) (λv c=>wpAny (model X.prog X.w) X.A (eval b X.env) (λu e=>wpAny (model X.prog X.w) X.A (f v u) Q X.xe e) X.xe c) X.xe s:=by
 refine thn (j pins s σ H _ I h) λv m ⟨x,g,k,t,n⟩=>?_;refine thn (l pins m σ g _ k n) λu i ⟨y,d,q,p,r⟩=>?_;grind
theorem Cs (d:OpR X (binaryOp op) r) (c:PE X a ta) (g:PE X b tb):PE X (.BinOp a op b pos) (tOp r ta tb):=by
 intro pins s σ H Q I h;exact wpAny_BinOp (zN c g I h λv u j x y k e i f q=>d pins j σ k x y v u Q e i f q)
theorem CS (c:UnR X (unaryOp op) r) (b:PE X a ta):PE X (.UnaryOp op a pos) (tUn r ta):=by
 intro pins s σ H Q I h;exact UnaryOp_ (thn (b pins s σ H _ I h) λv f ⟨x,e,d,i,g⟩=>c pins f σ e x v Q d i g)
theorem opI {C:Int->Int->Prop} {g:Int->Int->Int}
  (a:∀ (i j:Int) (t u:Tok) (s:Shared) (Q:Value->Shared->Prop) (E:Value->Shared->Prop),C i j->Q (.int (g i j) s.toks) { s with toks:=s.toks+1 }->wpAny (model X.prog X.w) X.A (f (.int i t) (.int j u)) Q E s) :
  OpR X f (rI C λi j=>.int (g i j)):=by
 intro pins s σ H x y v u Q I d c h;obtain ⟨i,j,rfl,rfl,b,q⟩:=h;obtain ⟨t,rfl⟩:=d;obtain ⟨t',rfl⟩:=c;exact a i j t t' s _ _ b ⟨.int (g i j),H,I.tok _,⟨_,rfl⟩,q⟩
theorem BI {g:Int->Int->Int}
  (a:∀ (i j:Int) (t u:Tok) (s:Shared) (Q:Value->Shared->Prop) (E:Value->Shared->Prop),Q (.int (g i j) s.toks) { s with toks:=s.toks+1 }->wpAny (model X.prog X.w) X.A (f (.int i t) (.int j u)) Q E s) :
  OpR X f (rI0 λi j=>.int (g i j)):=by
 intro pins s σ H x y v u Q I c b h;obtain ⟨i,j,rfl,rfl,q⟩:=h;obtain ⟨t,rfl⟩:=c;obtain ⟨t',rfl⟩:=b;exact a i j t t' s _ _ ⟨.int (g i j),H,I.tok _,⟨_,rfl⟩,q⟩
theorem uR {g:Int->Int->Bool}
  (a:∀ (i j:Int) (t u:Tok) (s:Shared) (Q:Value->Shared->Prop) (E:Value->Shared->Prop),Q (.bool (g i j)) s->wpAny (model X.prog X.w) X.A (f (.int i t) (.int j u)) Q E s) :
  OpR X f (rI0 λi j=>.bl (g i j)):=by
 intro pins s σ H x y v u Q I c b h;obtain ⟨i,j,rfl,rfl,q⟩:=h;obtain ⟨t,rfl⟩:=c;obtain ⟨t',rfl⟩:=b;exact a i j t t' s _ _ ⟨.bl (g i j),H,I,rfl,q⟩
def rY (i j:Int):Prop:=0<j/\j<1073741824
def vi (i j:Int):Prop:=0<=j/\j<=1000000/\i.natAbs<2 ^ 64
def CMul (i j:Int):Prop:=(-(2 ^ 64)<i/\i<2 ^ 64)\/(-(2 ^ 64)<j/\j<2 ^ 64)
theorem CMul.ok (h:CMul i j):IntMulOk i j:=by
 rcases h with ⟨b,a⟩ | ⟨b,a⟩
 ·exact .of_left (intBits_le_64 b a)
 ·exact .of_right (intBits_le_64 b a)
theorem ym:OpR X (binaryOp .Add) (rI0 λi j=>.int (i+j)):=BI λ_ _ _ _ _ _ _ q=>add_int q
theorem zI:OpR X (binaryOp .Sub) (rI0 λi j=>.int (i-j)):=BI λ_ _ _ _ _ _ _ q=>sub_int q
theorem AE:OpR X (binaryOp .Mult) (rI CMul λi j=>.int (i * j)):=opI λ_ _ _ _ _ _ _ a q=>mul_int q a.ok
theorem sk:OpR X (binaryOp .FloorDiv) (rI rY λi j=>.int (i / j)):=opI λi j _ _ _ _ _ a q=>by
 have c:=a.1;have b:=a.2;exact floordiv_int (by omega) (by rw [Int.fdiv_eq_ediv_of_nonneg i (by omega)];exact q) (.inl (PyProof.noPylong_small (by omega)))
theorem xn:OpR X (binaryOp .Mod) (rI (λ_ j=>0<j) λi j=>.int (i % j)):=opI λi j _ _ _ _ _ a q=>by
 have b:=a;exact mod_int' (by omega) (by rw [Int.fmod_eq_emod_of_nonneg i (by omega)];exact q)
theorem xW:OpR X (binaryOp .Pow) (rI vi λi j=>.int (i ^ j.toNat)):=opI λ_ _ _ _ _ _ _ a q=>pow_int_small a.1 a.2.1 a.2.2 q
theorem unI {g:Int->Int}
  (a:∀ (i:Int) (t:Tok) (s:Shared) (Q:Value->Shared->Prop) (E:Value->Shared->Prop),Q (.int (g i) s.toks) { s with toks:=s.toks+1 }->wpAny (model X.prog X.w) X.A (f (.int i t)) Q E s) :
  UnR X f (rU λi=>.int (g i)):=by
 intro pins s σ H x v Q I b h;obtain ⟨i,rfl,q⟩:=h;obtain ⟨t,rfl⟩:=b;exact a i t s _ _ ⟨.int (g i),H,I.tok _,⟨_,rfl⟩,q⟩
theorem zU:UnR X (unaryOp .USub) (rU λi=>.int (-i)):=unI λ_ _ _ _ _ q=>neg_int q
end
def BW:V->V->Bool
 | .non,.non=>true | .non,.int _=>true | .int _,.non=>true | .non,.bl _=>true | .bl _,.non=>true | .non,.str _=>true | .str _,.non=>true
 | .int _,.int _=>true | .bl _,.bl _=>true | .str _,.str _=>true | .byt _,.byt _=>true
 | .int _,.str _=>true | .str _,.int _=>true | .bl _,.str _=>true | .str _,.bl _=>true
 | _,_=>false
def rEq:R2:=λx y H Q=>BW x y=true/\Q (.bl (decide (x=y))) H
def rNe:R2:=λx y H Q=>BW x y=true/\Q (.bl (!decide (x=y))) H
theorem jn {i j:Int}:decide (V.int i=V.int j)=(i==j):=by grind
theorem pC {i j:Bool}:decide (V.bl i=V.bl j)=(i==j):=by grind
theorem iu {i j:Str}:decide (V.str i=V.str j)=(i==j):=by grind
theorem jW:decide (V.byt i=V.byt j)=(i.toList==j.toList):=by
 rw [HS];simp_all
section
variable {X:Cx} {a b c:Expr} {ta tb tc:TE} {pos:Pos}
theorem d7 {σ:St} {H:Hp} {s:Shared} {Q:VK} {k a:Bool} (I:Inv X pins σ H s) (q:Q (.bl k) H) (e:k=a):EP X pins σ Q (.bool a) s:=by
 subst e;exact ⟨.bl k,H,I,rfl,q⟩
theorem DN:OpR X (compareOp .Eq) rEq:=by
 intro pins s σ H x y v u Q I rx ry h;obtain ⟨hs,q⟩:=h;cases x with
 | non=>
  cases rx;cases y with
  | non=>cases ry;exact PySem.EqNone.eq_none_none (d7 I q (by simp))
  | bl j=>cases ry;exact PySem.EqNone.eq_none_bool (d7 I q (by simp))
  | int j=>obtain ⟨t',rfl⟩:=ry;exact PySem.EqNone.eq_none_int (d7 I q (by simp))
  | str j=>obtain ⟨t',rfl⟩:=ry;exact PySem.EqNone.eq_none_str (d7 I q (by simp))
  | _=>exact absurd (hs) Fz
 | bl i=>
  cases rx;cases y with
  | non=>cases ry;exact PySem.EqNone.eq_bool_none (d7 I q (by simp))
  | bl j=>cases ry;exact eq_bool (d7 I q pC)
  | str j=>obtain ⟨t',rfl⟩:=ry;exact PySem.EqMixed.eq_bool_str (d7 I q (by simp))
  | _=>exact absurd (hs) Fz
 | int i=>
  obtain ⟨t,rfl⟩:=rx;cases y with
  | non=>cases ry;exact PySem.EqNone.eq_int_none (d7 I q (by simp))
  | int j=>obtain ⟨t',rfl⟩:=ry;exact eq_int (d7 I q jn)
  | str j=>obtain ⟨t',rfl⟩:=ry;exact PySem.EqMixed.eq_int_str (d7 I q (by simp))
  | _=>exact absurd (hs) Fz
 | str i=>
  obtain ⟨t,rfl⟩:=rx;cases y with
  | non=>cases ry;exact PySem.EqNone.eq_str_none (d7 I q (by simp))
  | bl j=>cases ry;exact PySem.EqMixed.eq_str_bool (d7 I q (by simp))
  | int j=>obtain ⟨t',rfl⟩:=ry;exact PySem.EqMixed.eq_str_int (d7 I q (by simp))
  | str j=>obtain ⟨t',rfl⟩:=ry;exact eq_str (d7 I q iu)
  | _=>exact absurd (hs) Fz
 | byt i=>
  obtain ⟨t,rfl⟩:=rx;cases y with
  | byt j=>obtain ⟨t',rfl⟩:=ry;exact PySem.W.eq_bytes (d7 I q jW)
  | _=>exact absurd (hs) Fz
 | _=>cases y <;> exact absurd (hs) Fz
theorem BG:OpR X (compareOp .NotEq) rNe:=by
 intro pins s σ H x y v u Q I rx ry h;obtain ⟨hs,q⟩:=h;cases x with
 | non=>
  cases rx;cases y with
  | non=>cases ry;exact PySem.EqNone.ne_none_none (d7 I q (by simp))
  | bl j=>cases ry;exact PySem.EqNone.ne_none_bool (d7 I q (by simp))
  | int j=>obtain ⟨t',rfl⟩:=ry;exact PySem.EqNone.ne_none_int (d7 I q (by simp))
  | str j=>obtain ⟨t',rfl⟩:=ry;exact PySem.EqNone.ne_none_str (d7 I q (by simp))
  | _=>exact absurd (hs) Fz
 | bl i=>
  cases rx;cases y with
  | non=>cases ry;exact PySem.EqNone.ne_bool_none (d7 I q (by simp))
  | bl j=>cases ry;exact ne_bool (d7 I q (congrArg not pC))
  | str j=>obtain ⟨t',rfl⟩:=ry;exact PySem.EqMixed.ne_bool_str (d7 I q (by simp))
  | _=>exact absurd (hs) Fz
 | int i=>
  obtain ⟨t,rfl⟩:=rx;cases y with
  | non=>cases ry;exact PySem.EqNone.ne_int_none (d7 I q (by simp))
  | int j=>obtain ⟨t',rfl⟩:=ry;exact ne_int (d7 I q (congrArg not jn))
  | str j=>obtain ⟨t',rfl⟩:=ry;exact PySem.EqMixed.ne_int_str (d7 I q (by simp))
  | _=>exact absurd (hs) Fz
 | str i=>
  obtain ⟨t,rfl⟩:=rx;cases y with
  | non=>cases ry;exact PySem.EqNone.ne_str_none (d7 I q (by simp))
  | bl j=>cases ry;exact PySem.EqMixed.ne_str_bool (d7 I q (by simp))
  | int j=>obtain ⟨t',rfl⟩:=ry;exact PySem.EqMixed.ne_str_int (d7 I q (by simp))
  | str j=>obtain ⟨t',rfl⟩:=ry;exact ne_str (d7 I q (congrArg not iu))
  | _=>exact absurd (hs) Fz
 | byt i=>
  obtain ⟨t,rfl⟩:=rx;cases y with
  | byt j=>obtain ⟨t',rfl⟩:=ry;exact PySem.W.ne_bytes (d7 I q (congrArg not jW))
  | _=>exact absurd (hs) Fz
 | _=>cases y <;> exact absurd (hs) Fz
theorem Cq:OpR X (compareOp .Lt) (rI0 λi j=>.bl (decide (i<j))):=uR λ_ _ _ _ _ _ _ q=>lt_int q
theorem Ba:OpR X (compareOp .LtE) (rI0 λi j=>.bl (decide (i<=j))):=uR λ_ _ _ _ _ _ _ q=>le_int q
theorem DJ:OpR X (compareOp .Gt) (rI0 λi j=>.bl (decide (j<i))):=uR λ_ _ _ _ _ _ _ q=>gt_int q
theorem CB:OpR X (compareOp .GtE) (rI0 λi j=>.bl (decide (j<=i))):=uR λ_ _ _ _ _ _ _ q=>ge_int q
theorem xZ (b:Expr) {op:CmpOp} (h:op≠.In:=by decide) (c:op≠.NotIn:=by decide):behindInMarks op b=false:=by
 have a:(op==CmpOp.In)=false:=by cases op <;> first | rfl | exact absurd rfl h
 have d:(op==CmpOp.NotIn)=false:=by cases op <;> first | rfl | exact absurd rfl c
 cases b <;> simp [behindInMarks,a,d]
theorem tZ (d:OpR X (compareOp op) r) (c:PE X a ta) (g:PE X b tb) (k:behindInMarks op b=false):PE X (.Compare a [op] [b] pos) (tOp r ta tb):=by
 intro pins s σ H Q I h;exact wpAny_Compare1 (zN c g I h λv u j x y l e i f q=>d pins j σ l x y v u Q e i f q) k
def Bz (t:TE):TT:=λσ H Q=>t σ H λx H'=>∃ k,x=.bl k/\Q k H'
theorem sZ (w:OpR X (compareOp op) r) (t:PE X a ta) (j:PE X b tb) (o:behindInMarks op b=false):PT X (.Compare a [op] [b] pos) (Bz (tOp r ta tb)):=by
 intro pins s σ H Q I h;refine wpAny_isTrue_Compare1 (thn (t pins s σ H _ I h) λv f ⟨x,m,g,q,p⟩=>thn (j pins f σ m _ g p) λu C ⟨y,D,A,l,d⟩=>
  thn (w pins C σ D x y v u _ A q l d) λc F ⟨z,B,i,E,k,e,n⟩=>?_) o
 subst e;cases E;exact HX ⟨B,i,n⟩
def AX (r c:R2) (f d h:TE):TE:=λσ H Q=>f σ H λx e=>d σ e λy g=>r x y g λz a=>∃ k,z=.bl k /\
 (if k=true then h σ a λw' b=>c y w' b Q else Q (.bl false) a)
theorem rT {r j:R2} (N:OpR X (compareOp op) r) (f:OpR X (compareOp op') j) (M:PE X a ta) (B:PE X b tb) (q:PE X c tc)
  (G:lastMarks [op,op'] [b,c]=false:=by with_unfolding_all rfl):PE X (.Compare a [op,op'] [b,c] pos) (AX r j ta tb tc):=by
 intro pins s σ H Q I h;refine Compare_chain (thn (M pins s σ H _ I h) λv p ⟨x,D,A,K,J⟩=>chain_link (thn (B pins p σ D _ A J) λu P ⟨y,R,O,i,n⟩=>
  thn (N pins P σ R x y v u _ O K i n) λd w ⟨z,m,g,S,k,e,l⟩=>?_)) G
 subst e;cases S;refine HX ?_;cases k with
 | false=>exact ite_ff ⟨.bl false,m,g,rfl,l⟩
 | true=>exact ite_tt (chain_last (thn (q pins w σ m _ g l) λw' t ⟨F,L,o,C,E⟩=>f pins t σ L y F u w' Q o i C E))
def lB (K:PySem.W.Frag) (x:V) (H:Hp) (k:Bool):Prop:=
 match x with
 | .non=>k=false
 | .bl b=>k=b
 | .int i=>k=(i != 0)
 | .str y=>y.length<=sizeLine/\k=((y.length:Int) != 0)
 | .byt y=>y.size<=sizeLine/\k=((y.size:Int) != 0)
 | .ref p=>(∃ xs,SqL K H p xs/\k=!xs.isEmpty)\/(∃ xs,SqT K H p xs/\k=!xs.isEmpty)\/∃ a,H p=some (.dK a)/\k=!a.isEmpty
 | _=>False
theorem gc (r:KV kvs vs):(!vs.isEmpty)=!kvs.isEmpty:=by
 cases r <;> rfl
theorem aj (r:Vals xs its):(!its.toArray.isEmpty)=!xs.isEmpty:=by
 cases r <;> simp
theorem W4:(sizeLine:Nat)<2 ^ 63:=by rw [Gf];decide
theorem dB:Dq X (λx H Q=>∃ k,lB X.K x H k/\Q k H):=by
 intro pins s σ H x v Q I rx h;obtain ⟨k,e,q⟩:=h;have hl:=W4;have hs:=Gf;cases x with
 | non=>
  cases rx;have e':=e;subst e';exact truthy_none ⟨H,I,q⟩
 | bl b=>
  cases rx;have e':=e;subst e';exact HX ⟨H,I,q⟩
 | int i=>
  obtain ⟨t,rfl⟩:=rx;have e':=e;subst e';exact PySem.P.truthy_int ⟨H,I,q⟩
 | str y=>
  obtain ⟨t,rfl⟩:=rx;obtain ⟨hy,e'⟩:=e;subst e';exact PySem.P.truthy_str (by omega) ⟨H,I.tok _,q⟩
 | byt y=>
  obtain ⟨t,rfl⟩:=rx;obtain ⟨hy,e'⟩:=e;subst e';exact PySem.W.truthy_bytes (by omega) ⟨H,I.tok _,q⟩
 | ref p=>
  cases rx;have e':=e;rcases e' with ⟨xs,hx,e'⟩ | ⟨xs,hx,e'⟩ | ⟨kvs,hx,e'⟩
  ·subst e';obtain ⟨its,r,pl,hz⟩:=I.list hx;have hlen:=r.length;exact wpAny_truthy_list pl.isList (by simp;omega) ⟨H,I.tok _,by rw [aj r];exact q⟩
  ·subst e';obtain ⟨its,r,pl,hz⟩:=I.tuple hx;have hlen:=r.length;exact truthy_tuple pl (by simp;omega) ⟨H,I.tok _,by rw [aj r];exact q⟩
  ·subst e';obtain ⟨hz,hS,vs,r,m⟩:=I.hok p _ hx;have hlen:=Paired.length r;exact wpAny_truthy_dict hS m (by omega) ⟨H,I.tok _,by rw [gc r];exact q⟩
 | _=>exact (e).elim
theorem nL (c:PE X a ta) (d:∀ b,isTrue a X.env b=(do let v <- b;standAt a.pos;holding [v] (truthy v))) :
  PT X a (λσ H Q=>ta σ H λx H'=>∃ k,lB X.K x H' k/\Q k H'):=by
 intro pins s σ H Q I h;exact isTrue_plain (thn (c pins s σ H _ I h) λv g ⟨x,f,e,j,i⟩=>dB pins g σ f x v Q e j i) (d _)
theorem iW:OpR X (binaryOp .Add) (λx y H Q=>∃ i j,x=.str i/\y=.str j/\i.length+j.length<=sizeLine/\Q (.str (i++j)) H):=by
 intro pins s σ H x y v u Q I b a h;obtain ⟨i,j,rfl,rfl,hz,q⟩:=h;obtain ⟨t,rfl⟩:=b;obtain ⟨t',rfl⟩:=a;exact add_str (λt' c=>⟨.str (i++j),H,I.tok _,⟨_,rfl⟩,q⟩) hz
theorem K8 (r:Vals [x] us):∃ u,us=[u]/\RelV x u:=by
 cases r with
 | cons b a=>cases a;exact ⟨_,rfl,b⟩
theorem iZ (r:Vals [x,y] us):∃ u w',us=[u,w']/\RelV x u/\RelV y w':=by
 cases r with
 | cons b a=>
  cases a with
  | cons d c=>cases c;exact ⟨_,_,rfl,b,d⟩
theorem cf:i5 X (.type "int") (λxs H Q=>(∃ i,xs=[.int i]/\Q (.int i) H)\/∃ k,xs=[.bl k]/\Q (.int (if k then 1 else 0)) H):=by
 intro pins s σ H xs us Q I r h;rcases h with ⟨i,rfl,q⟩ | ⟨k,rfl,q⟩
 ·obtain ⟨u,rfl,t,rfl⟩:=K8 r;exact call_int_int ⟨.int i,H,I,⟨_,rfl⟩,q⟩
 ·obtain ⟨u,rfl,a⟩:=K8 r;cases a;exact call_int_bool ⟨.int (if k then 1 else 0),H,I.tok _,⟨_,rfl⟩,q⟩
theorem eC:i5 X (.type "str") (λxs H Q=>∃ i,xs=[.int i]/\i.natAbs.log2<1920/\Q (.str (toString i)) H):=by
 intro pins s σ H xs us Q I r h;obtain ⟨i,rfl,hz,q⟩:=h;obtain ⟨u,rfl,t,rfl⟩:=K8 r;exact PySem.P.str_of_int hz ⟨.str _,H,I.tok _,⟨_,rfl⟩,q⟩
end
theorem L9 {h:Heap} {c:Addr} {mA:Str->Option Value} (n:h.Ns1 c mA):∃ od,h.get? c=some od/\∀ name,PySem.W.lookIn name od=some (mA name):=by
 obtain ⟨o,es,k,g,hd,d,_,j⟩:=n;refine ⟨o,g,λname=>?_⟩;have e:=j name;unfold nsFind findBy at e;rw [<- Array.find?_toList] at e;unfold PySem.W.lookIn;rw [hd];dsimp only;split
 ·grind
 ·rename_i q;rw [q] at e;have a:es.toList.any (·.refKey)=false:=by
   rw [List.any_eq_false];intro y f;obtain ⟨z,t,b⟩:=d y (Array.mem_toList_iff.mp f);simp [DictEntry.refKey,b]
  have i:¬ es.toList.any (·.refKey)=true:=by rw [a];exact Fz
  rw [if_neg i];exact congrArg some e
def J9 (f:Str) (v:V):List (Str×V)->List (Str×V)
 | []=>[(f,v)]
 | (g,x) :: r=>if g=f then (g,v) :: r else (g,x) :: J9 f v r
theorem X5 (f g:Str) (v:V):∀ fs:List (Str×V),(J9 f v fs).lookup g=if g=f then some v else fs.lookup g
 | []=>by
  show List.lookup g [(f,v)]=_;by_cases h:g=f
  ·have hb:(g==f)=true:=Ia.mpr h;simp only [List.lookup,hb,if_pos h]
  ·have hb:(g==f)=false:=Hi.mpr h;simp only [List.lookup,hb,if_neg h]
 | (k,x) :: r=>by
  have ih:=X5 f g v r;rw [show J9 f v ((k,x) :: r)=(if k=f then (k,v) :: r else (k,x) :: J9 f v r) from rfl];by_cases hk:k=f
  ·rw [if_pos hk];by_cases h:g=k
   ·have hb:(g==k)=true:=Ia.mpr h;simp only [List.lookup,hb,if_pos (h.trans hk)]
   ·have hb:(g==k)=false:=Hi.mpr h;simp only [List.lookup,hb,if_neg (λe:g=f=>h (e.trans hk.symm))]
  ·rw [if_neg hk];by_cases h:g=k
   ·have hb:(g==k)=true:=Ia.mpr h;simp only [List.lookup,hb,if_neg (λe:g=f=>hk (h.symm.trans e))]
   ·have hb:(g==k)=false:=Hi.mpr h;simp only [List.lookup,hb];exact ih
theorem U9 (f:Str) (v:V):∀ fs:List (Str×V),f∈(J9 f v fs).map (·.1)/\∀ g,g∈fs.map (·.1)->g∈(J9 f v fs).map (·.1)
 | []=>⟨by simp [J9],λg h=>by simp at h⟩
 | (k,x) :: r=>by
  obtain ⟨a,c⟩:=U9 f v r;rw [show J9 f v ((k,x) :: r)=(if k=f then (k,v) :: r else (k,x) :: J9 f v r) from rfl];by_cases b:k=f
  ·grind
  ·grind
theorem Y0 (f:Str) (v:V):∀ fs:List (Str×V),(J9 f v fs).length<=fs.length+1
 | []=>by simp [J9]
 | (k,x) :: r=>by
  have b:=Y0 f v r;rw [show J9 f v ((k,x) :: r)=(if k=f then (k,v) :: r else (k,x) :: J9 f v r) from rfl];by_cases a:k=f
  ·grind
  ·grind
theorem RelO.some_of (r:RelO (some v) o):∃ u,o=some u/\RelV v u:=by
 cases o with
 | none=>exact (r).elim
 | some u=>exact ⟨u,rfl,r⟩
theorem ky (r:RelV v u):PySem.W.handedIn u=true:=by
 cases v with
 | non=>cases (r);rfl
 | bl b=>cases (r);rfl
 | int i=>obtain ⟨t,e⟩:=(r);cases e;rfl
 | str x=>obtain ⟨t,e⟩:=(r);cases e;rfl
 | byt b=>obtain ⟨t,e⟩:=(r);cases e;rfl
 | flt b=>obtain ⟨t,e⟩:=(r);cases e;rfl
 | ref a=>cases (r);rfl
 | ty n=>cases (r);rfl
def t8 (K:PySem.W.Frag) (C:Addr) (f:Str):Prop:=PySem.W.findIn K (.ref C) f=some none
section
variable {X:Cx} {pins:List (Addr×Obj)} {σ:St} {H:Hp} {s:Shared} {a C dx:Addr} {fs:List (Str×V)} {f:Str} {v:V} {A:Around} {E:Value->Shared->Prop}
theorem wC {a:Env} {e:Expr} {f:Str} {pos:Pos} {s:Shared} {Q:Value->Shared->Prop} (c:attributeBase e f a (eval e a)=eval e a)
  (h:wpAny (model prog w) A (eval e a) (λo b=>wpAny (model prog w) A (getAttr o f true) Q E b) E s):wpAny (model prog w) A (eval (.Attribute e f pos) a) Q E s:=
 Attribute_any_ h (by rw [arm_eval_Attribute,c])
end
structure Room (q:Bool) (k:Nat) (A:Around):Prop where
 hd:q=false->A.handled=none
 dp:A.depth+3 * k+5<recursionLimit
 un:A.units+16 * k+200<cLine
 gd:A.guards=some []
theorem Room.any {k:Nat} {A:Around} (r:Room false k A):Room q k A:=⟨λ_=>r.hd rfl,r.dp,r.un,r.gd⟩
theorem Room.mono {j k:Nat} {A:Around} (r:Room q k A) (h:j<=k):Room q j A:=⟨r.hd,by have:=r.dp;omega,by have:=r.un;omega,r.gd⟩
theorem Room.deeper (r:Room q (k+1) A) (a:Env):Room q k (A.deeper a):=
 ⟨r.hd,by have:=r.dp;show A.depth+1+3 * k+5<_;omega,by have:=r.un;show A.units+3+16 * k+200<_;omega,r.gd⟩
theorem gI {A:Around} {C:Addr} {us:List Value} {a:List (Str×Value)}:(A.under (.builtin "type.__call__" ⟨.ref C :: us,a⟩)).depth=A.depth+1:=by
 first | rfl | simp [Around.under,Code.weight,Code.isCreation,Code.isGuard,Code.isCaller,Code.frames,Code.isFrame,guardIds]
theorem gV {A:Around} {C:Addr} {us:List Value} {a:List (Str×Value)}:(A.under (.builtin "type.__call__" ⟨.ref C :: us,a⟩)).units=A.units+1:=by
 first | rfl | simp [Around.under,Code.cUnits,Code.frames,Code.isFrame]
theorem Room.make (r:Room q (k+1) A) (C:Addr) (us:List Value) (a:List (Str×Value)):Room q k (A.under (.builtin "type.__call__" ⟨.ref C :: us,a⟩)):=
 ⟨r.hd,by have:=r.dp;rw [gI];omega,by have:=r.un;rw [gV];omega,by have:=r.gd;simp [Around.under,Code.guards,Code.isGuard,guardIds,pushGuards,this]⟩
theorem Room.depth (r:Room q k A):A.depth<recursionLimit:=by have:=r.dp;omega
theorem Room.units (r:Room q k A):A.units+64<cLine:=by have:=r.un;omega
def tNil:TA:=λ_ H Q=>Q [] H
def CM (d:TE) (a:TA):TA:=λσ H Q=>d σ H λx c=>a σ c λxs b=>Q (x :: xs) b
section
variable {X:Cx} {e:Expr} {es:List Expr} {te:TE} {t:TA} {pos:Pos}
theorem A1:PA X [] tNil:=λ_ _ _ _ H Q I h=>JJ ⟨[],H,I,.nil,h⟩
theorem f7 (a:PE X e te) (g:PA X es t) (hs:starEach (e :: es) X.env=(false,eval e X.env) :: starEach es X.env:=by rfl):PA X (e :: es) (CM te t):=by
 intro pos pins s σ H Q I h;rw [hs];refine Jt (thn (a pins s σ H _ I h) λu j ⟨x,f,d,m,l⟩=>?_);exact thn (g pos pins j σ f _ d l) λus n ⟨xs,k,c,b,i⟩=>⟨x :: xs,k,c,.cons m b,i⟩
def Ex (t:TA):TE:=λσ H Q=>t σ H λxs a=>xs.length<=sizeLine/\∀ p,a p=none->Q (.ref p) (upd a p (.tup xs))
def FE (t:TA):TE:=λσ H Q=>t σ H λxs a=>xs.length<=sizeLine/\∀ p,a p=none->Q (.ref p) (upd a p (.lst xs))
theorem oE {x1} (h:PA X es t):PE X (.Tuple es x1 pos) (Ex t):=by
 intro pins s σ H Q I f;refine wpAny_Tuple_spliced (thn (h pos pins s σ H _ I f) λus c ⟨xs,g,a,r,z,q⟩=>⟨by rw [<- r.length];exact z,?_⟩);have d:=a.hok.fresh (FH _);refine ⟨.ref c.heap.objs.size,upd g c.heap.objs.size (.tup xs),a.laid (λb u e=>Ft _ e) (FH _) ?_,rfl,q _ d⟩;exact ⟨z,us,r,⟨_,FJ _ rfl,rfl,_,rfl,rfl⟩⟩
theorem oe (h:PA X es t):PE X (.List es pos) (FE t):=by
 intro pins s σ H Q I f;refine wpAny_List_spliced (thn (h pos pins s σ H _ I f) λus c ⟨xs,g,a,r,z,q⟩=>⟨by rw [<- r.length];exact z,?_⟩);have d:=a.hok.fresh (FH _);refine ⟨.ref c.heap.objs.size,upd g c.heap.objs.size (.lst xs),a.laid (λb u e=>Ft _ e) (FH _) ?_,rfl,q _ d⟩;exact ⟨z,us,0,r,FJ _ rfl⟩
end
abbrev Sp:=List V->Hp->VK->XK->Prop
structure CXT where
 cx:List Env->Hp->Shared->XK->Value->Shared->Prop
 q:Bool
instance:CoeFun CXT λ_=>List Env->Hp->Shared->XK->Value->Shared->Prop:=⟨CXT.cx⟩
structure Env0 (P:Program) (w:World) (K:PySem.W.Frag) (mg:Str->Option Value) (base:Heap) (A:Around) (outer:List Env) (s:Shared) (H:Hp):Prop where
 frames:A.frames=some outer
 mod:Mod K mg base
 bs:∀ b o,base.get? b=some o->s.heap.get? b=some o/\H b=none
 bsz:base.objs.size<=s.heap.objs.size
 funs:s.heap.FunFrames base outer
 frf:∀ b∈frs outer,H b=none
 hok:HOk P w H s.heap
 bare:AllBare s.gens
def CE (a:List Env) (P:Program) (w:World) (H:Hp) (s:Shared) (Q:VK) (u:Value) (s':Shared):Prop:=
 ∃ v H',s'.os=s.os/\AllBare s'.gens/\Un (frs a) [] H H' s.heap s'.heap/\HOk P w H' s'.heap/\RelV v u/\Q v H'
def CR (CX:CXT) (a:List Env) (P:Program) (w:World) (H:Hp) (s:Shared) (Q:VK) (E:XK) (r:Result) (s':Shared):Prop:=
 match r with
 | .ok (.ret u)=>CE a P w H s Q u s'
 | .ok _=>False
 | .error e=>CX a H s E e s'
structure FnOk (P:Program) (w:World) (K:PySem.W.Frag) (mg:Str->Option Value) (base:Heap) (CX:CXT) (k:Nat) (f:Addr) (fd:FuncData) (ps:List Str) (sp:Sp):Prop where
 len:∀ vs H Q E,sp vs H Q E->vs.length=ps.length
 run:∀ (A:Around) (outer:List Env) (s:Shared) (H:Hp) (args:Args) (us:List Value) (vs:List V) (Q:VK) (E:XK),Room CX.q k A->Env0 P w K mg base A outer s H->BindsTo s fd args (ps.zip us)->Vals vs us->sp vs H Q E ->
  codeAny (model P w) A (.call (.ref f) args) (CR CX outer P w H s Q E) s
theorem FnOk.mono {K:PySem.W.Frag} {d:Str->Option Value} {a:Heap} {CX:CXT} {j k:Nat} {f:Addr} {fd:FuncData} {ps:List Str} {sp:Sp} (F:FnOk P w K d a CX j f fd ps sp) (h:j<=k) :
  FnOk P w K d a CX k f fd ps sp:=⟨F.len,λA b s H c us vs Q E e=>F.run A b s H c us vs Q E (e.mono h)⟩
theorem FnOk.imp {K:PySem.W.Frag} {d:Str->Option Value} {a:Heap} {CX:CXT} {k:Nat} {f:Addr} {fd:FuncData} {ps:List Str} {sp sp':Sp} (F:FnOk P w K d a CX k f fd ps sp)
  (h:∀ vs H Q E,sp' vs H Q E->sp vs H Q E):FnOk P w K d a CX k f fd ps sp':=
 ⟨λvs H Q E q=>F.len vs H Q E (h _ _ _ _ q),λA b s H c us vs Q E g e i j hs=>F.run A b s H c us vs Q E g e i j (h _ _ _ _ hs)⟩
theorem Env0.make {K:PySem.W.Frag} {c:Str->Option Value} {b:Heap} {A:Around} {a:List Env} {s:Shared} {H:Hp} (e:Env0 P w K c b A a s H) (C:Addr) (us:List Value) (d:List (Str×Value)) :
  Env0 P w K c b (A.under (.builtin "type.__call__" ⟨.ref C :: us,d⟩)) a s H:=⟨by first | exact e.frames | (simpa [Around.under,Code.envs,Code.isFrame,pushEnvs] using e.frames),e.mod,e.bs,e.bsz,e.funs,e.frf,e.hok,e.bare⟩
section
variable {X:Cx} {pins:List (Addr×Obj)} {σ:St} {H:Hp} {s s':Shared}
theorem Inv.env0 (I:Inv X pins σ H s):Env0 X.prog X.w X.K X.mg X.base X.A X.stack s H:=
 ⟨I.ok.frames,I.ok.mod,I.bs,Gd I.ok.bsz I.sz,I.stack,I.stkFree,I.hok,I.bare⟩
theorem Inv.after (I:Inv X pins σ H s) (h:CE X.stack X.prog X.w H s Q u s'):EP X pins σ Q u s':=by
 obtain ⟨v,H',f,a,i,e,r,q⟩:=h;obtain ⟨j,g,d,t,c⟩:=s';obtain rfl:c=s.os:=f;exact ⟨v,H',I.call i e a (λb z=>absurd z (by simp)),r,q⟩
end
def pX (sp:Sp) (a:List V) (E:XK) (t:TA):TE:=λσ H Q=>t σ H λvs b=>sp (vs++a) b Q E
def Binds (K:PySem.W.Frag) (fd:FuncData) (ps:List Str) (ds:List Value):Prop:=
 ∀ (s:Shared) (us:List Value),K.In s.heap->(us++ds).length=ps.length->BindsTo s fd ⟨us,[]⟩ (ps.zip (us++ds))
theorem Binds.all {K:PySem.W.Frag} {fd:FuncData} {ps:List Str} (h:∀ us:List Value,us.length=ps.length->bindArgs fd ⟨us,[]⟩=pure (ps.zip us)):Binds K fd ps []:=λs us _ a=>by
 rw [Gv] at a ⊢;exact .of_eq (h us a)
def v3 (CX:CXT) (X:Cx) (E:XK):Prop:=∀ (pins:List (Addr×Obj)) (σ:St) (H:Hp) (s:Shared) (e:Value) (s':Shared),Inv X pins σ H s->CX X.stack H s E e s'->X.xe e s'
section
variable {X:Cx} {CX:CXT} {k:Nat} {f C:Addr} {fd:FuncData} {ps:List Str} {sp:Sp} {dvs:List V} {ds:List Value} {E:XK} {x m:Str} {p pos apos:Pos} {e o:Expr} {es:List Expr} {ta:TE} {t:TA}
theorem iB {σ:St} {H:Hp} {s:Shared} {Q:VK} {us:List Value} {vs:List V} (F:FnOk X.prog X.w X.K X.mg X.base CX k f fd ps sp) (hr:Room CX.q k X.A) (hb:Binds X.K fd ps ds) (hd:Vals dvs ds) (hx:v3 CX X E)
  (I:Inv X pins σ H s) (r:Vals vs us) (h:sp (vs++dvs) H Q E):wpAny (model X.prog X.w) X.A (call (.ref f) us) (EP X pins σ Q) X.xe s:=by
 have r2:=r.append hd;have hl:(us++ds).length=ps.length:=by rw [<- r2.length];exact F.len _ _ _ _ h
 refine Ib (Hm (F.run X.A X.stack s H ⟨us,[]⟩ (us++ds) (vs++dvs) Q E hr I.env0 (hb s us I.kIn hl) r2 h) λr s' hq=>?_);cases r with
 | error e=>exact hx pins σ H s e s' I hq
 | ok fl=>
  cases fl with
  | ret u=>exact I.after hq
  | next=>exact False.elim hq
  | brk=>exact False.elim hq
  | cont=>exact False.elim hq
theorem im (F:FnOk X.prog X.w X.K X.mg X.base CX k f fd ps sp) (l:Room CX.q k X.A) (m:Gl X x) (o:X.mg x=some (.ref f)) (d:PySem.W.keepIn X.K (.ref f)=true) (n:Binds X.K fd ps ds) (hd:Vals dvs ds) (g:v3 CX X E)
  (i:PA X (e :: es) t) (a:(x==("__debug__" : Str))=false:=by decide) (j:starEach (e :: es) X.env=(false,eval e X.env) :: starEach es X.env:=by rfl) (b:(backTo pos (starEach es X.env)).any (·.1)=false:=by rfl) :
  PE X (.Call (.Name x p) (e :: es) [] pos) (pX sp dvs E t):=by
 intro pins s σ H Q I h;refine GR (G4 I m o ?_ a);refine IC I.ok.mod.kin d (thn (i pos pins s σ H _ I h) λus v ⟨vs,u,c,r,q⟩=>⟨c.kIn,?_⟩) j b;exact iB F l n hd g c r q
theorem qJ (F:FnOk X.prog X.w X.K X.mg X.base CX k f fd ps sp) (d:Room CX.q k X.A) (e:Gl X x) (i:X.mg x=some (.ref f)) (b:PySem.W.keepIn X.K (.ref f)=true) (g:Binds X.K fd ps ds) (hd:Vals dvs ds) (c:v3 CX X E)
  (a:(x==("__debug__" : Str))=false:=by decide):PE X (.Call (.Name x p) [] [] pos) (pX sp dvs E tNil):=by
 intro pins s σ H Q I h;refine GR (G4 I e i ?_ a);exact PySem.W.callWith_K0 I.kIn b (iB F d g hd c I .nil h)
end
structure FnScope (N P:List Str) (sc:Scope):Prop where
 kind:sc.kind=.function
 co:sc.isCoroutine=false
 gen:sc.isGenerator=false
 nd:N.Nodup
 pre:N.take P.length=P
 par:∀ x∈P,sc.names.lookup x=some .local\/sc.names.lookup x=some .cell
 nofree:∀ y∈sc.names,y.2≠.free
theorem cP {b:Str->Option NameKind} {x:Str}:∀ {a:List (Str×Value)} {m:Str->Option Value},(∀ v,(x,v)∉a)->bindL b a m x=m x
 | [],_,_=>rfl
 | (n,v) :: r,m,h=>by
  unfold bindL;rw [cP λw c=>h w (FQ _ c)];split
  ·have:x≠n:=by rintro rfl;exact h v FO
   simp [this]
  ·rfl
theorem cG {b:Str->Option NameKind} {x:Str}:∀ {a:List (Str×Value)} {m:Str->Option Value},(∀ v,(x,v)∉a)->bindC b a m x=m x
 | [],_,_=>rfl
 | (n,v) :: r,m,h=>by
  unfold bindC;rw [cG λw c=>h w (FQ _ c)];split
  ·rfl
  ·have:x≠n:=by rintro rfl;exact h v FO
   simp [this]
theorem cb {a:Str->Option NameKind} {x:Str} {v:Value}:∀ {P:List Str} {vs:List Value} {i:Nat} {m:Str->Option Value},P.Nodup->P[i]?=some x->vs[i]?=some v->a x=some .local ->
  bindL a (P.zip vs) m x=some v
 | [],_,_,_,_,h,_,_=>by simp at h
 | _ :: _,[],_,_,_,_,h,_=>by simp at h
 | p :: P,w :: vs,0,m,d,b,c,e=>by
  simp at b c;subst b;subst c;show bindL a ((p,w) :: P.zip vs) m p=_;unfold bindL;rw [cP λv f=>(Hz.mp d).1 (Kg f).1,if_pos e];simp
 | p :: P,w :: vs,i+1,m,d,b,c,e=>by
  unfold bindL;exact cb (Hz.mp d).2 (by simpa using b) (by simpa using c) e
theorem cj {a:Str->Option NameKind} {x:Str} {v:Value}:∀ {P:List Str} {vs:List Value} {i:Nat} {m:Str->Option Value},P.Nodup->P[i]?=some x->vs[i]?=some v->a x≠some .local ->
  bindC a (P.zip vs) m x=some v
 | [],_,_,_,_,h,_,_=>by simp at h
 | _ :: _,[],_,_,_,_,h,_=>by simp at h
 | p :: P,w :: vs,0,m,d,b,c,e=>by
  simp at b c;subst b;subst c;show bindC a ((p,w) :: P.zip vs) m p=_;unfold bindC;rw [cG λv f=>(Hz.mp d).1 (Kg f).1,if_neg e];simp
 | p :: P,w :: vs,i+1,m,d,b,c,e=>by
  unfold bindC;exact cj (Hz.mp d).2 (by simpa using b) (by simpa using c) e
def start (N:List Str) (vs:List V):St:=vs.map some++List.replicate (N.length-vs.length) none
def bz (CX:CXT) (P:Program) (w:World) (K:PySem.W.Frag) (mg:Str->Option Value) (base:Heap) (N:List Str) (qual:Str) (scope:Scope) (f:Addr) (cd:Value) (A:Around) (outer:List Env) (s:Shared) (H:Hp) (E:XK):Cx where
 prog:=P
 w:=w
 K:=K
 mg:=mg
 base:=base
 A:=A.deeper (envOfC qual scope s.heap.objs.size f cd)
 N:=N
 s₀:=s
 H₀:=H
 env:=envOfC qual scope s.heap.objs.size f cd
 outer:=outer
 stack:=envOfC qual scope s.heap.objs.size f cd :: outer
 ex:=[]
 calm:=!CX.q
 fn:=λ_=>true
 pn:=[]
 xe:=λe s'=>wpAny (model P w) (A.deeper (envOfC qual scope s.heap.objs.size f cd)) (leaving (envOfC qual scope s.heap.objs.size f cd) e) (λ_ s''=>CX outer H s E e s'') (λe' s''=>CX outer H s E e' s'') s'
theorem gA {a:Scope} {n:Nat} {x:Str} (h:a.names.lookup x=some .cell):∃ c,(cellsFrom n a.names []).lookup x=some c:=by
 have q:=PySem.W.cellsFrom_some a.names n [] (.inl h);exact GQ.mp q
theorem mY {CX:CXT} {P:Program} {w:World} {K:PySem.W.Frag} {mg:Str->Option Value} {base:Heap} {N ps:List Str} {qual:Str} {scope:Scope} {f:Addr} {cd:Value} {A:Around} {outer:List Env} {s s1:Shared} {H:Hp} {E:XK} {us:List Value} {vs:List V}
  (S:FnScope N ps scope) (hd:CX.q=false->A.handled=none) (e0:Env0 P w K mg base A outer s H) (hl:vs.length=ps.length) (r:Vals vs us)
  (x:InCallC s s.heap.objs.size (bindL (envOfC qual scope s.heap.objs.size f cd).kindOf (ps.zip us) λ_=>none) (cellsFrom (s.heap.objs.size+1) scope.names []) (bindC (envOfC qual scope s.heap.objs.size f cd).kindOf (ps.zip us) λ_=>none) s1) :
  Inv (bz CX P w K mg base N qual scope f cd A outer s H E) [] (start N vs) H s1:=by
 have hpl:ps.length<=N.length:=by have:=congrArg List.length S.pre;rw [Hr] at this;omega
 obtain ⟨h1,tk,rfl,hk⟩:=x.done;have noA:∀ b:Addr,b∉(bz CX P w K mg base N qual scope f cd A outer s H E).ex:=λb z=>absurd (show b∈([]:List Addr) from z) (by simp);refine ⟨⟨e0.mod,S.kind,rfl,rfl,FH _,λy z c h1 h2=>?_,λy hy=>?_,λy c _ h=>?_,λz=>hd (by have z:(!CX.q)=true:=z;simpa using z),Around.frames_deeper e0.frames,.inr ⟨rfl,rfl⟩,λb z=>absurd z (noA b),e0.bs,e0.bsz,λb _ _=>noA b,λb z=>absurd z (noA b),e0.funs,e0.frf⟩,
  rfl,e0.bare,Un.kept hk,⟨_,x.toInCall.ns,λi y v h1 h2 h3=>?_⟩,λy c h=>⟨_,x.cell y c h⟩,e0.hok.fresh (FH _),λy c h=>?_,λp hp=>absurd (show p∈([]:List (Addr×Obj)) from hp) (by simp),e0.hok.kept hk,?_⟩
 ·exact name_of_addr x.apart (HF h1) (HF h2)
 ·have hy:scope.names.lookup y=some .cell\/scope.names.lookup y=some .free:=hy;rcases hy with hy | hy
  ·exact gA hy
  ·exact absurd rfl (S.nofree _ (HF hy))
 ·exact II (x.above y c (HF h))
 ·have hi:i<vs.length:=by
   unfold start at h2;by_cases hi:i<vs.length
   ·exact hi
   ·rw [Gq (by simpa using hi)] at h2;rw [HH] at h2;split at h2 <;> cases h2
  have ha:vs[i]?=some v:=by
   unfold start at h2;rw [FI (by simpa using hi),FY] at h2;cases e:vs[i]? with
   | none=>rw [e] at h2;cases h2
   | some a=>rw [e] at h2;cases h2;rfl
  obtain ⟨u,hu,rv⟩:=r.get ha;have hp:ps[i]?=some y:=by
   rw [<- S.pre,List.getElem?_take_of_lt (by omega)];exact h1
  have ndP:ps.Nodup:=by rw [<- S.pre];exact S.nd.sublist (IJ _ _)
  refine ⟨u,rv,?_⟩;rcases S.par y (FT hp) with k | k
  ·exact .inl ⟨k,cb ndP hp hu k⟩
  ·obtain ⟨c,e⟩:=gA (n:=s.heap.objs.size+1) k;refine .inr ⟨.inl k,c,e,?_⟩;have q:=x.cell y c e;rw [cj ndP hp hu (by show scope.names.lookup y≠_;rw [k];decide)] at q;exact q
 ·exact e0.hok.fresh (II (x.above y c (HF h)))
 ·unfold start;show _=N.length;rw [GS,Fu,IS];omega
theorem wt {K:PySem.W.Frag} {mg:Str->Option Value} {base:Heap} {k:Nat} {f:Addr} {name qual:Str} {params:Arguments} {body:List Stmt} {scope:Scope} {dV kV doc pm cdv ct oc:Value} {an od:Option Addr}
  {osl:Array (Option Value)} {N ps:List Str} {sp:Sp} (lk:K.lookup f=some ⟨oc,od,.func (PySem.W.fnOf name qual params body scope dV kV doc pm an cdv ct),osl⟩) (hcd:PySem.W.codeIn K cdv qual=true) (S:FnScope N ps scope)
  (len:∀ vs H Q E,sp vs H Q E->vs.length=ps.length)
  (hbody:∀ (A:Around) (outer:List Env) (s:Shared) (H:Hp) (vs:List V) (Q:VK) (E:XK),Room CX.q k (A.deeper (envOfC qual scope s.heap.objs.size f cdv))->sp vs H Q E ->
   ∃ t,PSs (bz CX P w K mg base N qual scope f cdv A outer s H E) body t/\t { nx:=λ_ H'=>Q .non H',rt:=Q } (start N vs) H) :
  FnOk P w K mg base CX (k+1) f (PySem.W.fnOf name qual params body scope dV kV doc pm an cdv ct) ps sp:=by
 refine ⟨len,λA outer s H args us vs Q E hr e0 hb r hsp=>?_⟩;have hl:=len _ _ _ _ hsp;have KX:=e0.mod.kin.keeps λb o e=>(e0.bs b o e).1;have lim:=e0.mod.nolimit.keeps λb o e=>(e0.bs b o e).1;have hkind:∀ y∈ps.zip us,scope.names.lookup y.1=some .local\/(scope.names.lookup y.1=some .cell/\((cellsFrom (s.heap.objs.size+1) scope.names []).lookup y.1).isSome=true):=λ⟨n,v⟩ hy=>by
  rcases S.par n (Kg hy).1 with q | q
  ·exact .inl q
  ·exact .inr ⟨q,PySem.W.cellsFrom_some _ _ _ (.inl q)⟩
 refine codeAny_call_function hr.depth (KX _ _ lk) rfl S.co S.gen rfl (PySem.W.codeRec_of KX hcd) (hb _ _ _ _ ?_);refine wpAny_newFunctionEnv_cells S.kind hkind λenv he s1 x=>?_;subst he;refine ⟨lim.keeps x.toInCall.keep,codeAny_func ?_⟩;obtain ⟨t,ht,hq⟩:=hbody A outer s H vs Q E (hr.deeper _) hsp;have I:Inv (bz CX P w K mg base N qual scope f cdv A outer s H E) [] (start N vs) H s1:=mY S hr.hd e0 hl r x;refine Gs (ht [] s1 (start N vs) H _ I hq) (λfl s' hs=>?_) λe s' hs=>hs;have fin:∀ {σ':St} {H':Hp} {v:V} {u:Value},Inv (bz CX P w K mg base N qual scope f cdv A outer s H E) [] σ' H' s'->RelV v u->Q v H'->CE outer P w H s Q u s':=
  λ{σ' H' v u} J rv q=>⟨v,H',J.os,J.bare,J.base,J.hok,rv,q⟩
 cases fl with
 | ret u=>
  obtain ⟨v,σ',H',J,rv,q⟩:=hs;exact fin J rv q
 | next=>
  obtain ⟨σ',H',J,q⟩:=hs;exact fin (v:=V.non) J rfl q
 | brk=>
  obtain ⟨_,_,_,q⟩:=hs;exact False.elim q
 | cont=>
  obtain ⟨_,_,_,q⟩:=hs;exact False.elim q
section
variable {X:Cx} {x:Str} {p pos:Pos} {e:Expr} {es:List Expr} {t:TA} {id T:String} {r:List V->Hp->VK->Prop}
def tCB (r:List V->Hp->VK->Prop) (t:TA):TE:=λσ H Q=>t σ H λvs a=>r vs a Q
theorem Q8 (n:i5 X (.builtin id) r) (l:Gl X x) (m:X.mg x=none) (c:bootBuiltins x=some (.builtin id)) (d:PA X (e :: es) t) (f:x ≠ "__name__":=by decide) (a:(x==("__debug__" : Str))=false:=by decide)
  (g:starEach (e :: es) X.env=(false,eval e X.env) :: starEach es X.env:=by rfl) (b:(backTo pos (starEach es X.env)).any (·.1)=false:=by rfl):PE X (.Call (.Name x p) (e :: es) [] pos) (tCB r t):=by
 intro pins s σ H Q I h;refine GR (G0 I l m c ?_ f a);exact HI (thn (d pos pins s σ H _ I h) λus i ⟨vs,k,j,q,o⟩=>n pins i σ k vs us Q j q o) g b
theorem mW (n:i5 X (.type T) r) (l:Gl X x) (m:X.mg x=none) (c:bootBuiltins x=some (.type T)) (d:PA X (e :: es) t) (f:x ≠ "__name__":=by decide) (a:(x==("__debug__" : Str))=false:=by decide)
  (g:starEach (e :: es) X.env=(false,eval e X.env) :: starEach es X.env:=by rfl) (b:(backTo pos (starEach es X.env)).any (·.1)=false:=by rfl):PE X (.Call (.Name x p) (e :: es) [] pos) (tCB r t):=by
 intro pins s σ H Q I h;refine GR (G0 I l m c ?_ f a);exact GT (thn (d pos pins s σ H _ I h) λus i ⟨vs,k,j,q,o⟩=>n pins i σ k vs us Q j q o) g b
end
end L2
namespace HT
open PySem PyProof.Rows
section
variable {prog:Program} {w:World} {A:Around} {E:Value->Shared->Prop} {s:Shared}
theorem cat_tup (q:IsTup s.heap t vs.toArray) (v:IsTup s.heap b ws.toArray) (p:vs≠[])
  (r:ws=[]->Q (.ref t) s) (u:ws≠[]->Q (.ref s.heap.objs.size) { s with heap:=s.heap.push { cls:=.type "tuple",data:=.seq (vs++ws).toArray } })
  (hsz:vs.length+ws.length<=sizeLine):wpAny (model prog w) A (binaryOp .Add (.ref t) (.ref b)) Q E s:=by
 obtain ⟨⟨cls,k,data,o⟩,f,x,n,hd⟩:=id q;obtain ⟨⟨m,d,i,c⟩,a,h,l,j⟩:=id v;subst x hd h j;have e:vs.toArray++ws.toArray=(vs++ws).toArray:=by simp
 by_cases g:ws=[]
 ·exact concat_meets ⟨_,f,rfl⟩ ⟨_,a,rfl⟩ JW Ku IK IF (Iw _ _)
   (tuple_addW1 t b vs.toArray ws.toArray n l k d o c (by simpa using p) (by simp [g])) ⟨f,a,r g⟩
 ·refine concat_meets ⟨_,f,rfl⟩ ⟨_,a,rfl⟩ JW Ku IK IF (Iw _ _)
   (tuple_addW2 t b vs.toArray ws.toArray n l k d o c (by simpa using p) (by simpa using g) (by rw [FR,FR];exact hsz)) ⟨f,a,?_⟩
  rw [e];exact u g
def sIx (n d:Nat):Option Int->Nat
 | none=>d
 | some v=>if v<0 then (v+(n:Int)).toNat else min v.toNat n
theorem sIx_none (n d:Nat):sIx n d none=d:=rfl
theorem yS (n d:Nat) (hd:d<=n) (o:Option Int):sIx n d o<=n:=by
 cases o with
 | none=>exact hd
 | some v=>
  show (if v<0 then (v+(n:Int)).toNat else min v.toNat n)<=n;by_cases a:v<0
  ·rw [if_pos a];omega
  ·grind
theorem jg (v:Int) (n d:Nat):(if v<0 then max (v+(n:Int)) 0 else min v (n:Int))=((sIx n d (some v):Nat):Int):=by
 show (if v<0 then max (v+(n:Int)) 0 else min v (n:Int))=(((if v<0 then (v+(n:Int)).toNat else min v.toNat n):Nat):Int);grind
theorem iN (lo hi:Option Int) (n:Nat):Builtin.Slice.sliceAdjust lo hi 1 (n:Int)=(((sIx n 0 lo:Nat):Int),((sIx n n hi:Nat):Int)):=by
 have h1:¬ ((1:Int)<0):=by omega
 refine Prod.ext ?_ ?_
 ·cases lo with
  | none=>rfl
  | some v=>exact jg v n 0
 ·cases hi with
  | none=>rfl
  | some v=>exact jg v n n
theorem gH (i j:Nat):Builtin.Slice.slicePlaces (i:Int) (j:Int) 1=j-i:=by
 unfold Builtin.Slice.slicePlaces;grind
theorem af (p:IsPart v o) (h:Q o s):wpAny (model prog w) A (Builtin.Slice.slicePartIndex v) Q E s:=by
 cases p with
 | none=>exact Ju h
 | int i t=>exact slicePart_int h
theorem sliceApplied_gen {lo hi:Option Int} {n:Nat} {Q:Int×Int×Nat->Shared->Prop} (hs:s.heap.IsSliceOf sl vl vu .none) (pl:IsPart vl lo) (pu:IsPart vu hi)
  (h:Q (((sIx n 0 lo:Nat):Int),1,sIx n n hi-sIx n 0 lo) s):wpAny (model prog w) A (Builtin.Slice.sliceApplied (.ref sl) (pure (n:Int))) Q E s:=by
 obtain ⟨os,hos,hcs,hds⟩:=id hs;refine Fq (Fq (GP hos hds rfl (Fq (GP hos hds rfl (Fq (GP hos hds rfl (Fs ?_)))))));refine Fq (Ju ?_);rw [if_neg (by decide)];refine Fq (af pl (Fq (af pu (Fq (Fs ?_)))));show wpAny _ _ (match Builtin.Slice.sliceAdjust lo hi 1 (n:Int) with | (lo,hi)=>pure (lo,(1:Int),Builtin.Slice.slicePlaces lo hi 1)) _ _ s;rw [iN lo hi n];show wpAny _ _ (pure (((sIx n 0 lo:Nat):Int),(1:Int),Builtin.Slice.slicePlaces ((sIx n 0 lo:Nat):Int) ((sIx n n hi:Nat):Int) 1)) _ _ s;rw [gH];exact Fs h
theorem rQ (xs:Array Value) (i k:Nat):((List.range k).filterMap λ(m:Nat)=>xs[((i:Int)+(m:Int) * 1).toNat]?).toArray=((xs.toList.drop i).take k).toArray:=by
 have e:(λ(m:Nat)=>xs[((i:Int)+(m:Int) * 1).toNat]?)=λm=>xs[i+m]?:=by
  funext m;have:((i:Int)+(m:Int) * 1).toNat=i+m:=by omega
  rw [this]
 rw [e];have:=pick_run xs i k;rw [ID] at this;have e2:((λx=>xs[x]?) ∘ λx=>i+x)=λm=>xs[i+m]?:=rfl;grind
theorem getItem_tuple_cut {items:Array Value} {i j:Value} {lo b:Option Int} {Q:Value->Shared->Prop} (c:IsTup s.heap t items) (hs:s.heap.IsSliceOf sl i j .none) (pl:IsPart i lo) (k:IsPart j b)
  (m:¬ (sIx items.size 0 lo=0/\sIx items.size items.size b=items.size))
  (h:Q (.ref s.heap.objs.size) { s with heap:=s.heap.push { cls:=.type "tuple",data:=.seq ((items.toList.drop (sIx items.size 0 lo)).take (sIx items.size items.size b-sIx items.size 0 lo)).toArray } })
  (hsz:items.size<=sizeLine):wpAny (model prog w) A (getItem (.ref t) (.ref sl)) Q E s:=by
 have a:sizeOk (.seq ((items.toList.drop (sIx items.size 0 lo)).take (sIx items.size items.size b-sIx items.size 0 lo)).toArray):=by
  show ((items.toList.drop (sIx items.size 0 lo)).take (sIx items.size items.size b-sIx items.size 0 lo)).toArray.size<=sizeLine;rw [FR,Hr,Ih,Gn];omega
 have n:sIx items.size items.size b<=items.size:=yS _ _ (FH _) b;obtain ⟨l,d,e,hds⟩:=id hs;have g:s.TypeIs (.ref sl) "slice":=⟨l,d,e⟩;unfold getItem;try with_reducible refine GD ?_
 first | refine Fq (Fs ?_) | skip
 refine Fq (JK c.typeIs (by decide) ?_);refine Fq (Gx c.typeIs GE
  (GA GE c.typeIs Jl ?_ (Jv _ _)))
 show wpAny _ _ (Builtin.Tuple.tupleItemsOf (.ref t) >>= _) _ _ s;refine Fq (JP c ?_);refine Fq (Ii g ?_);rw [if_pos (by decide)];refine Fq (sliceApplied_gen hs pl k ?_);have f:¬ ((((sIx items.size 0 lo:Nat):Int)==0&&(1:Int)==1&&(sIx items.size items.size b-sIx items.size 0 lo)==items.size)=true):=by
  intro q;rw [FG,FG] at q;have p:=Kt q.1.1;have o:=Kt q.2;exact m ⟨by omega,by omega⟩
 show wpAny _ _ (if (((sIx items.size 0 lo:Nat):Int)==0&&(1:Int)==1&&(sIx items.size items.size b-sIx items.size 0 lo)==items.size)=true then _ else _) _ _ s;rw [if_neg f,rQ];first
  | exact Fq (Gi (Fs ⟨_,rfl,Fs h⟩) a)
  | exact Fq (Gi (Fq (Fs (Fs ⟨_,rfl,Fs h⟩))) a)
  | exact Fq (Fq (Gi (Fs (Fs ⟨_,rfl,Fs h⟩)) a))
  | exact Fq (Fq (Gi (Fs ⟨_,rfl,Fs h⟩) a))
end
end HT
namespace L2
open PySem PySem.Spec PyProof.Rows
abbrev TO:=St->Hp->(Option Int->Hp->Prop)->Prop
def PO (X:Cx) (e:Option Expr) (t:TO):Prop:=
 ∀ (pins:List (Addr×Obj)) (s:Shared) (σ:St) (H:Hp) (Q:Option Int->Hp->Prop),Inv X pins σ H s->t σ H Q ->
  wpAny (model X.prog X.w) X.A (evalPart e X.env) (λu s'=>∃ o H',Inv X pins σ H' s'/\IsPart u o/\Q o H') X.xe s
def tNoPart:TO:=λ_ H Q=>Q none H
def Cm (t:TE):TO:=λσ H Q=>t σ H λx a=>∃ i,x=.int i/\Q (some i) a
section
variable {X:Cx} {e:Expr} {te:TE} {lo hi:Option Expr} {tl th:TO} {pos p2:Pos}
theorem vW:PO X none tNoPart:=by
 intro pins s σ H Q I h;rw [Kv];exact Fs ⟨none,H,I,.none,h⟩
theorem tM (h:PE X e te):PO X (some e) (Cm te):=by
 intro pins s σ H Q I f;rw [evalPart_some];refine thn (h pins s σ H _ I f) λu g ⟨x,b,a,d,c⟩=>?_;obtain ⟨i,rfl,q⟩:=c;obtain ⟨t,rfl⟩:=d;exact ⟨some i,b,a,.int i t,q⟩
def SlR (X:Cx) (r:V->Option Int->Option Int->Hp->VK->Prop):Prop:=
 ∀ (pins:List (Addr×Obj)) (s:Shared) (σ:St) (H:Hp) (x:V) (v c b:Value) (lo a:Option Int) (d:Addr) (Q:VK),Inv X pins σ H s->RelV x v->s.heap.IsSliceOf d c b .none->IsPart c lo->IsPart b a->r x lo a H Q ->
  ∃ T id,typeLookup (.type T) "__getitem__" = pure (some (.builtin id))/\s.TypeIs v T/\wpAny (model X.prog X.w) X.A (getItem v (.ref d)) (EP X pins σ Q) X.xe s
def tSl (r:V->Option Int->Option Int->Hp->VK->Prop) (te:TE) (a d:TO):TE:=λσ H Q=>te σ H λx c=>a σ c λl e=>d σ e λu b=>r x l u b Q
theorem nZ (j:SlR X r) (o:PE X e te) (g:PO X lo tl) (J:PO X hi th):PE X (.Subscript e (.Slice lo hi none p2) pos) (tSl r te tl th):=by
 intro pins s σ H Q I h;refine Subscript_ (thn (o pins s σ H _ I h) λv m ⟨x,y,t,C,B⟩=>?_);refine wpAny_Slice (thn (g pins m σ y _ t B) λc F ⟨l,G,D,pl,i⟩=>thn (J pins F σ G _ D i) λd a ⟨u,f,w,n,z⟩=>?_);rw [Kv];refine Fs ?_;have k:Inv X pins σ f { a with heap:=a.heap.push { cls:=.type "slice",data:=.fields #[c,d,.none] } }:=w.kept λb ob q=>Ft _ q;obtain ⟨T,id,A,p,E⟩:=j pins { a with heap:=a.heap.push { cls:=.type "slice",data:=.fields #[c,d,.none] } } σ f x v c d l u a.heap.objs.size Q k C (Jw ..) pl n z;exact tail_any p A E (by with_unfolding_all rfl)
def mL (xs:List V) (lo a:Option Int):List V:=(xs.drop (HT.sIx xs.length 0 lo)).take (HT.sIx xs.length xs.length a-HT.sIx xs.length 0 lo)
theorem X8 (xs:List V) (lo hi:Option Int):(mL xs lo hi).length<=xs.length:=by
 unfold mL;rw [Hr,Ih];omega
def EA (K:PySem.W.Frag):V->Option Int->Option Int->Hp->VK->Prop:=λx lo b H Q=>∃ a xs,x=.ref a/\SqT K H a xs /\
 ¬ (HT.sIx xs.length 0 lo=0/\HT.sIx xs.length xs.length b=xs.length)/\∀ p,H p=none->Q (.ref p) (upd H p (.tup (mL xs lo b)))
theorem xq:SlR X (EA X.K):=by
 intro pins s σ H x v l m lo e n Q I j hs pl i h;obtain ⟨a,xs,rfl,g,k,q⟩:=h;cases j;obtain ⟨d,r,f,hz⟩:=I.tuple g;have c:d.toArray.size=xs.length:=by rw [FR];exact r.length.symm
 refine ⟨"tuple",_,PyProof.Rows.slot_tuple_getitem.lookup,f.typeIs,?_⟩;refine HT.getItem_tuple_cut f hs pl i (by rw [c];exact k) ?_ (by rw [c];exact hz);rw [c];refine ⟨.ref s.heap.objs.size,_,I.laid (λb ob q=>Ft _ q) (FH _) ?_,rfl,q _ (I.hok.fresh (FH _))⟩;exact ⟨Gd (X8 xs lo e) hz,_,(r.drop (HT.sIx xs.length 0 lo)).take (HT.sIx xs.length xs.length e-HT.sIx xs.length 0 lo),TupN.new _ _⟩
def Bq (K:PySem.W.Frag):R2:=λx y H Q=>∃ a b xs ys,x=.ref a/\y=.ref b/\SqT K H a xs/\SqT K H b ys/\xs≠[]/\xs.length+ys.length<=sizeLine /\
 (ys=[]->Q (.ref a) H)/\(ys≠[]->∀ p,H p=none->Q (.ref p) (upd H p (.tup (xs++ys))))
theorem Vals.nil_iff (r:Vals xs us):us=[]↔xs=[]:=by
 cases r with
 | nil=>simp
 | cons _ _=>simp
theorem sw:OpR X (binaryOp .Add) (Bq X.K):=by
 intro pins s σ H x y v u Q I n k h;obtain ⟨a,b,xs,ys,rfl,rfl,g,m,f,hz,p,l⟩:=h;cases n;cases k;obtain ⟨j,d,o,_⟩:=I.tuple g;obtain ⟨e,c,i,_⟩:=I.tuple m;refine HT.cat_tup o i (λz=>f (d.nil_iff.mp z)) (λz=>⟨.ref a,H,I,rfl,p (c.nil_iff.mp z)⟩) (λz=>?_) (by rw [<- d.length,<- c.length];exact hz);refine ⟨.ref s.heap.objs.size,_,I.laid (λb ob q=>Ft _ q) (FH _) ?_,rfl,l (λw=>z (c.nil_iff.mpr w)) _ (I.hok.fresh (FH _))⟩;exact ⟨by rw [GS];exact hz,_,d.append c,TupN.new _ _⟩
end
def ixN (n:Nat) (i:Int):Option Nat:=if 0<=i then (if i<n then some i.toNat else none) else if -(n:Int)<=i then some (i+n).toNat else none
def atI {a:Type} (xs:List a) (i:Int):Option a:=(ixN xs.length i).bind λj=>xs[j]?
theorem de (h:ixN n i=some j):seqIndex? i n=some j/\j<n/\-(n:Int)<=i/\i<n:=by
 unfold ixN at h;by_cases b:0<=i
 ·rw [if_pos b] at h;by_cases a:i<n
  ·rw [if_pos a] at h;have e:=Gz h;exact ⟨by rw [seqIndex_of b a,e],by omega,by omega,a⟩
  ·grind
 ·rw [if_neg b] at h;by_cases a:-(n:Int)<=i
  ·rw [if_pos a] at h;have e:=Gz h;exact ⟨by rw [seqIndex_neg (by omega) a,e],by omega,a,by omega⟩
  ·grind
theorem kT (h:atI xs i=some v):∃ j,seqIndex? i xs.length=some j/\xs[j]?=some v/\j<xs.length/\-(xs.length:Int)<=i/\i<xs.length:=by
 unfold atI at h;cases e:ixN xs.length i with
 | none=>rw [e] at h;cases h
 | some j=>
  rw [e] at h;obtain ⟨c,b,a,d⟩:=de e;exact ⟨j,c,h,b,a,d⟩
theorem aA {j:Nat} {v:α} (h:xs[j]?=some v):atI xs (j:Int)=some v:=by
 have hj:=(Fv.mp h).1;have e:ixN xs.length (j:Int)=some j:=by
  unfold ixN;rw [if_pos (by omega),if_pos (by omega)];simp
 unfold atI;rw [e];exact h
def dP (b:Expr):Prop:=∀ o i,subscripted b false o i=operate [o,i] (getItem o i)
def IxR (X:Cx) (r:R2):Prop:=
 ∀ (b a:Expr) (pins:List (Addr×Obj)) (s:Shared) (σ:St) (H:Hp) (x y:V) (v u:Value) (Q:VK),Inv X pins σ H s->RelV x v->RelV y u->r x y H Q ->
  subscripted a false v u=operate [v,u] (getItem v u)->wpAny (model X.prog X.w) X.A (subscriptTail b a v u) (EP X pins σ Q) X.xe s
def MtR (X:Cx) (id:String) (r:V->List V->Hp->VK->Prop):Prop:=
 ∀ (pins:List (Addr×Obj)) (s:Shared) (σ:St) (H:Hp) (x:V) (xs:List V) (v:Value) (us:List Value) (Q:VK),Inv X pins σ H s->RelV x v->Vals xs us->r x xs H Q ->
  wpAny (model X.prog X.w) X.A (call (.builtin id) (v :: us)) (EP X pins σ Q) X.xe s
section
variable {X:Cx} {a b:Expr} {ta tb:TE} {pos:Pos}
theorem CO (f:IxR X r) (c:PE X a ta) (g:PE X b tb) (hs:dP b):PE X (.Subscript a b pos) (tOp r ta tb):=by
 intro pins s σ H Q I h;exact Subscript_ (zN c g I h λv u j x y k d i e q=>f a b pins j σ k x y v u Q d i e q (hs _ _))
def Ey (K:PySem.W.Frag):R2:=λx y H Q=>∃ p xs i v,x=.ref p/\y=.int i/\SqL K H p xs/\atI xs i=some v/\Q v H
def Dm (K:PySem.W.Frag):R2:=λx y H Q=>∃ p xs i v,x=.ref p/\y=.int i/\SqT K H p xs/\atI xs i=some v/\Q v H
theorem wK:IxR X (Ey X.K):=by
 intro f e pins s σ H x y v u Q I D n h hs;obtain ⟨p,xs,i,z,rfl,rfl,E,A,q⟩:=h;cases D;obtain ⟨t,rfl⟩:=n;obtain ⟨d,r,pl,hz⟩:=I.list E;obtain ⟨j,b,C,G,m,B⟩:=kT A;obtain ⟨w,k,c⟩:=r.get C;have o:=r.length;have F:=W4;have a:EP X pins σ Q w s:=⟨z,H,I,c,q⟩;by_cases l:0<=i
 ·have g:i.toNat=j:=by
   rw [seqIndex_of l B] at b;exact Gz b
  exact item_listR pl.isList l (by omega) (by rw [g];simpa using k) a hs
 ·have g:(i+(d.toArray.size:Int)).toNat=j:=by
   rw [seqIndex_neg (by omega) m] at b;rw [FR,<- o];exact Gz b
  exact subscriptTail_builtinR pl.isList.typeIs slot_list_getitem.lookup
   (wpAny_getItem_list_neg pl.isList (by omega) (by rw [FR] <;> omega) (by omega) (by rw [g];simpa using k) ⟨rfl,a⟩) hs
theorem AT:IxR X (Dm X.K):=by
 intro b d pins s σ H x y v u Q I A l h hs;obtain ⟨p,xs,i,z,rfl,rfl,g,e,q⟩:=h;cases A;obtain ⟨t,rfl⟩:=l;obtain ⟨k,r,pl,hz⟩:=I.tuple g;obtain ⟨j,f,o,D,C,E⟩:=kT e;obtain ⟨w,n,c⟩:=r.get o;have m:=r.length;have B:=W4;have a:EP X pins σ Q w s:=⟨z,H,I,c,q⟩;exact subscriptTail_builtinR pl.typeIs slot_tuple_getitem.lookup
  (getItem_tuple pl (by omega) (by omega) (by rw [FR,<- m];exact f) (by simpa using n) ⟨rfl,a⟩) hs
theorem hX (a:List Value) (n j:Nat) (u:Value):Obj.mapSeq (·.setIfInBounds j u) { cls:=.type "list",data:=.seq a.toArray n }={ cls:=.type "list",data:=.seq (a.set j u).toArray n }:=by
 simp [Obj.mapSeq]
theorem Inv.lst {σ:St} {H:Hp} {s:Shared} {p:Addr} {xs:List V} (I:Inv X pins σ H s) (h:H p=some (.lst xs)) :
  ∃ (a:List Value) (n:Nat),Vals xs a/\s.heap.get? p=some { cls:=.type "list",data:=.seq a.toArray n }/\xs.length<=sizeLine:=by
 obtain ⟨z,a,n,r,e⟩:=I.hok p _ h;grind
theorem Inv.lstUpd {σ:St} {H:Hp} {s:Shared} {p:Addr} {xs ys:List V} {a its':List Value} {n c:Nat} {f:Obj->Obj} (I:Inv X pins σ H s) (h:H p=some (.lst xs))
  (g:s.heap.get? p=some { cls:=.type "list",data:=.seq a.toArray n }) (d:f { cls:=.type "list",data:=.seq a.toArray n }={ cls:=.type "list",data:=.seq its'.toArray c }) (r:Vals ys its') (hz:ys.length<=sizeLine) (t:Nat) :
  Inv X pins σ (upd H p (.lst ys)) { s with heap:=s.heap.update p f,toks:=t }:=by
 have e:(s.heap.update p f).get? p=some { cls:=.type "list",data:=.seq its'.toArray c }:=by
  rw [Gp f g (by rw [d] <;> rfl),d]
 refine I.write (by rw [h];trivial) (.inl rfl) (λb u i q=>(GU _ _ (Ne.symm i)).trans q) ⟨_,e⟩ ?_;exact ⟨hz,its',c,r,e⟩
def rSetL:V->V->V->Hp->(Hp->Prop)->Prop:=λo i v H Q=>∃ p xs k j,o=.ref p/\i=.int k/\H p=some (.lst xs)/\ixN xs.length k=some j/\Q (upd H p (.lst (xs.set j v)))
theorem nU:AH X rSetL:=by
 intro pins s σ H o i v D B u Q I z x A h;obtain ⟨p,xs,k,j,rfl,rfl,f,y,q⟩:=h;cases z;obtain ⟨t,rfl⟩:=x;obtain ⟨a,n,r,d,hz⟩:=I.lst f;obtain ⟨b,E,w,l⟩:=de y;have e:=r.length;have C:=W4;have g:Inv X pins σ (upd H p (.lst (xs.set j v))) { s with heap:=s.heap.update p (Obj.mapSeq (·.setIfInBounds j u)) }:=
  I.lstUpd f d (hX a n j u) (r.set A j) (by rw [GZ];exact hz) s.toks
 by_cases m:0<=k
 ·have c:k.toNat=j:=by
   rw [seqIndex_of m l] at b;exact Gz b
  exact PySem.W.ki_setAt d m (by omega) (by rw [FR,<- e];exact l) (by rw [c];exact ⟨_,g,q⟩)
 ·have c:(k+(a.toArray.size:Int)).toNat=j:=by
   rw [seqIndex_neg (by omega) w] at b;rw [FR,<- e];exact Gz b
  exact PySem.W.ki_setBack d (by omega) (by rw [FR,<- e];exact w) (by omega) (by rw [c];exact ⟨_,g,q⟩)
theorem dg (lo a:Option Int) (n:Nat):(sliceBounds lo a none n).1=((HT.sIx n 0 lo:Nat):Int)/\(sliceBounds lo a none n).2.1=((HT.sIx n n a:Nat):Int)/\(sliceBounds lo a none n).2.2=1:=by
 refine ⟨?_,?_,rfl⟩
 ·cases lo with
  | none=>simp [sliceBounds,HT.sIx]
  | some i=>
   simp only [sliceBounds,HT.sIx,Option.getD_none,show (1:Int) > 0 by decide,Ky];by_cases h:i<0
   ·grind
   ·grind
 ·cases a with
  | none=>simp [sliceBounds,HT.sIx]
  | some i=>
   simp only [sliceBounds,HT.sIx,Option.getD_none,show (1:Int) > 0 by decide,Ky];by_cases h:i<0
   ·grind
   ·grind
theorem bt (a:List Value) (lo b:Option Int):slicePick a.toArray lo b none=((a.drop (HT.sIx a.length 0 lo)).take (HT.sIx a.length a.length b-HT.sIx a.length 0 lo)).toArray:=by
 obtain ⟨c,d,e⟩:=dg lo b a.toArray.size;unfold slicePick;rw [c,d,e];simp only [sliceRange_one,pick_run,FR] <;> rfl
def EK (K:PySem.W.Frag):V->Option Int->Option Int->Hp->VK->Prop:=λx lo b H Q=>∃ a xs,x=.ref a/\SqL K H a xs/\∀ p,H p=none->Q (.ref p) (upd H p (.lst (mL xs lo b)))
theorem vR:SlR X (EK X.K):=by
 intro pins s σ H x v k l lo d m Q I j hs pl g h;obtain ⟨a,xs,rfl,f,q⟩:=h;cases j;obtain ⟨i,r,e,hz⟩:=I.list f;have c:=r.length;refine ⟨"list",_,slot_list_getitem.lookup,e.isList.typeIs,?_⟩;refine JQ e.isList hs pl g .none (by simp) ?_ (by rw [FR] <;> omega);rw [bt,<- c];refine ⟨.ref s.heap.objs.size,_,I.laid (λb ob q=>Ft _ q) (FH _) ?_,rfl,q _ (I.hok.fresh (FH _))⟩;exact ⟨Gd (X8 xs lo d) hz,_,0,(r.drop (HT.sIx xs.length 0 lo)).take (HT.sIx xs.length xs.length d-HT.sIx xs.length 0 lo),FJ _ rfl⟩
theorem dC:i5 X (.builtin "len") (λxs H Q=>∃ p ys,xs=[.ref p]/\(SqL X.K H p ys\/SqT X.K H p ys)/\Q (.int ys.length) H):=by
 intro pins s σ H xs us Q I r h;obtain ⟨p,ys,rfl,b,q⟩:=h;obtain ⟨u,rfl,e⟩:=K8 r;cases e;have f:=W4;rcases b with b | b
 ·obtain ⟨d,c,pl,hz⟩:=I.list b;have a:=c.length;exact Calls.call_len_list pl.isList (by simp <;> omega) ⟨.int ys.length,H,I.tok _,⟨s.toks+1,by rw [FR,a]⟩,q⟩
 ·obtain ⟨d,c,pl,hz⟩:=I.tuple b;have a:=c.length;exact len_tuple pl (by simp <;> omega) ⟨.int ys.length,H,I.tok _,⟨s.toks+1,by rw [FR,a]⟩,q⟩
theorem dG:i5 X (.builtin "len") (λxs H Q=>∃ z,xs=[.str z]/\z.length<=sizeLine/\Q (.int z.length) H):=by
 intro pins s σ H xs us Q I r h;obtain ⟨z,rfl,hz,q⟩:=h;obtain ⟨u,rfl,t,rfl⟩:=K8 r;have hn:=W4;exact len_str (by omega) ⟨.int z.length,H,I.tok _,⟨_,rfl⟩,q⟩
theorem dM:i5 X (.type "list") (λxs H Q=>∃ p ys,xs=[.ref p]/\(SqL X.K H p ys\/SqT X.K H p ys)/\∀ l,H l=none->Q (.ref l) (upd H l (.lst ys))):=by
 intro pins s σ H xs us Q I r h;obtain ⟨p,ys,rfl,j,q⟩:=h;obtain ⟨u,rfl,t⟩:=K8 r;cases t;have i:∀ (a:List Value),Vals ys a->ys.length<=sizeLine->∀ (h':Heap) (c:Nat),(∀ b o',s.heap.get? b=some o'->h'.get? b=some o') ->
   h'.get? s.heap.objs.size=some { cls:=.type "list",dict:=none,data:=.seq a.toArray c,slots:=#[] }->EP X pins σ Q (.ref s.heap.objs.size) { s with heap:=h' }:=λa d hz h' c g e=>
  ⟨.ref s.heap.objs.size,_,I.laid g (FH _) (show ObjOk X.prog X.w _ h' _ (.lst ys) from ⟨hz,a,c,d,e⟩),rfl,q _ (I.hok.fresh (FH _))⟩
 rcases j with j | j
 ·obtain ⟨a,d,pl,hz⟩:=I.list j;have f:=d.length;obtain ⟨o,k,m,n,hd⟩:=pl.isList;exact call_list_seq p (.inl rfl) k m hd (λh' c g e=>i a d hz h' c g e) (by simp <;> omega)
 ·obtain ⟨a,d,pl,hz⟩:=I.tuple j;have f:=d.length;obtain ⟨o,k,m,n,hd⟩:=pl;exact call_list_seq p (.inr rfl) k m hd (λh' c g e=>i a d hz h' c g e) (by simp <;> omega)
theorem O3:i5 X (.type "tuple") (λxs H Q=>∃ p ys,xs=[.ref p]/\((SqL X.K H p ys/\∀ l,H l=none->Q (.ref l) (upd H l (.tup ys)))\/(SqT X.K H p ys/\Q (.ref p) H))):=by
 intro pins s σ H xs us Q I r h;obtain ⟨p,ys,rfl,h⟩:=h;obtain ⟨u,rfl,k⟩:=K8 r;cases k;rcases h with ⟨c,q⟩ | ⟨c,q⟩
 ·obtain ⟨a,d,pl,hz⟩:=I.list c;have f:=d.length;refine call_tuple_list pl.isList (λh' i=>?_) (by simp <;> omega);have g:=I.kept (t':=s.toks) i;have j:Inv X pins σ (upd H h'.objs.size (.tup ys)) { s with heap:=h'.push { cls:=.type "tuple",data:=.seq a.toArray } }:=
   g.laid (λb o e=>Ft _ e) (FH _) (⟨hz,a,d,TupN.new _ _⟩)
  exact ⟨.ref h'.objs.size,_,j,rfl,q _ (g.hok.fresh (FH _))⟩
 ·obtain ⟨a,d,pl,hz⟩:=I.tuple c;exact call_tuple_same pl ⟨.ref p,H,I,rfl,q⟩
def tyV (K:PySem.W.Frag) (T:String) (x:V) (H:Hp):Prop:=match x with
 | .str _=>T = "str"
 | .int _=>T = "int"
 | .ref p=>(T = "list"/\∃ xs,SqL K H p xs)\/(T = "tuple"/\∃ o,K.lookup p=some o/\o.cls=.type "tuple"/\o.dict=none) \/
   (T = "dict"/\((∃ a,H p=some (.dK a))\/∃ a,H p=some (.dT a)))\/(T = "set"/\∃ S n,H p=some (.set S n))\/(T = "tuple"/\∃ xs,Rd H p (.tup xs))
 | _=>False
theorem yU {σ:St} {H:Hp} {s:Shared} {T:String} {x:V} {v:Value} (I:Inv X pins σ H s) (r:RelV x v) (ty:tyV X.K T x H) :
  s.TypeIs v T/\∀ a,v=.ref a->∃ ob,s.heap.get? a=some ob/\ob.dict=none:=by
 cases x with
 | str z=>
  obtain ⟨t,rfl⟩:=r;cases (ty);exact ⟨typeIs_str s z t,λ_ e=>nomatch e⟩
 | int i=>
  obtain ⟨t,rfl⟩:=r;cases (ty);exact ⟨IW s i t,λ_ e=>nomatch e⟩
 | ref p=>
  cases r;rcases ty with ⟨rfl,xs,hq⟩ | ⟨rfl,o,hk,hc,hd⟩ | ⟨rfl,hk⟩ | ⟨rfl,S,n,hk⟩ | ⟨rfl,xs,hk⟩
  ·obtain ⟨its,_,pl,_⟩:=I.list hq;refine ⟨pl.isList.typeIs,λa e=>?_⟩;cases e;obtain ⟨o,n,e,c,hd,_⟩:=pl;exact ⟨o,e,hd⟩
  ·refine ⟨⟨o,I.kIn p o hk,hc⟩,λa e=>?_⟩;cases e;exact ⟨o,I.kIn _ o hk,hd⟩
  ·have z:∃ o,s.heap.get? p=some o/\o.ExactDict:=by
    rcases hk with ⟨kvs,hk⟩ | ⟨kvs,hk⟩
    ·obtain ⟨_,_,_,_,o,_,_,e,ex,_⟩:=I.hok p _ hk;exact ⟨o,e,ex⟩
    ·obtain ⟨_,_,_,_,o,_,_,e,ex,_⟩:=I.hok p _ hk;exact ⟨o,e,ex⟩
   obtain ⟨o,e,ex⟩:=z;refine ⟨⟨o,e,ex.1⟩,λa e2=>?_⟩;cases e2;exact ⟨o,e,ex.2.1⟩
  ·obtain ⟨o,_,_,_,e,ex,_⟩:=I.hok p _ hk;refine ⟨⟨o,e,ex.1⟩,λa e2=>?_⟩;cases e2;exact ⟨o,e,ex.2.1⟩
  ·obtain ⟨_,its,_,o,e,c,n,_,hd⟩:=(hk.ok I.hok);exact ⟨⟨o,e,c⟩,λa e2=>by cases e2;exact ⟨o,e,hd⟩⟩
 | _=>exact False.elim ty
def tBM (K:PySem.W.Frag) (T:String) (r:V->List V->Hp->VK->Prop) (c:TE) (t:TA):TE:=λσ H Q=>c σ H λx a=>tyV K T x a/\t σ a λxs b=>r x xs b Q
variable {o e:Expr} {es:List Expr} {to:TE} {t:TA} {name:Str} {apos cpos:Pos} {T id:String} {r:V->List V->Hp->VK->Prop}
theorem wm (l:PlainAttrs T) (d:Slot T name id) (g:typeOf (.builtin id)=pure (.type "method_descriptor")) (z:MtR X id r) (C:PE X o to) (B:PA X (e :: es) t)
  (c:attributeBase o name X.env (eval o X.env)=eval o X.env:=by rfl)
  (f:((backTo cpos (starEach (e :: es) X.env)).all (λx=>!x.1)&&(backToKw cpos (keywordEach [] X.env)).all (λx=>x.1.isSome)
   && decide ((e :: es).length+([]:List Keyword).length+(if ([]:List Keyword).isEmpty then 0 else 1)<30))=true:=by rfl)
  (b:(apos.endLine==cpos.line)=true:=by rfl) (hs:starEach (e :: es) X.env=(false,eval e X.env) :: starEach es X.env:=by rfl) (a:(backTo cpos (starEach es X.env)).any (·.1)=false:=by rfl) :
  PE X (.Call (.Attribute o name apos) (e :: es) [] cpos) (tBM X.K T r to t):=by
 intro pins s σ H Q I h;refine wpAny_Call_method_late c f b rfl (thn (C pins s σ H _ I h) λv p ⟨x,w,j,k,q,A⟩=>?_);obtain ⟨m,y⟩:=yU j k q;refine ⟨T,id,l,d,g,m,y,?_⟩;have i:=B cpos pins p σ w _ j A;rw [hs] at i ⊢;refine Calls.callWith_builtin (by show (false||(backTo cpos (starEach es X.env)).any (·.1))=false;rw [a] <;> rfl) (Calls.evalArgs_plain ?_);exact thn i λus E ⟨vs,F,D,u,n⟩=>z pins E σ F x vs v us Q D k u n
end
def MtM (X:Cx) (id:String) (r:V->List V->Hp->VK->Prop):Prop:=
 ∀ (pins:List (Addr×Obj)) (s:Shared) (σ:St) (H:Hp) (x:V) (xs:List V) (v:Value) (us:List Value) (Q:VK),Inv X pins σ H s->RelV x v->Vals xs us->r x xs H Q ->
  wpAny (model X.prog X.w) X.A (call (.builtin id) (v :: us)) (EP X pins σ Q) X.xe s
theorem Vals.one:∀ {x:V} {us:List Value},Vals [x] us->∃ u,us=[u]/\RelV x u
 | _,_,.cons r .nil=>⟨_,rfl,r⟩
theorem Vals.eraseIdx:∀ {xs:List V} {us:List Value} (i:Nat),Vals xs us->Vals (xs.eraseIdx i) (us.eraseIdx i)
 | _,_,_,.nil=>.nil
 | _,_,0,.cons _ t=>t
 | _,_,i+1,.cons r t=>.cons r (Vals.eraseIdx i t)
theorem Vals.rep (h:Vals xs us):∀ k:Nat,Vals (List.replicate k xs).flatten (List.replicate k us).flatten
 | 0=>.nil
 | k+1=>by
  rw [Hj,Hj,HY,HY];exact Vals.append h (Vals.rep h k)
theorem cJ {a:Type}:∀ (l:List a) (i:Nat),(l.eraseIdx i).length<=l.length
 | [],_=>FH _
 | _ :: _,0=>GK _
 | _ :: r,i+1=>Nat.succ_le_succ (cJ r i)
theorem V8 (b:List Value):∀ (k:Nat) (a:List Value),
  List.foldl (λf c=>f++c) a.toArray (List.replicate k b.toArray)=(a++(List.replicate k b).flatten).toArray
 | 0,a=>by simp
 | k+1,a=>by
  have e:a.toArray++b.toArray=(a++b).toArray:=by simp
  have d:(a++b)++(List.replicate k b).flatten=a++(List.replicate (k+1) b).flatten:=by
   rw [Hj,HY,GG]
  rw [<- d,<- V8 b k (a++b),<- e,Hj,List.foldl_cons]
section
variable {X:Cx} {pins:List (Addr×Obj)} {σ:St} {H:Hp} {s:Shared} {l b:Addr} {xs ys zs:List V}
theorem Inv.lset {a its':List Value} {n:Nat} {f:Array Value->Array Value} {t':Nat} (I:Inv X pins σ H s) (c:H l=some (.lst xs))
  (e:s.heap.get? l=some { cls:=.type "list",data:=.seq a.toArray n }) (b:f a.toArray=its'.toArray) (g:Vals ys its') (hz:ys.length<=sizeLine) :
  Inv X pins σ (upd H l (.lst ys)) { s with heap:=s.heap.update l (Obj.mapSeq f),toks:=t' }:=by
 have q:=PySem.IsL.update e f;rw [b] at q;refine I.write (by rw [c];exact trivial) (.inl rfl) (λi u d h=>(GU s.heap (Obj.mapSeq f) (Ne.symm d)).trans h) ⟨_,q⟩ ?_;exact ⟨hz,its',_,g,q⟩
theorem Inv.lnew (I:Inv X pins σ H s) (a:Vals ys its) (hz:ys.length<=sizeLine) :
  Inv X pins σ (upd H s.heap.objs.size (.lst ys)) { s with heap:=s.heap.push { cls:=.type "list",data:=.seq its.toArray },toks:=t' }:=
 I.laid (λ_ _ q=>Ft _ q) (FH _) ⟨hz,its,0,a,FJ _ rfl⟩
theorem Inv.fresh (I:Inv X pins σ H s):H s.heap.objs.size=none:=I.hok.fresh (FH _)
theorem Inv.lstM (I:Inv X pins σ H s) (b:H l=some (.lst xs)):xs.length<=sizeLine/\∃ (a:List Value) (n:Nat),Vals xs a/\xs.length=a.length/\s.heap.get? l=some { cls:=.type "list",data:=.seq a.toArray n }:=by
 obtain ⟨z,a,n,r,e⟩:=I.hok l _ b;exact ⟨z,a,n,r,r.length,e⟩
theorem pf (h:n<=sizeLine):Builtin.List.listTooLong n=false:=by
 unfold Builtin.List.listTooLong;grind
end
section
variable {X:Cx}
def rAppend:V->List V->Hp->VK->Prop:=λx vs H Q=>∃ l xs y,x=.ref l/\vs=[y]/\H l=some (.lst xs)/\xs.length<sizeLine/\Q .non (upd H l (.lst (xs++[y])))
theorem M8:MtM X "list.append" rAppend:=by
 intro pins s σ H x vs v us Q I d f h;obtain ⟨l,xs,y,rfl,rfl,b,hz,q⟩:=h;cases d;obtain ⟨u,rfl,c⟩:=f.one;obtain ⟨z,a,n,r,g,e⟩:=I.lstM b;refine Ic F.slot_list_append ⟨_,e,rfl⟩ F.entry_list_append (F.args_list_append_2 _ _) (PySem.list_append l a.toArray n u (by rw [FR];omega)) ⟨e,?_⟩;refine ⟨.non,_,I.lset b e (by simp) (r.append (.cons c .nil)) ?_,rfl,q⟩;grind
def rPopAt:V->List V->Hp->VK->Prop:=λx vs H Q=>∃ l xs i k y,x=.ref l/\vs=[.int i]/\H l=some (.lst xs)/\-(2 ^ 63)<=i/\i<2 ^ 63/\seqIndex? i xs.length=some k/\xs[k]?=some y/\Q y (upd H l (.lst (xs.eraseIdx k)))
theorem nz:MtM X "list.pop" rPopAt:=by
 intro pins s σ H x vs v us Q I rx rv h;obtain ⟨l,xs,i,k,y,rfl,rfl,hH,h1,h2,hk,hy,q⟩:=h;cases rx;obtain ⟨u,rfl,ru⟩:=rv.one;obtain ⟨t,rfl⟩:=ru;obtain ⟨z,its,n,r,hl,e⟩:=I.lstM hH;obtain ⟨w,hw,rw'⟩:=r.get hy;refine Ic F.slot_list_pop ⟨_,e,rfl⟩ F.entry_list_pop (F.args_list_pop_2 _ _)
  (MeetsSeq.list_pop_at l its.toArray n i t k w (fitsIndex_both h1 h2) (by rw [FR,<- hl];exact hk) (by rw [<- Hu];exact hw) (by rw [FR];omega)) ⟨e,?_⟩
 refine ⟨y,_,I.lset (its':=its.eraseIdx k) hH e ?_ (r.eraseIdx k) ?_,rw',q⟩
 ·show its.toArray.eraseIdxIfInBounds k=(its.eraseIdx k).toArray;rw [List.eraseIdxIfInBounds_toArray]
 ·have:=cJ xs k;omega
def rCat:R2:=λx y H Q=>∃ l b xs a,x=.ref l/\y=.ref b/\H l=some (.lst xs)/\H b=some (.lst a)/\xs.length+a.length<=sizeLine/\∀ p,H p=none->Q (.ref p) (upd H p (.lst (xs++a)))
theorem xk:OpR X (binaryOp .Add) rCat:=by
 intro pins s σ H x y v u Q I m k h;obtain ⟨l,b,xs,A,rfl,rfl,o,g,hz,q⟩:=h;cases m;cases k;obtain ⟨z,c,n,r,t,e⟩:=I.lstM o;obtain ⟨p,a,w,f,j,i⟩:=I.lstM g;refine PySem.P.add_list e i ?_ (by rw [FR,FR];omega);have d:c.toArray++a.toArray=(c++a).toArray:=by simp
 rw [d];exact ⟨.ref _,_,I.lnew (r.append f) (by rw [GS];omega),rfl,q _ I.fresh⟩
def rRep:R2:=λx y H Q=>∃ l k xs,x=.ref l/\y=.int k/\H l=some (.lst xs)/\-(2 ^ 63)<=k/\k<2 ^ 63/\xs.length * k.toNat<=sizeLine /\
 ∀ p,H p=none->Q (.ref p) (upd H p (.lst (List.replicate k.toNat xs).flatten))
theorem kQ {a:Type} (xs:List a) (k:Nat):(List.replicate k xs).flatten.length=k * xs.length:=by simp_all
theorem zk:OpR X (binaryOp .Mult) rRep:=by
 intro pins s σ H x y v u Q I rx ry h;obtain ⟨l,k,xs,rfl,rfl,hH,h1,h2,hz,q⟩:=h;cases rx;obtain ⟨t,rfl⟩:=ry;obtain ⟨z,its,n,r,hl,e⟩:=I.lstM hH;have hlen:its.toArray.size * k.toNat<=sizeLine:=by rw [FR,<- hl];exact hz
 have hcap:¬ its.toArray.size * k.toNat > (2 ^ 63-1) / 8:=by
  have:(sizeLine:Nat)<=(2 ^ 63-1) / 8:=by decide
  omega
 have hfit:¬ (!Builtin.List.listFitsIndex k)=true:=by
  rw [fitsIndex_both h1 h2];exact Fz
 have hlong:¬ Builtin.List.listTooLong (its.toArray.size * k.toNat)=true:=by
  rw [pf hlen];exact Fz
 have hnew:List.foldl (λx1 x2=>x1++x2) #[] (List.replicate (if its.toArray.isEmpty=true then 0 else k.toNat) its.toArray)=(List.replicate k.toNat its).flatten.toArray:=by
  have f0:=λm=>by
   have:=V8 its m [];rw [List.nil_append] at this;exact this
  rw [f0];cases its with
  | nil=>simp
  | cons a r'=>rw [if_neg (by simp)]
 refine Il (by decide) ⟨_,e,rfl⟩ (λs'=>IW s' k t) noFill_list_mul F.fills_int_mul F.slot_int_rmul repeat_list F.slot_int_index.lookup
  (Ic F.slot_int_rmul (IW s k t) F.entry_int_rmul (F.args_int_rmul_2 _ _) (int___rmul___int_list k t l its.toArray n)
   ⟨e,rfl,⟨_,e,rfl⟩,Ic F.slot_list_mul ⟨_,e,rfl⟩ F.entry_list_mul (F.args_list_mul_2 _ _) (AutoListH.list___mul___list_int_3 l its.toArray n k t hfit hcap hlong) ⟨e,?_⟩⟩)
 rw [hnew];exact ⟨.ref _,_,I.lnew (r.rep k.toNat) (by rw [kQ,Nat.mul_comm];exact hz),rfl,q _ I.fresh⟩
end
section
variable {κ:Type} [DecidableEq κ]
def Z8 (a:List (κ×V)) (k:κ):Option V:=(a.find? λb=>decide (b.1=k)).map (·.2)
def u9 (a:List (κ×V)) (k:κ) (v:V):List (κ×V):=
 if (a.any λb=>decide (b.1=k))=true then a.map (λb=>if b.1=k then (b.1,v) else b) else a++[(k,v)]
theorem Q3 {k:κ} (e:p.1=k):Z8 (p :: r) k=some p.2:=by simp [Z8,HA,e]
theorem R0 {k:κ} (e:¬ p.1=k):Z8 (p :: r) k=Z8 r k:=by simp [Z8,HA,e]
theorem fX (k:κ):∀ a:List (κ×V),(a.any λb=>decide (b.1=k))=(Z8 a k).isSome
 | []=>rfl
 | p :: r=>by
  rw [Hq];by_cases e:p.1=k
  ·simp only [Q3 e,FM e,Bool.true_or,Option.isSome_some]
  ·rw [R0 e,FV e,Bool.false_or];exact fX k r
theorem L0 (a:List (κ×V)) (k:κ) (v:V):(u9 a k v).length<=a.length+1:=by
 unfold u9;grind
theorem RelO.isSome_eq (r:RelO o u):o.isSome=u.isSome:=by
 cases o with
 | none=>cases u with
  | none=>rfl
  | some _=>exact (r).elim
 | some _=>cases u with
  | none=>exact (r).elim
  | some _=>rfl
theorem KV.val (r:KV kvs vs) (k:κ):RelO (Z8 kvs k) (valueAt vs k):=by
 induction r with
 | nil=>exact True.intro
 | @cons p q ps a h t g=>
  obtain ⟨d,f⟩:=h;by_cases e:p.1=k
  ·have c:=d.symm.trans e;have b:valueAt (q :: a) k=some q.2:=by simp [valueAt,HA,c]
   rw [Q3 e,b];exact f
  ·have c:¬ q.1=k:=λz=>e (d.trans z);have b:valueAt (q :: a) k=valueAt a k:=by simp [valueAt,HA,c]
   rw [R0 e,b];exact g
theorem KV.any {kvs:List (κ×V)} {vs:List (κ×Value)} (r:KV kvs vs) (k:κ):(kvs.any λkv=>decide (kv.1=k))=vs.any λkv=>decide (kv.1=k):=by
 unfold KV at r;induction r with
 | nil=>rfl
 | cons h t ih=>rw [Hq,Hq,ih,h.1]
theorem KV.repl (r:KV kvs vs) (k:κ) {y:V} {u:Value} (d:RelV y u) :
  KV (kvs.map λa=>if a.1=k then (a.1,y) else a) (vs.map λa=>if a.1=k then (a.1,u) else a):=by
 induction r with
 | nil=>exact .nil
 | @cons p q ps g h t b=>
  rw [Gk,Gk];refine .cons ?_ b;obtain ⟨c,f⟩:=h;by_cases e:p.1=k
  ·grind
  ·grind
theorem KV.put (r:KV kvs vs) (k:κ) {y:V} {u:Value} (a:RelV y u):KV (u9 kvs k y) (stored vs k u):=by
 unfold u9 stored;rw [r.any k];by_cases e:(vs.any λb=>decide (b.1=k))=true
 ·rw [if_pos e,if_pos e];exact r.repl k a
 ·rw [if_neg e,if_neg e];exact Paired.snoc r ⟨rfl,a⟩
theorem KV.length {vs:List (κ×Value)} (r:KV kvs vs):kvs.length=vs.length:=Paired.length r
end
theorem jy {k:Key} {u:Value} (r:RelV (kV k) u):(j5 P w).is k u=true:=by
 cases k with
 | inl i=>obtain ⟨t,e⟩:=(r);subst e;exact eY P w i t
 | inr x=>obtain ⟨t,e⟩:=(r);subst e;exact eQ P w x t
theorem cw:∀ {a:List Key} {us:List Value},Vals (a.map kV) us->ItemsAre (j5 P w) a us
 | [],_,r=>by rw [List.map_nil] at r;cases r;exact .nil
 | k :: a,_,r=>by
  rw [Gk] at r;cases r with
  | cons h t=>exact .cons (jy h) (cw t)
abbrev KT (H:Hp):List (List Key×V)->List (List Key×Addr×Value)->Prop:=Paired λp q=>p.1=q.1/\H q.2.1=some (.tup (p.1.map kV))/\RelV p.2 q.2.2
theorem KT.val (r:KT H kvs xs) (k:List Key):RelO (Z8 kvs k) ((atKey xs k).map (·.2)):=by
 induction r with
 | nil=>exact True.intro
 | @cons p q ps a h t g=>
  obtain ⟨d,_,f⟩:=h;by_cases e:p.1=k
  ·have c:=d.symm.trans e;have b:atKey (q :: a) k=some q.2:=by simp [atKey,HA,c]
   rw [Q3 e,b];exact f
  ·have c:¬ q.1=k:=λz=>e (d.trans z);have b:atKey (q :: a) k=atKey a k:=by simp [atKey,HA,c]
   rw [R0 e,b];exact g
theorem KT.repl {H:Hp} {kvs:List (List Key×V)} {xs:List (List Key×Addr×Value)} (r:KT H kvs xs) (k:List Key) {y:V} {u:Value} (ry:RelV y u) :
  KT H (kvs.map λkv=>if kv.1=k then (kv.1,y) else kv) (xs.map (putAt k u)):=by
 induction r with
 | nil=>exact .nil
 | @cons p q ps qs h t ih=>
  rw [Gk,Gk];refine .cons ?_ ih;obtain ⟨h1,h2,h3⟩:=h;unfold putAt;by_cases e:p.1=k
  ·rw [if_pos e,if_pos (h1.symm.trans e)];exact ⟨h1,h2,ry⟩
  ·rw [if_neg e,if_neg (λz=>e (h1.trans z))];exact ⟨h1,h2,h3⟩
theorem KT.put (r:KT H kvs xs) (k:List Key) {b:Addr} {y:V} {u:Value} (c:H b=some (.tup (k.map kV))) (a:RelV y u) :
  KT H (u9 kvs k y) (storedH xs k b u):=by
 have e:(kvs.any λd=>decide (d.1=k))=(atKey xs k).isSome:=by
  rw [fX,(r.val k).isSome_eq,Option.isSome_map]
 unfold u9 storedH;rw [e];by_cases q:(atKey xs k).isSome=true
 ·rw [if_pos q,if_pos q];exact r.repl k a
 ·rw [if_neg q,if_neg q];exact Paired.snoc r ⟨rfl,c,a⟩
theorem KT.keeps {a:List (List Key×V)} {xs:List (List Key×Addr×Value)} (r:KT H a xs) (c:∀ b ys,H b=some (.tup ys)->H' b=some (.tup ys)):KT H' a xs:=
 Paired.mapP r λ_ _ z=>⟨z.1,c _ _ z.2.1,z.2.2⟩
section
variable {P:Program} {w:World} {H:Hp} {h:Heap} {a:Addr}
theorem xB (b:HOk P w H h) (e:Rd H a u):ObjOk P w H h a u:=e.ok b
theorem kG (b:HOk P w H h) (e:Rd H a (.dK kvs)):kvs.length<=sizeLine/\(a==sysModules)=false/\∃ vs,KV kvs vs/\h.DictOf (j5 P w) a vs:=
 xB b e
theorem wc (b:HOk P w H h) (e:H a=some (.dK kvs)):kvs.length<=sizeLine/\(a==sysModules)=false/\∃ vs,KV kvs vs/\h.DictOf (j5 P w) a vs:=kG b (.inl e)
theorem iG (g:HOk P w H h) (e:H a=some (.tup (ks.map kV))):(tupleKind (j5 P w)).is h ks a:=by
 obtain ⟨_,b,r,o,c,d,n,f⟩:=(g a _ e);exact ⟨o,b.toArray,n,c,d,f.1,by simpa using cw r⟩
theorem pR (d:HOk P w H h) (e:Rd H a (.dT kvs)):kvs.length<=sizeLine/\(a==sysModules)=false /\
  ∃ xs,KT H kvs xs/\h.DictOfH (tupleKind (j5 P w)) a xs:=by
 obtain ⟨z,y,xs,r,o,es,s,g,j,n,i,u⟩:=(xB d e);refine ⟨z,y,xs,r,o,es,s,g,j,n,i,λx b=>?_,u⟩;have f:∀ {l:List (List Key×V)} {m:List (List Key×Addr×Value)},KT H l m->∀ x∈m,(tupleKind (j5 P w)).is h x.1 x.2.1:=by
  intro l m q;induction q with
  | nil=>intro x b;exact nomatch b
  | @cons p q ps v c t k=>
   intro x b;rcases FP.mp b with e | b
   ·subst e;exact iG d (by rw [<- c.1];exact c.2.1)
   ·exact k x b
 grind
theorem Aw (b:HOk P w H h) (e:H a=some (.dT kvs)):kvs.length<=sizeLine/\(a==sysModules)=false /\
  ∃ xs,KT H kvs xs/\h.DictOfH (tupleKind (j5 P w)) a xs:=pR b (.inl e)
end
def DGet (H:Hp) (a:Addr) (y:V) (r:Option V):Prop:=
 (∃ c k,Rd H a (.dK c)/\y=kV k/\r=Z8 c k)\/∃ c k b,Rd H a (.dT c)/\y=.ref b/\H b=some (.tup (k.map kV))/\r=Z8 c k
def DPut (H:Hp) (a:Addr) (y v:V) (H':Hp):Prop:=
 (∃ c k,H a=some (.dK c)/\y=kV k/\c.length<sizeLine/\H'=upd H a (.dK (u9 c k v))) \/
 ∃ c k b,H a=some (.dT c)/\y=.ref b/\H b=some (.tup (k.map kV))/\c.length<sizeLine/\H'=upd H a (.dT (u9 c k v))
theorem DGet.k {k:Key} (e:H a=some (.dK kvs)):DGet H a (kV k) (Z8 kvs k):=.inl ⟨kvs,k,.inl e,rfl,rfl⟩
theorem DPut.k {k:Key} {v:V} (e:H a=some (.dK kvs)) (b:kvs.length<sizeLine):DPut H a (kV k) v (upd H a (.dK (u9 kvs k v))):=.inl ⟨kvs,k,e,rfl,b,rfl⟩
section
variable {X:Cx} {pins:List (Addr×Obj)} {σ:St} {H:Hp} {s:Shared} {a:Addr} {y v:V} {u r:Value} {o:Option V} {A:Around} {E:Value->Shared->Prop}
theorem Inv.big (I:Inv X pins σ H s):sysModules<s.heap.objs.size:=by
 have h:=(I.mod.glob.keeps I.bk).lt;exact Nat.lt_trans (by decide) h
theorem lJ (t:A.units+1<cLine) (I:Inv X pins σ H s) (g:DGet H a y (some v)) (o:RelV y u) (h:∀ w' s',Inv X pins σ H s'->RelV v w'->Q w' s') :
  wpAny (model X.prog X.w) A (getItem (.ref a) u) Q E s:=by
 rcases g with ⟨n,k,e,i,l⟩ | ⟨n,k,b,e,i,q,l⟩
 ·subst i;obtain ⟨z,hd,vs,d,f⟩:=kG I.hok e;obtain ⟨w',m,c⟩:=RelO.some_of (by rw [l];exact d.val k);exact wpAny_getItem_of (jy o) f.mapOf m (h w' _ (I.tok _) c)
 ·subst i;cases (o);obtain ⟨z,hd,xs,d,f⟩:=pR I.hok e;obtain ⟨w',m,c⟩:=RelO.some_of (by rw [l];exact d.val k);obtain ⟨p,r,j⟩:=HK.mp m;refine wpAny_getItem_heap (tupleKind_room_in1 t) (iG I.hok q) f r ?_;rw [j];exact h w' _ (I.tok _) c
theorem dq {ob:HO} (I:Inv X pins σ H s) (e:Mut (H a)) (hs:Heap.SameBut a s.heap h') (d:∃ q,h'.get? a=some q) (c:ObjOk X.prog X.w (upd H a ob) h' a ob) :
  Inv X pins σ (upd H a ob) { s with heap:=h',toks:=t' }:=
 I.write e (.inl rfl) (λb q f z=>(hs.2 b f).trans z) d c
theorem qX {b:List (Key×V)} {vs:List (Key×Value)} (z:b.length<=sizeLine) (hd:(a==sysModules)=false) (c:KV b vs) (d:h'.DictOf (j5 P w) a vs) :
  ObjOk P w H' h' a (.dK b):=⟨z,hd,vs,c,d⟩
theorem mP (L:A.units+1<cLine) (I:Inv X pins σ H s) (g:DPut H a y v H') (w:RelV y u) (B:RelV v r) (h:∀ s',Inv X pins σ H' s'->Q () s') :
  wpAny (model X.prog X.w) A (setItem (.ref a) u r) Q E s:=by
 rcases g with ⟨d,k,e,p,l,n⟩ | ⟨d,k,b,e,p,t,l,n⟩
 ·subst p n;obtain ⟨z,hd,vs,f,o⟩:=wc I.hok e;have hz:vs.length<=sizeLine:=by rw [<- f.length];exact z
  have m:(u9 d k v).length<=sizeLine:=by have:=L0 d k v;omega
  refine wpAny_setItem_pairs (jy w) o λh' i hs=>h _ ?_;have D:∃ q,h'.get? a=some q:=let ⟨q,_,_,j,_⟩:=i;⟨q,j⟩
  exact dq I (by rw [e];exact True.intro) hs D (qX m hd (f.put k B) i)
 ·subst p n;cases (w);obtain ⟨z,hd,xs,f,o⟩:=Aw I.hok e;have hz:xs.length<=sizeLine:=by rw [<- Paired.length f];exact z
  have m:(u9 d k v).length<=sizeLine:=by have:=L0 d k v;omega
  refine wpAny_setItem_heap (tupleKind_room_in1 L) (iG I.hok t) o λh' i hs=>h _ ?_;obtain ⟨q,es,F,j,J,K,C,_,G⟩:=i;refine dq I (by rw [e];exact True.intro) hs ⟨q,j⟩ ⟨m,hd,_,(f.put k t B).keeps λc ys x=>?_,q,es,F,j,J,K,C,G⟩;rw [a8 (jc x e (λz=>nomatch z))];exact x
end
section
variable {X:Cx} {pins:List (Addr×Obj)} {σ:St} {H:Hp} {s:Shared} {a:Addr} {kvs:List (Key×V)} {k:Key} {u:Value} {A:Around} {E:Value->Shared->Prop}
theorem Dk (I:Inv X pins σ H s) (e:Rd H a (.dK kvs)) (h:∀ t s',Inv X pins σ H s'->Q (.int kvs.length t) s'):wpAny (model X.prog X.w) A (call (.builtin "len") [.ref a]) Q E s:=by
 obtain ⟨z,hd,vs,b,c⟩:=kG I.hok e;refine call_len_dict hd c (by rw [<- b.length];rw [Gf] at z;omega) ?_;rw [<- b.length];exact h _ _ (I.tok _)
end
theorem fw {σ:St} {H:Hp} {s:Shared} {a:Addr} {y:V} {o:Option V} (I:Inv X pins σ H s) (g:DGet H a y o):s.TypeIs (.ref a) "dict":=by
 rcases g with ⟨d,k,e,_,_⟩ | ⟨d,k,b,e,_,_,_⟩
 ·obtain ⟨_,_,vs,_,c⟩:=kG I.hok e;exact c.typeIs
 ·obtain ⟨_,_,xs,_,c⟩:=pR I.hok e;exact c.typeIs
theorem nv (h:Heap) (a:sysModules<h.objs.size):ObjOk P w H (h.push { cls:=.type "dict",data:=.dict #[] }) h.objs.size (.dK []):=
 ⟨Gu _,Hi.mpr (Ne.symm (FN a)),[],.nil,Heap.DictOf.new h⟩
def dn:List (TE×TE)->St->Hp->(List (V×V)->Hp->Prop)->Prop
 | [],_,H,Q=>Q [] H
 | (d,a) :: r,σ,H,Q=>d σ H λx c=>a σ c λy e=>dn r σ e λps b=>Q ((x,y) :: ps) b
abbrev VV:List (V×V)->List (Value×Value)->Prop:=Paired λp q=>RelV p.1 q.1/\RelV p.2 q.2
def PPs (X:Cx) (pos:Pos) (b:List (Option Expr)) (a:List Expr) (c:List (TE×TE)):Prop:=
 ∀ (pins:List (Addr×Obj)) (s:Shared) (σ:St) (H:Hp) (Q:List (V×V)->Hp->Prop),Inv X pins σ H s->dn c σ H Q ->
  wpAny (model X.prog X.w) X.A (evalPairs (pairTrees b a X.env pos)) (λvs s'=>∃ ps H',Inv X pins σ H' s'/\VV ps vs/\Q ps H') X.xe s
theorem tQ:PPs X pos [] [] []:=λpins s σ H Q I h=>pairTrees_nil_walk ⟨[],H,I,.nil,h⟩
theorem qN {k v:Expr} {d:List (Option Expr)} {vs:List Expr} {e c:TE} {a:List (TE×TE)} (f:PE X k e) (m:PE X v c) (j:PPs X pos d vs a) :
  PPs X pos (some k :: d) (v :: vs) ((e,c) :: a):=λpins s σ H Q I h=>
 pairTrees_cons_walk (thn (f pins s σ H _ I h) λu l ⟨x,p,n,r,t⟩=>thn (m pins l σ p _ n t) λC A ⟨y,B,w,g,i⟩=>
  thn (j pins A σ B _ w i) λws D ⟨ps,z,o,b,q⟩=>⟨(x,y) :: ps,z,o,.cons ⟨r,g⟩ b,q⟩)
def O9 (c a:List (Key×V)):List (Key×V):=a.foldl (λb d=>u9 b d.1 d.2) c
theorem KV.merge:∀ {a:List (Key×V)} {rs:List (Key×Value)} {b:List (Key×V)} {vs:List (Key×Value)},KV a rs->KV b vs->KV (O9 b a) (merged vs rs):=by
 intro a rs b vs r;induction r generalizing b vs with
 | nil=>intro q;exact q
 | @cons p q ps f h t c=>
  intro d;have e:KV (u9 b p.1 p.2) (stored vs q.1 q.2):=by
   have:=d.put p.1 h.2;rw [<- h.1];exact this
  exact c e
theorem N9:∀ (b a:List (Key×V)),(O9 a b).length<=a.length+b.length
 | [],a=>by show a.length<=a.length+0;omega
 | p :: r,a=>by
  have d:=N9 r (u9 a p.1 p.2);have c:=L0 a p.1 p.2;show (O9 (u9 a p.1 p.2) r).length<=_;rw [Hs];omega
theorem bY:∀ {d:List (Key×V)} {ws:List (Value×Value)},VV (d.map λe=>(kV e.1,e.2)) ws->∃ rs,Carries (j5 P w) ws rs/\KV d rs
 | [],_,r=>by rw [List.map_nil] at r;cases r;exact ⟨[],True.intro,.nil⟩
 | p :: d,_,r=>by
  rw [Gk] at r;cases r with
  | @cons a b j i h t=>
   obtain ⟨rs,c,q⟩:=bY t;obtain ⟨g,f⟩:=b;exact ⟨(p.1,f) :: rs,⟨jy h.1,rfl,c⟩,.cons ⟨rfl,h.2⟩ q⟩
def Al (b:List (TE×TE)):TE:=λσ H Q=>∀ p,H p=none->dn b σ (upd H p (.dK [])) λps c=>c p=some (.dK [])/\∃ a:List (Key×V),ps=a.map (λd=>(kV d.1,d.2))/\a.length<=15/\Q (.ref p) (upd c p (.dK (O9 [] a)))
theorem ve (h:PPs X pos keys values trs) (d:keys.all (·.isSome)=true) (k:keys.length=values.length) (u:keys≠[])
  (f:keys.length<=15):PE X (.Dict keys values pos) (Al trs):=by
 intro pins s σ H Q I q;have t:=I.hok.fresh (FH s.heap.objs.size);have p:=I.laid (t':=s.toks) (λ_ _ q=>Ft _ q) (FH _) (nv s.heap I.big);refine wpAny_Dict_walk (knd:=j5 X.prog X.w) d k u f (thn (h pins _ σ _ _ p (q _ t)) λws A ⟨ps,B,i,g,e,a,r,y,l⟩=>?_);subst r;obtain ⟨rs,c,n⟩:=bY g;obtain ⟨z,hd,x,m,v⟩:=wc i.hok e;cases m;refine ⟨rs,c,v,λh' b hs=>⟨.ref s.heap.objs.size,_,?_,rfl,l⟩⟩;have hz:(O9 [] a).length<=sizeLine:=by
  have j:=N9 a [];rw [Kh] at j;rw [Gf];omega
 have o:∃ q,h'.get? s.heap.objs.size=some q:=let ⟨q,_,_,w,_⟩:=b;⟨q,w⟩
 exact dq i (by rw [e];exact True.intro) hs o (qX hz hd (n.merge .nil) b)
end L2
namespace Att
open PySem PySem.W PySem.Calls PyProof.Rows
theorem Z7:∀ (ns:List Int) (vs:List Value),WellAll P h vs (ns.map WData.int)->IntsAre vs ns:=by
 intro ns;induction ns with
 | nil=>
  intro vs w;rw [List.map_nil] at w;cases w;exact .nil
 | cons n ns c=>
  intro vs w;rw [Gk] at w;cases w with
  | cons a b=>
   cases a;exact .cons _ _ (c _ b)
theorem lw {l:OpenLaw} {n:Nat} (hn:l.most=some n) {P:Params} {h:Heap} {args:List WData} {vals:List Value}
  (hpre:l.row.toRowW.claim.pre args=true) (hwl:WellAll P h vals args) :
  ∃ a vs ns,vals=[Value.ref a]/\args=[WData.list (ns.map WData.int)]/\h.get? a=some { cls:=.type "list",data:=.seq vs.toArray }/\IntsAre vs ns/\ns.length<=n:=by
 have hsh:=(pre_splitW hpre).1;have hc:=(pre_splitW hpre).2;obtain ⟨d,r,rfl,h1,h2⟩:=hasAllW_cons hsh;obtain rfl:=hasAllW_nil h2;obtain ⟨xs,rfl,h3⟩:=hasW_list h1;obtain ⟨ns,rfl⟩:=items_int h3;have hlen:ns.length<=n:=by
  have h4:(WTm.not (.lt (.lit (.int (n:Int))) (.len (.arg 0)))).holds [] { args:=[.list (ns.map .int)] }=true:=by
   have h4:=(holds_andW hc).1;rw [hn] at h4;exact h4
  have h5:=condW_of h4 (w_not (w_lt w_lit (w_len_list (w_arg rfl))));rw [Fu] at h5;refine Ij λq=>?_;have q':(n:Int)<((ns.length:Nat):Int):=by omega
  first
   | (rw [FM q'] at h5;exact absurd h5 (by decide))
   | (simp at h5;omega)
 cases hwl with
 | cons w1 w2=>
  cases w2;cases w1 with
  | list ho hall=>exact ⟨_,_,ns,rfl,rfl,ho,Z7 ns _ hall,hlen⟩
theorem lg (l:OpenLaw) (a:List WData):l.row.toRowW.claim.post a (.bool true) a=true:=
 postW_of
  (show WShape.has [] (.bool true) .bool=true by first | rfl | decide | simp [WShape.has,WShape.arms,WShape.armsAll])
  (w_eq_bool (w_res rfl) w_lit) rfl
theorem attach_call {l:OpenLaw} {n:Nat} {q:Program} {e:List Str} {H:(Str->Option Value)->Heap->Prop} {D:World->Heap->Prop} {d:DefRec}
  (M:l.most=some n) (z:d.params.defaults=[])
  (k:∀ (w:World) (c b:Shared) (s A:Str->Option Value) (m:Addr) (o:Obj) (x t g:Value) (a:Addr) (vs:List Value) (ns:List Int),
   Ground q e [] H w c s A b.heap->D w b.heap ->
   b.heap.get? m=some o->o.data=.func (docDef d.name d.params d.body d.scope x t g)->b.heap.CodeRec t d.name->s d.name=some (.ref m) ->
   b.heap.get? a=some { cls:=.type "list",data:=.seq vs.toArray }->IntsAre vs ns->ns.length<=n->b.gens=#[] ->
   codeAny (model l.prog w) callerA (.call (.ref m) ⟨[.ref a],[]⟩) (λr s'=>r=.ok (.ret (.bool true))/\OldK b.heap s'.heap/\s'.os=b.os/\AllBare s'.gens) b) :
  WalkO q e H D l.row.toRowW d [] (λf vs=>PySem.call f vs):=by
 intro w c b s A G Y m o x t g L I Q hd y B v S E C U j F P u K;obtain rfl:L=.none:=Dflts.none B z;obtain rfl:I=.none:=Dflts.noKw B;obtain ⟨a,vs,ns,rfl,rfl,i,h,p⟩:=lw M j u;refine enter_call (Hm (k w c b s A m o x t g a vs ns G Y Q (fd_plain hd) y v i h p S) λr s' R=>?_);obtain ⟨rfl,N,T,J⟩:=R;exact ⟨.inl ⟨.bool true,.bool true,[],rfl,λ_=>rfl,.bool true,lg l _,λ_=>⟨List.Pairwise.nil,λ_ O=>(nomatch O)⟩⟩,N,T,J⟩
end Att
namespace L2
open PySem PySem.Spec PyProof.Rows
theorem ce:∀ {vs:List Value} {ns:List Int},IntsAre vs ns->Vals (ns.map V.int) vs
 | _,_,.nil=>.nil
 | _,_,.cons n t h=>.cons ⟨t,rfl⟩ (ce h)
def Ae (H:Hp):Prop:=∀ b,H b=none\/∃ o xs,H b=some (.frz o (.lst xs))
theorem oK {K:PySem.W.Frag} {mg mb:Str->Option Value} {CX:CXT} {k:Nat} {fa a:Addr} {fd:FuncData} {x:Str} {sp:Sp} {s₁:Shared} {vs:List Value} {ns:List Int}
  (KX:K.In s₁.heap) (hns:s₁.heap.Ns mainGlobals mg) (hb:s₁.heap.Ns builtinsNs mb) (hbb:∀ x:Str,x ≠ "__name__"->mb x=bootBuiltins x) (hlim:s₁.heap.NoLimit) (hg:s₁.gens=#[])
  (ha:s₁.heap.get? a=some { cls:=.type "list",data:=.seq vs.toArray }) (hi:IntsAre vs ns) (hl:ns.length<=sizeLine) (hr:Room false k callerA)
  (F:∀ base:Heap,K.In base->base.Ns mainGlobals mg->FnOk P w K mg base CX k fa fd [x] sp) (hbind:∀ (s:Shared) (u:Value),BindsTo s fd ⟨[u],[]⟩ [(x,u)])
  (hsp:∀ H:Hp,Ae H->SqL K H a (ns.map V.int)->sp [.ref a] H (λv _=>v=.bl true) λ_ _ _=>False)
  (hCX:∀ H e s',CX [] H s₁ (λ_ _ _=>False) e s'->False) :
  codeAny (model P w) callerA (.call (.ref fa) ⟨[.ref a],[]⟩) (λr s'=>r=.ok (.ret (.bool true))/\OldK s₁.heap s'.heap/\s'.os=s₁.os/\AllBare s'.gens) s₁:=by
 have rv:=ce hi;have lenV:=hi.length;have core:∀ H:Hp,Ae H->SqL K H a (ns.map V.int)->HOk P w H s₁.heap->(∀ b,H b≠none->b=a)->(H a≠none->K.lookup a=none) ->
   codeAny (model P w) callerA (.call (.ref fa) ⟨[.ref a],[]⟩) (λr s'=>r=.ok (.ret (.bool true))/\OldK s₁.heap s'.heap/\s'.os=s₁.os/\AllBare s'.gens) s₁:=by
  intro H hO hS hok hA hK;have M5:∀ {b:Addr} {o:Obj},s₁.heap.get? b=some o->H b=none->(eW s₁.heap H).get? b=some o:=λe n=>rj e n;have noA:∀ {b:Addr} {o:Obj} {es:Array DictEntry} {ep:Nat},s₁.heap.get? b=some o->o.data=.dict es ep->H b=none:=λ{b o es ep} e d=>by
   cases q:H b with
   | none=>rfl
   | some u=>
    have e':=hA b (by rw [q];simp);subst e';rw [ha] at e;cases e;have d':=d;cases d'
  have nsK:∀ {b:Addr} {m:Str->Option Value},s₁.heap.Ns b m->(eW s₁.heap H).Ns b m:=λ{b m} ⟨o,es,ep,e,d,r⟩=>⟨o,es,ep,M5 e (noA e d),d,r⟩;have hKb:=λb o e=>M5 (KX b o e) (by
   cases q:H b with
   | none=>rfl
   | some u=>
    have e':=hA b (by rw [q];simp);subst e';rw [hK (by rw [q];simp)] at e;cases e)
  have hM:Mod K mg (eW s₁.heap H):=⟨hKb,nsK hns,⟨mb,nsK hb,hbb⟩,let ⟨mc,h1,h2⟩:=hlim;⟨mc,nsK h1,h2⟩⟩;have e0:Env0 P w K mg (eW s₁.heap H) callerA [] s₁ H:=⟨rfl,hM,λb o e=>sR e,Kd (mT _ _),trivial,λb hb=>absurd (show b∈([]:List Addr) from hb) (by simp),hok,.of_eq hg⟩;refine Hm ((F _ hKb (nsK hns)).run callerA [] s₁ H ⟨[.ref a],[]⟩ [.ref a] [.ref a] _ _ hr.any e0 (hbind s₁ (.ref a)) (.cons rfl .nil) (hsp H hO hS)) λr s' h=>?_;cases r with
  | error e=>exact (hCX H e s' h).elim
  | ok fl=>
   cases fl with
   | next=>exact False.elim h
   | brk=>exact False.elim h
   | cont=>exact False.elim h
   | ret u=>
    obtain ⟨v,H',os,bare,un,hok',r',q⟩:=h;have q':=q;subst q';obtain rfl:u=Value.bool true:=r';refine ⟨rfl,OldK.of_keep λb o e=>?_,os,bare⟩;cases q:H b with
    | none=>exact un.keep b o e q (by intro z;exact absurd (show b∈([]:List Addr) from z) (by simp)) (by simp)
    | some u=>
     rcases hO b with z | ⟨ob,xs,z⟩
     ·rw [q] at z;cases z
     ·have z2:=un.frzs b ob _ z;obtain ⟨e1,_⟩:=hok b _ z;obtain ⟨e2,_⟩:=hok' b _ z2;rw [e] at e1;cases e1;exact e2
 cases hk:K.lookup a with
 | some o=>
  have e:=KX a o hk;rw [ha] at e;cases e;refine core (λ_=>none) (λ_=>.inl rfl) (.inr ⟨_,vs.toArray,_,hk,rfl,rfl,rfl,by rw [FR,lenV];exact hl,by simpa using rv⟩) (λb u z=>by have z':=z;cases z') (λb z=>absurd rfl z) λz=>absurd rfl z
 | none=>
  refine core (λb=>if b=a then some (.frz { cls:=.type "list",data:=.seq vs.toArray } (.lst (ns.map V.int))) else none) (λb=>?_) (.inl (.inr ⟨{ cls:=.type "list",data:=.seq vs.toArray },if_pos rfl⟩)) (λb u z=>?_) (λb z=>?_) λ_=>hk
  ·grind
  ·by_cases hb:b=a
   ·have z':=(if_pos hb).symm.trans z;cases z';subst hb;exact ⟨ha,by rw [Fu];exact hl,vs,_,rv,ha⟩
   ·grind
  ·grind
theorem walk_of {l:PySem.W.OpenLaw} {n k:Nat} {q:Program} {g:List Str} {Q:(Str->Option Value)->Heap->Prop} {D:World->Heap->Prop} {d:DefRec} {K:Params->PySem.W.Frag} {CX:World->CXT} {sp:World->Sp} {x:Str}
  (O:l.most=some n) (A:n<=sizeLine) (B:d.params.defaults=[]) (M:Room false k callerA)
  (S:∀ (w:World) (h:Heap),D w h->(K w.params).In h)
  (F:∀ (w:World) (j:Str->Option Value) (r:Addr) (h:Heap),(K w.params).In h->h.Ns mainGlobals j->j d.name=some (.ref r) ->
   ∃ fd:FuncData,(∀ (s:Shared) (u:Value),BindsTo s fd ⟨[u],[]⟩ [(x,u)]) /\
    ∀ b:Heap,(K w.params).In b->b.Ns mainGlobals j->FnOk l.prog w (K w.params) j b (CX w) k r fd [x] (sp w))
  (t:∀ (w:World) (H:Hp) (a:Addr) (ns:List Int),ns.length<=n->Ae H->SqL (K w.params) H a (ns.map V.int)->sp w [.ref a] H (λv _=>v=.bl true) λ_ _ _=>False)
  (z:∀ (w:World) (H:Hp) (s:Shared) (e:Value) (s':Shared),CX w [] H s (λ_ _ _=>False) e s'->False) :
  PySem.W.WalkO q g Q D l.row.toRowW d [] (λf vs=>PySem.call f vs):=by
 refine Att.attach_call O B λw C m j Z r o U W J a vs ns G Y X hd P y p i c R=>?_;have E:=S w _ Y;obtain ⟨fd,N,I⟩:=F w j r _ E G.T.g y;exact oK E G.T.g G.T.b G.T.builtins G.T.nolimit R p i (Gd c A) M I N (λH T L=>t w H a ns c T L) λH e s'=>z w H m e s'
def N1 (s:Stmt) (j:Nat):Stmt:=match s with
 | .ClassDef _ _ _ body _ _ _ _ _ _ _=>body.getD j (.Pass ⟨0,0,0,0⟩)
 | _=>.Pass ⟨0,0,0,0⟩
def j3 (s:Stmt):Arguments:=match s with
 | .FunctionDef _ a _ _ _ _ _ _ _ _=>a
 | _=>{ posonlyargs:=[],args:=[],vararg:=none,kwonlyargs:=[],kw_defaults:=[],kwarg:=none,defaults:=[] }
def h7 (s:Stmt):List Stmt:=match s with
 | .FunctionDef _ _ b _ _ _ _ _ _ _=>b
 | _=>[]
def b7 (s:Stmt):Scope:=match s with
 | .FunctionDef _ _ _ _ _ _ a _ _ _=>a
 | _=>{ kind:=.function,names:=[],isGenerator:=false,isCoroutine:=false }
abbrev CX0:CXT:=⟨λ_ _ _ _ _ _=>False,false⟩
abbrev E0:XK:=λ_ _ _=>False
theorem Y4:v3 CX0 X E0:=λ_ _ _ _ _ _ _ h=>False.elim h
structure Fun (K:PySem.W.Frag) (x qual:Str) (st:Stmt) (f:Addr) (fd:FuncData):Prop where
 ex:∃ (oc:Value) (od:Option Addr) (kV doc pm:Value) (an:Option Addr) (cdv ct:Value) (osl:Array (Option Value)),
  fd=PySem.W.fnOf x qual (j3 st) (h7 st) (b7 st) .none kV doc pm an cdv ct/\K.lookup f=some ⟨oc,od,.func fd,osl⟩/\PySem.W.codeIn K cdv qual=true
 kp:PySem.W.keepIn K (.ref f)=true
section
variable {P:Program} {w:World} {K:PySem.W.Frag} {mg:Str->Option Value} {base:Heap}
theorem Fun.ok {st:Stmt} {f:Addr} {fd:FuncData} {N ps:List Str} {k:Nat} {sp:Sp} (F:Fun K x qual st f fd) (S:FnScope N ps (b7 st)) (e:∀ vs H Q E,sp vs H Q E->vs.length=ps.length)
  (c:∀ (b:Value) (A:Around) (a:List Env) (s:Shared) (H:Hp) (vs:List V) (Q:VK) (E:XK),Room false k (A.deeper (envOfC qual (b7 st) s.heap.objs.size f b))->sp vs H Q E ->
   ∃ t,PSs (bz CX0 P w K mg base N qual (b7 st) f b A a s H E).nox (h7 st) t/\t { nx:=λ_ H'=>Q .non H',rt:=Q } (start N vs) H):FnOk P w K mg base CX0 (k+1) f fd ps sp:=by
 obtain ⟨n,od,r,i,p,u,b,o,m,rfl,j,g⟩:=F.ex;refine wt j g S e λA a s H vs Q E l d=>?_;obtain ⟨t,h,q⟩:=c b A a s H vs Q E l d;exact ⟨t,h.nox,q⟩
theorem Fun.binds {st:Stmt} {f:Addr} {fd:FuncData} {ps:List Str} (F:Fun K x qual st f fd)
  (h:∀ (e b c:Value) (g:Option Addr) (a d:Value) (us:List Value),us.length=ps.length->bindArgs (PySem.W.fnOf x qual (j3 st) (h7 st) (b7 st) .none e b c g a d) ⟨us,[]⟩=pure (ps.zip us)):Binds K fd ps []:=by
 obtain ⟨k,od,e,b,c,g,a,d,j,rfl,l,i⟩:=F.ex;exact .all (h e b c g a d)
theorem J6 {st:Stmt} {f:Addr} {j:Value} {od h:Option Addr} {d:Array (Option Value)} {i b e a g:Value} (l:K.lookup f=some ⟨j,od,.func (PySem.W.fnOf x qual (j3 st) (h7 st) (b7 st) .none i b e h a g),d⟩)
  (c:PySem.W.codeIn K a qual=true) (k:PySem.W.keepIn K (.ref f)=true):Fun K x qual st f (PySem.W.fnOf x qual (j3 st) (h7 st) (b7 st) .none i b e h a g):=⟨⟨j,od,i,b,e,h,a,g,d,rfl,l,c⟩,k⟩
end
theorem BU {k:Nat} (a:Room q k A):A.units+1<cLine:=Nat.lt_of_le_of_lt (Nat.add_le_add_left (by decide:1<=64) _) a.units
section
variable {X:Cx}
theorem pv (i:Nat) {x:Str} {pos:Pos} (c:X.N[i]?=some x:=by rfl) (b:Vis X.env.scope x:=by first | exact Or.inl rfl | exact Or.inr (Or.inl rfl) | exact Or.inr (Or.inr rfl)) (hd:(x==("__debug__" : Str))=false:=by decide)
  (a:(x==("__classdict__" : Str))=false:=by decide):PE X (.Name x pos) (zO i):=rS c b hd a
theorem mK:i5 X (.builtin "len") (λxs H Q=>∃ a b,xs=[V.ref a]/\H a=some (.dK b)/\Q (.int b.length) H):=by
 intro pins s σ H xs us Q I r h;obtain ⟨a,b,rfl,d,q⟩:=h;obtain ⟨u,rfl,e⟩:=K8 r;cases e;exact Dk I (.inl d) λt s' c=>⟨.int b.length,H,c,⟨t,rfl⟩,q⟩
end
theorem si {A B:Prop} (h:A):if true=true then A else B:=by grind
def Same (H H':Hp):Prop:=∀ b o,H b=some o->H' b=some o
theorem Same.seq {K:PySem.W.Frag} {H H':Hp} {a:Addr} {xs:List V} (e:Same H H') (h:SqL K H a xs):SqL K H' a xs:=by
 rcases h with (h | ⟨o,h⟩) | h
 ·exact .inl (.inl (e _ _ h))
 ·exact .inl (.inr ⟨o,e _ _ h⟩)
 ·exact .inr h
theorem bG {b a:Type} (g:a->b->a) {f:b->a->Sem (ForInStep a)}:∀ (l:List b) (c:a),(∀ x∈l,∀ c,f x c=pure (.yield (g c x)))->forIn l c f=pure (l.foldl g c)
 | [],_,_=>rfl
 | x :: l,c,h=>by
  rw [HU,h x FO,pure_bind];exact bG g l (g c x) λy d=>h y (FQ _ d)
def k0 (cells:List (Str×Addr)) (a:List (Str×Addr)) (x:Str×NameKind):List (Str×Addr):=if x.2=NameKind.free then (x.1,(cells.lookup x.1).getD 0) :: a else a
def V4 (cells:List (Str×Addr)) (a:List (Str×NameKind)):List (Str×Addr):=a.foldl (k0 cells) []
theorem D1 (h:∀ x∈scope.names,x.2=NameKind.free->∃ c,env.cells.lookup x.1=some c):closureFor scope env=pure (V4 env.cells scope.names):=by
 simp only [closureFor];rw [bG (k0 env.cells) scope.names [] (λx e c=>by
  obtain ⟨n,k⟩:=x;by_cases b:k=NameKind.free
  ·subst b;obtain ⟨a,d⟩:=h _ e rfl;simp [cellOf,k0,d]
  ·have:(k==NameKind.free)=false:=by simpa using b
   simp [k0,b,this])]
 rfl
theorem O5:∀ (b:List (Str×NameKind)) (f:List (Str×Addr)),(∀ x∈b,x.2=NameKind.free->∃ c,cells.lookup x.1=some c)->(∀ x c,f.lookup x=some c->cells.lookup x=some c) ->
  ∀ x c,(b.foldl (k0 cells) f).lookup x=some c->cells.lookup x=some c
 | [],_,_,g,x,c,e=>g x c e
 | y :: r,f,h,g,x,c,e=>by
  refine O5 r (k0 cells f y) (λz hz=>h z (FQ _ hz)) (λz d q=>?_) x c e;unfold k0 at q;split at q
  ·rename_i i;obtain ⟨a,j⟩:=h y FO i;rw [HJ] at q;split at q
   ·grind
   ·exact g z d q
  ·exact g z d q
theorem bJ:∀ (b:List (Str×NameKind)) (a:List (Str×Addr)) (x:Str),(a.lookup x).isSome=true->((b.foldl (k0 cells) a).lookup x).isSome=true
 | [],_,_,h=>h
 | y :: r,a,x,h=>by
  refine bJ r (k0 cells a y) x ?_;unfold k0;split
  ·grind
  ·exact h
theorem bM:∀ (a:List (Str×NameKind)) (b:List (Str×Addr)) (x:Str),(x,NameKind.free)∈a->((a.foldl (k0 cells) b).lookup x).isSome=true
 | [],_,_,h=>nomatch h
 | y :: r,b,x,h=>by
  rcases FP.mp h with h | h
  ·subst h;refine bJ r _ x ?_;simp [k0]
  ·exact bM r _ x h
theorem mem_of_lookup {c d:Type} [BEq c] [LawfulBEq c]:∀ {l:List (c×d)} {x:c} {y:d},l.lookup x=some y->(x,y)∈l
 | [],_,_,h=>by simp at h
 | (a,b) :: r,x,y,h=>by
  rw [HJ] at h;split at h
  ·rename_i e;have:x=a:=by simpa using e
   cases h;subst this;exact FO
  ·exact FQ _ (mem_of_lookup h)
theorem X4 {f:Str×NameKind->Str×NameKind} (a:∀ y,(f y).1=y.1):∀ (l:List (Str×NameKind)) (x:Str),(l.map f).lookup x=(l.lookup x).map λk=>(f (x,k)).2
 | [],_=>rfl
 | (n,k) :: r,x=>by
  rw [Gk,show f (n,k) :: r.map f=((f (n,k)).1,(f (n,k)).2) :: r.map f from rfl,HJ,HJ,a];cases b:x==n with
  | true=>
   have e:x=n:=by simpa using b
   subst e;rfl
  | false=>exact X4 a r x
def rlF (a:Env) (y:Str×NameKind):Str×NameKind:=if (y.2==.free&&a.scope.kind==.function&&a.kindOf y.1==some .cell) then (y.1,.cell) else (y.1,y.2)
theorem sO (a:Env) (y:Str×NameKind):(rlF a y).1=y.1:=by unfold rlF;split <;> rfl
theorem J1 (a:Scope) (b:Env) (x:Str):(relabel a b).names.lookup x=(a.names.lookup x).map λk=>(rlF b (x,k)).2:=X4 (sO b) a.names x
theorem cE {scope:Scope} {env:Env} {x:Str} (h:scope.names.lookup x=some .free):(relabel scope env).names.lookup x=some .cell\/(relabel scope env).names.lookup x=some .free:=by
 rw [J1,h];show some (rlF env (x,.free)).2=_\/some (rlF env (x,.free)).2=_;unfold rlF;split
 ·exact .inl rfl
 ·exact .inr rfl
theorem P9 (h:(relabel scope env).names.lookup x=some k) (d:k=.cell\/k=.free) (b:∀ y∈scope.names,y.2≠NameKind.cell):scope.names.lookup x=some .free:=by
 rw [J1] at h;cases e:scope.names.lookup x with
 | none=>rw [e] at h;cases h
 | some a=>
  rw [e] at h;have h':(rlF env (x,a)).2=k:=Gz h;have c:=b (x,a) (mem_of_lookup e);unfold rlF at h';split at h'
  ·grind
  ·grind
theorem HOk.sameBut {a:Addr} (g:HOk P w H h) (f:H a=none) (hs:Heap.SameBut a h h'):HOk P w H h':=λb ob e=>by
 refine (g b ob e).stay (λc w' d q=>(hs.2 c ?_).trans q) (λ_ q=>q) λ_ _ q=>q;rintro rfl;rcases d with rfl | d
 ·rw [f] at e;cases e
 ·rw [f] at d;cases d
theorem Un.sameBut {C:Addr} (u:Un fs ex H H' h h1) (hs:Heap.SameBut C h1 h') (g:h.objs.size<=C):Un fs ex H H' h h':=by
 have d:∀ b o,h.get? b=some o->b≠C:=λb o e=>FN (Ga (FK e) g);exact ⟨λb o e n c a=>(hs.2 b (d b o e)).trans (u.keep b o e n c a),λb o e n c a=>let ⟨f,q⟩:=u.slot b o e n c a;⟨f,(hs.2 b (d b o e)).trans q⟩,u.free,
  λb o e a=>let ⟨o',q⟩:=u.there b o e a;⟨o',(hs.2 b (d b o e)).trans q⟩,u.tups,u.frzs,u.tbls⟩
def c7 (X:Cx) (pins:List (Addr×Obj)) (N':List Str) (a:Scope) (C:Addr) (b:List Addr) (s:Shared) (H:Hp):Cx where
 prog:=X.prog
 w:=X.w
 K:=X.K
 mg:=X.mg
 base:=X.base
 A:=X.A
 N:=N'
 s₀:=s
 H₀:=H
 env:=compEnvC a (V4 X.env.cells a.names) C X.env
 outer:=X.stack
 stack:=X.stack
 ex:=b
 fn:=λ_=>false
 calm:=X.calm
 pn:=X.pn++pins
 xe:=λ_ _=>False
structure CompText (N:List Str) (env:Env) (N':List Str) (k:Nat) (caps:List Nat) (scope:Scope):Prop where
 kind:scope.kind=.function
 cell:∀ y∈scope.names,y.2≠NameKind.cell
 loc:∀ y∈scope.names,y.2=NameKind.local->scope.names.lookup y.1=some .local
 free:∀ y∈scope.names,y.2=NameKind.free->scope.names.lookup y.1=some .free/\(env.scope.names.lookup y.1=some .cell\/env.scope.names.lookup y.1=some .free)
 cps:∀ (j i:Nat),caps[j]?=some i->∃ x,N[i]?=some x/\N'[k+j]?=some x/\scope.names.lookup x=some .free
 len:N'.length=k+caps.length
def A2 (caps:List Nat) (σ:St):St:=caps.map λi=>(σ[i]?).join
theorem qF {caps:List Nat} {σ:St} {j:Nat} {v:V} (h:(A2 caps σ)[j]?=some (some v)):∃ i,caps[j]?=some i/\σ[i]?=some (some v):=by
 unfold A2 at h;rw [FY] at h;cases e:caps[j]? with
 | none=>rw [e] at h;cases h
 | some i=>
  rw [e] at h;refine ⟨i,rfl,?_⟩;have h':(σ[i]?).join=some v:=Gz h;cases q:σ[i]? with
  | none=>rw [q] at h';cases h'
  | some o=>rw [q] at h';exact congrArg some h'
section
variable {X:Cx} {pins:List (Addr×Obj)} {σ:St} {H:Hp} {s:Shared} {N':List Str} {k:Nat} {caps:List Nat} {scope:Scope} {fp:List Addr}
theorem vd (T:CompText X.N X.env N' k caps scope) (I:Inv X pins σ H s) (i:∀ b∈fp,L6 X pins H b) {C:Addr} (n:s.heap.objs.size<=C) (j:∀ b∈fp,b<s.heap.objs.size):(c7 X pins N' scope C fp s H).Ok:=by
 have p:∀ x∈scope.names,x.2=NameKind.free->∃ c,X.env.cells.lookup x.1=some c:=λx g q=>I.ok.has x.1 (T.free x g q).2;have f:=O5 scope.names [] p λx c e=>by simp at e
 refine ⟨I.mod,?_,I.ok.glob,I.ok.blt,n,λx y c a b=>I.ok.inj x y c (f x c a) (f y c b),λx g=>?_,λx c m=>(by cases m),I.ok.hd,I.ok.frames,.inl rfl,λb d=>⟨?_,λx c e=>(i b d).2.2.2.2.1 x c (f x c e)⟩,I.bs,?_,λb o e d=>?_,λb d l=>?_,I.stack,I.stkFree⟩
 ·exact T.kind
 ·have h:scope.names.lookup x=some .free:=by
   rcases g with g | g
   ·exact P9 g (.inl rfl) T.cell
   ·exact P9 g (.inr rfl) T.cell
  exact GQ.mp (bM scope.names [] x (mem_of_lookup h))
 ·exact FN (Ga (j b d) n)
 ·exact Gd I.ok.bsz I.sz
 ·rcases (i b d).2.2.2.1 with z | z
  ·exact I.ok.noex b o e z
  ·exact absurd (Ga (FK (I.ok.bs b o e).1) z) (HV _)
 ·rcases FP.mp (I.stkSub b l) with z | z
  ·exact (i b d).2.1 z
  ·exact (i b d).2.2.1 z
theorem P6 (T:CompText X.N X.env N' k caps scope) (I:Inv X pins σ H s) (hf:∀ b∈fp,L6 X pins H b) (hlt:∀ b∈fp,b<s.heap.objs.size) {h':Heap} {m:Str->Option Value} {t:Nat}
  (hn:h'.Ns (s.heap.objs.size+1) m) (hk:∀ b o,s.heap.get? b=some o->h'.get? b=some o) (ha:h'.get? s.heap.objs.size=some { cls:=.type "list",data:=.seq #[] }) :
  Inv (c7 X pins N' scope (s.heap.objs.size+1) fp s H) [] (List.replicate k none++A2 caps σ) (upd H s.heap.objs.size (.lst [])) { s with heap:=h',toks:=t }:=by
 have ok:=vd T I hf (C:=s.heap.objs.size+1) (GK _) hlt;have fr:∀ x∈scope.names,x.2=NameKind.free->∃ c,X.env.cells.lookup x.1=some c:=λx hx hk=>I.ok.has x.1 (T.free x hx hk).2;have snd:∀ x c,(V4 X.env.cells scope.names).lookup x=some c->X.env.cells.lookup x=some c:=O5 scope.names [] fr λx c e=>by simp at e
 have nacc:H s.heap.objs.size=none:=I.hok.fresh (FH _);have lt:∀ b u,H b=some u->b<s.heap.objs.size:=λb u e=>I.hok.lt e;refine ⟨ok,rfl,I.bare,Un.laid hk (FH _) nacc,⟨m,hn,λi x v e1 e2 e3=>?_⟩,λx c e=>?_,?_,λx c e=>?_,λp hp=>?_,I.hok.laid hk (FH _) ⟨Gu _,[],_,.nil,ha⟩,?_⟩
 ·by_cases hi:i<k
  ·rw [FI (by simpa using hi)] at e2;simp [hi] at e2
  ·rw [Gq (by simpa using Ij hi)] at e2;rw [IS] at e2;obtain ⟨j,hj,hv⟩:=qF e2;obtain ⟨y,h1,h2,h3⟩:=T.cps _ _ hj;have hik:k+(i-k)=i:=by omega
   rw [hik] at h2;have hxy:y=x:=Gz (h2.symm.trans e1);subst hxy;have hvis:=(T.free (y,.free) (mem_of_lookup h3) rfl).2;obtain ⟨mX,hnX,hlX⟩:=I.loc;obtain ⟨u,r,l⟩:=hlX j y v h1 hv (by rcases hvis with z | z;exact .inr (.inl z);exact .inr (.inr z));refine ⟨u,r,?_⟩;rcases l with ⟨hk',_⟩ | ⟨_,c,hc,hcell⟩
   ·have hk'':X.env.scope.names.lookup y=some .local:=hk';rcases hvis with z | z
    ·rw [hk''] at z;cases z
    ·rw [hk''] at z;cases z
   ·obtain ⟨c',hc'⟩:=GQ.mp (bM (cells:=X.env.cells) scope.names [] y (mem_of_lookup h3));have:c'=c:=Gz ((snd y c' hc').symm.trans hc);subst this;obtain ⟨oc,ho,hd⟩:=hcell;exact .inr ⟨cE h3,c',hc',oc,hk _ _ ho,hd⟩
 ·obtain ⟨v,oc,ho,hd⟩:=I.cell x c (snd x c e);exact ⟨v,oc,hk _ _ ho,hd⟩
 ·show upd H s.heap.objs.size (.lst []) (s.heap.objs.size+1)=none;rw [a8 (JX _)];exact I.hok.fresh (GK _)
 ·obtain ⟨v,oc,ho,hd⟩:=I.cell x c (snd x c e);rw [a8 (FN (FK ho))];exact I.freeC x c (snd x c e)
 ·have hp':p∈X.pn++pins:=by
   have:p∈(X.pn++pins)++[]:=hp;rwa [Gv] at this
  obtain ⟨e,n,ne,nf,d⟩:=I.pin p hp';refine ⟨hk _ _ e,?_,FN (Gw (FK e)),λhb=>?_,d⟩
  ·rw [a8 (FN (FK e))];exact n
  ·rcases FP.mp (I.stkSub p.1 hb) with z | z
   ·exact ne z
   ·exact nf z
 ·show _=N'.length;rw [T.len,GS,IS];unfold A2;rw [Fu]
end
def PTL (X:Cx) (ifs:List Expr) (t:TT):Prop:=
 ∀ (pins:List (Addr×Obj)) (s:Shared) (σ:St) (H:Hp) (Q:Bool->Hp->Prop),Inv X pins σ H s->t σ H Q ->
  wpAny (model X.prog X.w) X.A (forIn ifs true λc r=>if r=true then do let a <- isTrue c X.env (eval c X.env);pure (ForInStep.yield a) else pure (ForInStep.yield r)) (TP X pins σ Q) X.xe s
def tTrue:TT:=λ_ H Q=>Q true H
theorem wO:PTL X [] tTrue:=λ_ _ _ H _ I h=>by
 rw [Jx];exact Fs ⟨H,I,h⟩
theorem vb (h:PT X c t):PTL X [c] t:=λpins s σ H Q I q=>by
 rw [HU];refine Fq ?_;rw [if_pos rfl];refine Fq (thn (h pins s σ H Q I q) λb s' ⟨H',d,a⟩=>Fs ?_);dsimp only;rw [Jx];exact Fs ⟨H',d,a⟩
def jz (caps:List Nat) (j:TI) (h:TT) (te:TE):TE:=λσ H Q=>j σ H λJ g=>∀ a,g a=none->∃ W:Nat->Nat->List V->Hp->Prop,(∃ m,W 0 m [] (upd g a (.lst []))) /\
 ∀ i m ys c,W i m ys c->c a=some (.lst ys)/\((J.stop i c/\Q (.ref a) c)\/(J.go i c/\∀ x f,J.yld i c x f->h (some x :: A2 caps σ) f λb e=>
  if b=true then te (some x :: A2 caps σ) e λy d=>d a=some (.lst ys)/\ys.length<sizeLine/\∃ m',m'<m/\W (i+1) m' (ys++[y]) (upd d a (.lst (ys++[y])))
  else ∃ m',m'<m/\W (i+1) m' ys e))
theorem Q6 {a:Type} {t:Sem a} {Q:a->Shared->Prop} {u:Sem Unit} (c:u=pure ()) (h:wpAny M A u (λ_ b=>wpAny M A t Q E b) E s):wpAny M A t Q E s:=by
 have d:=Fq h;grind
theorem d9 {s:Shared} {a:Type} {t:Sem a} {Q:a->Shared->Prop} (h:wpAny M A t Q (λ_ _=>False) s):wpAny M A t Q E s:=Gs h (λ_ _ q=>q) λ_ _ q=>q.elim
theorem jS {O A:Expr} {x:Str} {px:Pos} {ifs:List Expr} {a:Scope} {pos:Pos} {N':List Str} {caps:List Nat} {wi:TI} {tc:TT} {te:TE}
  (T:CompText X.N X.env N' 1 caps a) (hc:X.calm=true) (hN:N'.Nodup) (hx0:N'[0]?=some x) (hxl:a.names.lookup x=some .local) (hi:PI X (.Name x px) A wi)
  (ht:∀ pins C g s H,PTL (c7 X pins N' a C g s H) ifs tc) (he:∀ pins C g s H,PE (c7 X pins N' a C g s H) O te)
  (hs:∀ x,foldedSetIterable A X.env x=pure x:=by intro _;rfl):PE X (.ListComp O [⟨.Name x px,A,ifs,0⟩] a pos) (jz caps wi tc te):=by
 intro pins s σ H Q I h;have fr:∀ x∈a.names,x.2=NameKind.free->∃ c,X.env.cells.lookup x.1=some c:=λx hx hk=>I.ok.has x.1 (T.free x hx hk).2;rw [eval_ListComp];refine Ix rfl hs (D1 fr) T.kind T.loc ?_;refine thn (hi pins s σ H _ I h) λv s1 h1=>thn h1 λitv f h2=>?_;obtain ⟨it,g,tn,J,E,rfl,I2,G,st2,f2,h2⟩:=h2;obtain ⟨W,⟨m0,w0⟩,turn⟩:=h2 f.heap.objs.size (I2.hok.fresh (FH _));have hlt:=λb l=>let ⟨o,e,_⟩:=G.obj _ _ st2 b l;FK e
 refine Gi (Jb T.cell (by intro y hy;simp at hy) (λh₁ m k=>?_) T.kind);have hC:(f.heap.push { cls:=.type "list",dict:=none,data:=.seq ([]:List Value).toArray }).objs.size=f.heap.objs.size+1:=GL ..;rw [hC] at m k;have old:=λb o e=>k.extBut b o (FN (Gw (FK e))) (Ft _ (Ft _ e));have hacc:=k.extBut _ _ (FN (Go _)) (Ft _ (FJ _ rfl));have w:=G.keep _ _ _ st2 λb _ o e=>old b o e;have I3:=P6 (t:=f.toks+([]:List (Str×Value)).length) T I2 f2 hlt m old hacc;have D:∀ {H':Hp},(∀ b∈g,H' b=none)->∀ b∈g,L6 (c7 X pins N' a (f.heap.objs.size+1) g f E) [] H' b:=λhn b l=>by
  refine ⟨hn b l,(I3.ok.exf b l).1,I3.ok.exfs b l,.inl l,(I3.ok.exf b l).2,λp hp=>?_⟩;have hp':p∈X.pn++pins:=by
   have:=hp;rwa [Gv] at this
  exact (f2 b l).2.2.2.2.2 p hp'
 have F:∀ s3:Shared,s3={ f with heap:=h₁,toks:=f.toks+([]:List (Str×Value)).length } ->
   codeAny (model X.prog X.w) X.A (.compLoop (.ListComp O [⟨.Name x px,A,ifs,0⟩] a pos) 0 (.ref it) (.ref f.heap.objs.size) (compEnvC a (V4 X.env.cells a.names) (f.heap.objs.size+1) X.env))
    (compPost (model X.prog X.w) X.A X.xe none (EP X pins σ Q) (.ref f.heap.objs.size) (f.heap.objs.size+1)) s3:=by
  rintro s3 rfl;refine codeAny_compLoop_tests (λn s'=>∃ i ys H',Inv (c7 X pins N' a (f.heap.objs.size+1) g f E) [] (none :: A2 caps σ) H' s'/\tn i s'.heap/\(∀ b∈g,H' b=none)/\W i n ys H') ?_ m0
   ⟨0,[],_,I3,w,λb l=>by rw [a8 (FN (hlt b l))];exact (f2 b l).1,w0⟩ (λ_=>rfl)
  rintro n s4 ⟨i,ys,R,I4,Y,fr4,w4⟩;obtain ⟨hacc4,P⟩:=turn i n ys R w4;refine d9 ?_;rcases P with ⟨stop,q⟩ | ⟨go,step⟩
  ·refine thn (G.done (c7 X pins N' a (f.heap.objs.size+1) g f E) rfl rfl rfl hc i [] s4 _ R (λ_ _=>False) I4 (D fr4) Y stop) λr s5 ⟨hr,V⟩=>?_;subst hr;obtain ⟨m5,hn5,_⟩:=id V.loc;refine ⟨m5,hn5,λh' hs'=>?_⟩;refine ⟨.ref f.heap.objs.size,R,?_,rfl,q⟩;refine I2.call' V.os (Un.sameBut V.base hs' (GK _)) (V.hok.sameBut V.free hs') V.bare λb l=>?_;have:=f2 b l;exact ⟨this.2.2.2.1,this.2.1,this.2.2.2.2.1,this.2.2.2.2.2⟩
  ·refine thn (G.item (c7 X pins N' a (f.heap.objs.size+1) g f E) rfl rfl rfl hc i [] s4 _ R (λ_ _=>False) I4 (D fr4) Y go) λr s5 ⟨u,hr,h5⟩=>?_;subst hr;refine d9 (Q6 rfl (thn h5 λ_ s6 ⟨xv,H6,I6,r6,y6,L,fr6⟩=>?_));have I6':=I6.pinned (D fr6) (G.obj _ _ L);refine thn (L7 (X:=c7 X pins N' a (f.heap.objs.size+1) g f E) hN hx0 (.inl (GM hxl)) (.inr (GM hxl)) _ s6 _ H6 xv u (λσ2 R=>σ2=some xv :: A2 caps σ/\R=H6) I6' r6 ⟨rfl,rfl⟩) λ_ s7 ⟨σ7,H7,I7,e7,e7'⟩=>?_;subst e7 e7';have B:∀ {σ8:St} {S:Hp} {s8:Shared},Inv (c7 X pins N' a (f.heap.objs.size+1) g f E) ([]++C8 g s6.heap) σ8 S s8->tn (i+1) s8.heap/\∀ b∈g,S b=none:=λ{σ8 S s8} N=>by
    refine ⟨G.keep _ _ _ L λb l o e=>(N.pin (b,o) (FZ _ (FZ _ (m7 l e)))).1,λb l=>?_⟩;obtain ⟨o,e,d⟩:=G.obj _ _ L b l;exact (N.pin (b,o) (FZ _ (FZ _ (m7 l e)))).2.1
   refine d9 (thn (ht pins _ g f E _ s7 _ _ _ I7 (step xv _ y6)) λb s8 ⟨S,N,q8⟩=>?_);have wk:∀ {U:Hp} {s9:Shared},Inv (c7 X pins N' a (f.heap.objs.size+1) g f E) ([]++C8 g s6.heap) (some xv :: A2 caps σ) U s9->Inv (c7 X pins N' a (f.heap.objs.size+1) g f E) [] (none :: A2 caps σ) U s9:=λ{U s9} I9=>
    I9.unpinned.weak rfl λj v e=>by
     cases j with
     | zero=>simp at e
     | succ j=>simpa using e
   cases b with
   | false=>
    obtain ⟨m',hm,w'⟩:=q8;exact ⟨m',hm,i+1,ys,S,wk N,(B N).1,(B N).2,w'⟩
   | true=>
    refine d9 (thn (he pins _ g f E _ s8 _ S _ N q8) λz s9 ⟨y,U,I9,r9,M,hl9,m',hm,w'⟩=>?_);refine d9 (thn (M8 _ s9 _ U (.ref f.heap.objs.size) [y] (.ref f.heap.objs.size) [z] (λ_ H'=>H'=upd U f.heap.objs.size (.lst (ys++[y]))) I9 rfl (.cons r9 .nil) ⟨_,ys,y,rfl,rfl,M,hl9,rfl⟩) λ_ s10 ⟨_,H10,K,_,e10⟩=>?_);subst e10;exact ⟨m',hm,i+1,ys++[y],_,wk K,(B K).1,(B K).2,w'⟩
 have Z:=IL (F _ rfl) (G.self _ 0 _ _ _ w (F _ rfl));rw [<- hC] at Z;exact Z
theorem bR {K w:Expr} {x:Str} {px:Pos} {y:Str} {py N:Pos} {iy:Nat} {ifs:List Expr} {f:Scope} {pos:Pos} {N':List Str} {caps:List Nat} {wi:TI} {tc:TT} {te:TE}
  (hsw:swapsWith (.ListComp K [⟨.Name x px,w,ifs,0⟩] f pos) (some (.Name y py)) N.line X.env=pure true) (hNX:X.N.Nodup) (hiy:X.N[iy]?=some y) (hy:Loc X.env.scope y) (hf:X.fn y=true\/X.env.scope.names.lookup y=some .local)
  (T:CompText X.N X.env N' 1 caps f) (hc:X.calm=true) (hN:N'.Nodup) (hx0:N'[0]?=some x) (hxl:f.names.lookup x=some .local) (hi:PI X (.Name x px) w wi)
  (ht:∀ pins C l s H,PTL (c7 X pins N' f C l s H) ifs tc) (he:∀ pins C l s H,PE (c7 X pins N' f C l s H) K te)
  (hs:∀ x,foldedSetIterable w X.env x=pure x:=by intro _;rfl):PS X (.Assign [.Name y py] (.ListComp K [⟨.Name x px,w,ifs,0⟩] f pos) N) (nq (jz caps wi tc te) (ax iy)):=by
 intro pins s σ H D I h;have fr:∀ x∈f.names,x.2=NameKind.free->∃ c,X.env.cells.lookup x.1=some c:=λx hx hk=>I.ok.has x.1 (T.free x hx hk).2;rw [exec_Assign_Name_used _ _ _ _ hsw];refine Fq (Iv (Fq ?_));refine Fq (Gs (Ix rfl hs (D1 fr) T.kind T.loc ?_) (λ_ s' hq=>Fs (Fs hq)) λ_ _ e=>e);refine thn (hi pins s σ H _ I h) λv s1 h1=>thn h1 λitv g h2=>?_;obtain ⟨it,l,tn,J,G,rfl,O,M,st2,f2,h2⟩:=h2;obtain ⟨W,⟨m0,w0⟩,turn⟩:=h2 g.heap.objs.size (O.hok.fresh (FH _));have hlt:=λb k=>let ⟨o,e,_⟩:=M.obj _ _ st2 b k;FK e
 refine Gi (Jb T.cell (by intro y hy;simp at hy) (λh₁ A m=>?_) T.kind);have hC:(g.heap.push { cls:=.type "list",dict:=none,data:=.seq ([]:List Value).toArray }).objs.size=g.heap.objs.size+1:=GL ..;rw [hC] at A m;have old:=λb o e=>m.extBut b o (FN (Gw (FK e))) (Ft _ (Ft _ e));have hacc:=m.extBut _ _ (FN (Go _)) (Ft _ (FJ _ rfl));have E:=M.keep _ _ _ st2 λb _ o e=>old b o e;have I3:=P6 (t:=g.toks+([]:List (Str×Value)).length) T O f2 hlt A old hacc;have F:∀ {H':Hp},(∀ b∈l,H' b=none)->∀ b∈l,L6 (c7 X pins N' f (g.heap.objs.size+1) l g G) [] H' b:=λhn b k=>by
  refine ⟨hn b k,(I3.ok.exf b k).1,I3.ok.exfs b k,.inl k,(I3.ok.exf b k).2,λp hp=>?_⟩;have hp':p∈X.pn++pins:=by
   have:=hp;rwa [Gv] at this
  exact (f2 b k).2.2.2.2.2 p hp'
 have L:∀ s3:Shared,s3={ g with heap:=h₁,toks:=g.toks+([]:List (Str×Value)).length } ->
   codeAny (model X.prog X.w) X.A (.compLoop (.ListComp K [⟨.Name x px,w,ifs,0⟩] f pos) 0 (.ref it) (.ref g.heap.objs.size) (compEnvC f (V4 X.env.cells f.names) (g.heap.objs.size+1) X.env))
    (compPost (model X.prog X.w) X.A X.xe (some (assign (.Name y py) X.env)) (λ_ s'=>SP X pins D .next s') (.ref g.heap.objs.size) (g.heap.objs.size+1)) s3:=by
  rintro s3 rfl;refine codeAny_compLoop_tests (λn s'=>∃ i ys H',Inv (c7 X pins N' f (g.heap.objs.size+1) l g G) [] (none :: A2 caps σ) H' s'/\tn i s'.heap/\(∀ b∈l,H' b=none)/\W i n ys H') ?_ m0
   ⟨0,[],_,I3,E,λb k=>by rw [a8 (FN (hlt b k))];exact (f2 b k).1,w0⟩ (λ_=>rfl)
  rintro n s4 ⟨i,ys,Z,I4,st4,fr4,w4⟩;obtain ⟨hacc4,S⟩:=turn i n ys Z w4;refine d9 ?_;rcases S with ⟨stop,q⟩ | ⟨go,step⟩
  ·refine thn (M.done (c7 X pins N' f (g.heap.objs.size+1) l g G) rfl rfl rfl hc i [] s4 _ Z (λ_ _=>False) I4 (F fr4) st4 stop) λr s5 ⟨hr,V⟩=>?_;subst hr;obtain ⟨m5,hn5,_⟩:=id V.loc;have IX:=O.call' V.os V.base V.hok V.bare λb k=>by
    have:=f2 b k;exact ⟨this.2.2.2.1,this.2.1,this.2.2.2.2.1,this.2.2.2.2.2⟩
   have C0:g.heap.objs.size<=g.heap.objs.size+1:=GK _;have cC:∀ z c,X.env.cells.lookup z=some c->c≠g.heap.objs.size+1:=λz c e=>by
    obtain ⟨v,oc,ho,_⟩:=O.cell z c e;exact FN (Gw (FK ho))
   have lC:=FN (Gw O.lt);refine wpAny_assign_Name (cu (v:=.ref g.heap.objs.size) IX hNX hiy hy rfl (λs6 I6 ⟨a,sb,ha⟩=>?_) hf);have aC:g.heap.objs.size+1≠a:=λz=>by
    rcases ha with ha | ha
    ·grind
    ·exact cC _ _ ha z.symm
   refine ⟨m5,hn5.sameBut sb aC,λh' hs'=>?_⟩;refine ⟨_,Z,I6.turned (λb o k e=>hs'.extBut b o k e) V.free lC.symm (.inr (Gd O.sz C0)) cC (λp hp=>?_),q⟩;exact FN (Gw (FK (O.pin p hp).1))
  ·refine thn (M.item (c7 X pins N' f (g.heap.objs.size+1) l g G) rfl rfl rfl hc i [] s4 _ Z (λ_ _=>False) I4 (F fr4) st4 go) λr s5 ⟨u,hr,h5⟩=>?_;subst hr;refine d9 (Q6 rfl (thn h5 λ_ s6 ⟨xv,H6,I6,r6,y6,U,fr6⟩=>?_));have I6':=I6.pinned (F fr6) (M.obj _ _ U);refine thn (L7 (X:=c7 X pins N' f (g.heap.objs.size+1) l g G) hN hx0 (.inl (GM hxl)) (.inr (GM hxl)) _ s6 _ H6 xv u (λσ2 Z=>σ2=some xv :: A2 caps σ/\Z=H6) I6' r6 ⟨rfl,rfl⟩) λ_ s7 ⟨σ7,H7,I7,e7,e7'⟩=>?_;subst e7 e7';have B:∀ {σ8:St} {Y:Hp} {s8:Shared},Inv (c7 X pins N' f (g.heap.objs.size+1) l g G) ([]++C8 l s6.heap) σ8 Y s8->tn (i+1) s8.heap/\∀ b∈l,Y b=none:=λ{σ8 Y s8} Q=>by
    refine ⟨M.keep _ _ _ U λb k o e=>(Q.pin (b,o) (FZ _ (FZ _ (m7 k e)))).1,λb k=>?_⟩;obtain ⟨o,e,d⟩:=M.obj _ _ U b k;exact (Q.pin (b,o) (FZ _ (FZ _ (m7 k e)))).2.1
   refine d9 (thn (ht pins _ l g G _ s7 _ _ _ I7 (step xv _ y6)) λb s8 ⟨Y,Q,q8⟩=>?_);have wk:∀ {H9:Hp} {s9:Shared},Inv (c7 X pins N' f (g.heap.objs.size+1) l g G) ([]++C8 l s6.heap) (some xv :: A2 caps σ) H9 s9->Inv (c7 X pins N' f (g.heap.objs.size+1) l g G) [] (none :: A2 caps σ) H9 s9:=λ{H9 s9} I9=>
    I9.unpinned.weak rfl λj v e=>by
     cases j with
     | zero=>simp at e
     | succ j=>simpa using e
   cases b with
   | false=>
    obtain ⟨m',hm,w'⟩:=q8;exact ⟨m',hm,i+1,ys,Y,wk Q,(B Q).1,(B Q).2,w'⟩
   | true=>
    refine d9 (thn (he pins _ l g G _ s8 _ Y _ Q q8) λz s9 ⟨y,H9,I9,r9,P,hl9,m',hm,w'⟩=>?_);refine d9 (thn (M8 _ s9 _ H9 (.ref g.heap.objs.size) [y] (.ref g.heap.objs.size) [z] (λ_ H'=>H'=upd H9 g.heap.objs.size (.lst (ys++[y]))) I9 rfl (.cons r9 .nil) ⟨_,ys,y,rfl,rfl,P,hl9,rfl⟩) λ_ s10 ⟨_,H10,R,_,e10⟩=>?_);subst e10;exact ⟨m',hm,i+1,ys++[y],_,wk R,(B R).1,(B R).2,w'⟩
 have fin:=IL (L _ rfl) (M.self _ 0 _ _ _ E (L _ rfl));rw [<- hC] at fin;exact fin
mutual
inductive DAt (K:PySem.W.Frag) (H:Hp):V->PyData->Prop where
 | non:DAt K H .non .none
 | bl (b:Bool):DAt K H (.bl b) (.bool b)
 | int (i:Int):DAt K H (.int i) (.int i)
 | str (x:Str):DAt K H (.str x) (.str x)
 | lst {a:Addr} {xs:List V} {ds:List PyData}:SqL K H a xs->DAll K H xs ds->DAt K H (.ref a) (.list ds)
 | tup {a:Addr} {xs:List V} {ds:List PyData}:SqT K H a xs->DAll K H xs ds->DAt K H (.ref a) (.tuple ds)
inductive DAll (K:PySem.W.Frag) (H:Hp):List V->List PyData->Prop where
 | nil:DAll K H [] []
 | cons {x:V} {d:PyData} {xs:List V} {ds:List PyData}:DAt K H x d->DAll K H xs ds->DAll K H (x :: xs) (d :: ds)
end
def Keeps (K:PySem.W.Frag) (H H':Hp):Prop:=(∀ a xs,SqL K H a xs->SqL K H' a xs)/\∀ a xs,SqT K H a xs->SqT K H' a xs
mutual
theorem DAt.keeps {K:PySem.W.Frag} {H H':Hp} (k:Keeps K H H'):∀ {v:V} {d:PyData},DAt K H v d->DAt K H' v d
 | _,_,.non=>.non
 | _,_,.bl b=>.bl b
 | _,_,.int i=>.int i
 | _,_,.str x=>.str x
 | _,_,.lst h r=>.lst (k.1 _ _ h) (DAll.keeps k r)
 | _,_,.tup h r=>.tup (k.2 _ _ h) (DAll.keeps k r)
theorem DAll.keeps {K:PySem.W.Frag} {H H':Hp} (k:Keeps K H H'):∀ {xs:List V} {ds:List PyData},DAll K H xs ds->DAll K H' xs ds
 | _,_,.nil=>.nil
 | _,_,.cons h r=>.cons (DAt.keeps k h) (DAll.keeps k r)
end
theorem Keeps.of_same {K:PySem.W.Frag} {H H':Hp} (e:Same H H'):Keeps K H H':=
 ⟨λa xs h=>e.seq h,λa xs h=>by
  rcases h with (h | ⟨o,h⟩) | h
  ·exact .inl (.inl (e _ _ h))
  ·exact .inl (.inr ⟨o,e _ _ h⟩)
  ·exact .inr h⟩
theorem Same.laid (h:H p=none):Same H (upd H p o):=λb u e=>by rw [a8 (b9 e h)];exact e
theorem Keeps.laid {K:PySem.W.Frag} {H:Hp} {p:Addr} {o:HO} (h:H p=none):Keeps K H (upd H p o):=Keeps.of_same (Same.laid h)
section
variable {X:Cx} {pins:List (Addr×Obj)} {σ:St} {H:Hp} {s:Shared}
mutual
theorem DAt.reads (I:Inv X pins σ H s):∀ {v:V} {d:PyData},DAt X.K H v d->∀ {u:Value},RelV v u->∃ a,Reads s.heap u d a
 | _,_,.non,u,r=>by cases (show u=Value.none from r);exact ⟨_,.none⟩
 | _,_,.bl b,u,r=>by cases (show u=Value.bool b from r);exact ⟨_,.bool b⟩
 | _,_,.int i,u,r=>by obtain ⟨t,e⟩:=(r);subst e;exact ⟨_,.int i t⟩
 | _,_,.str x,u,r=>by obtain ⟨t,e⟩:=(r);subst e;exact ⟨_,.str x t⟩
 | _,_,.lst h q,u,r=>by
  cases (r);obtain ⟨f,c,⟨o,n,g,j,m,l⟩,_⟩:=I.list h;obtain ⟨a,k⟩:=DAll.reads I q c;exact ⟨_,.list g j l k⟩
 | _,_,.tup h q,u,r=>by
  cases (r);obtain ⟨f,c,⟨o,g,j,n,l⟩,_⟩:=I.tuple h;obtain ⟨a,k⟩:=DAll.reads I q c;exact ⟨_,.tuple g j l k⟩
theorem DAll.reads (I:Inv X pins σ H s):∀ {vs:List V} {ds:List PyData},DAll X.K H vs ds->∀ {us:List Value},Vals vs us->∃ as,ReadsAll s.heap us ds as
 | _,_,.nil,us,r=>by cases r;exact ⟨_,.nil⟩
 | _,_,.cons h q,us,r=>by
  cases r with
  | cons r1 r2=>
   obtain ⟨as,h1⟩:=DAt.reads I h r1;obtain ⟨bs,h2⟩:=DAll.reads I q r2;exact ⟨_,.cons h1 h2⟩
end
structure Shows (d:PyData):Prop where
 sh:d.showable=true
 nd:d.hasDict=false
 dp:d.depth<=60
 sz:d.shown.length<=sizeLine
theorem kn (hg:X.A.guards=some []) (hu:X.A.units+64<cLine):i5 X (.builtin "repr") (λxs H Q=>∃ v d,xs=[v]/\DAt X.K H v d/\Shows d/\Q (.str d.shown) H):=by
 intro pins s σ H xs us Q I r h;obtain ⟨v,d,rfl,hd,S,q⟩:=h;obtain ⟨u,rfl,ru⟩:=K8 r;have sh:=S.sh;have sz:=S.sz;cases hd with
 | non=>cases (ru);exact PySem.P.repr_of_none ⟨.str (PyData.shown .none),H,I.tok _,⟨_,rfl⟩,q⟩
 | bl b=>cases (ru);exact PySem.P.repr_of_bool ⟨.str (PyData.shown (.bool b)),H,I.tok _,⟨_,rfl⟩,q⟩
 | int i=>obtain ⟨t,e⟩:=(ru);subst e;exact PySem.P.repr_of_int (by simpa [PyData.showable] using sh) ⟨.str (PyData.shown (.int i)),H,I.tok _,⟨_,rfl⟩,q⟩
 | str x=>obtain ⟨t,e⟩:=(ru);subst e;exact PySem.P.repr_of_str ⟨.str (PyData.shown (.str x)),H,I.tok _,⟨_,rfl⟩,q⟩ sz
 | lst h1 h2=>
  obtain ⟨as,rr⟩:=DAt.reads I (.lst h1 h2) ru;obtain ⟨a,rfl⟩:=Jy rr rfl;exact repr_of_reads' rr sh (IM S.nd) hg (by have:=S.dp;omega) (λ_ _ e=>e) (λh' u tk hk=>⟨.str (PyData.shown _),H,I.kept hk,⟨_,rfl⟩,q⟩) sz
 | tup h1 h2=>
  obtain ⟨as,rr⟩:=DAt.reads I (.tup h1 h2) ru;obtain ⟨a,rfl⟩:=Jy rr rfl;exact repr_of_reads' rr sh (IM S.nd) hg (by have:=S.dp;omega) (λ_ _ e=>e) (λh' u tk hk=>⟨.str (PyData.shown _),H,I.kept hk,⟨_,rfl⟩,q⟩) sz
end
def BB (K:PySem.W.Frag) (a:Bool):R2:=λx y H Q=>∃ d e,DAt K H x d/\DAt K H y e/\d.canLay0=true/\e.canLay0=true/\min d.depth e.depth<=60/\Q (.bl (if a then !PyData.eqv d e else PyData.eqv d e)) H
section
variable {X:Cx}
theorem zS (k:X.A.units+64<cLine):OpR X (compareOp .Eq) (BB X.K false):=by
 intro pins s σ H x y v u Q I i c h;obtain ⟨d,e,hd,a,b,f,m,q⟩:=h;obtain ⟨l,g⟩:=hd.reads I i;obtain ⟨n,j⟩:=a.reads I c;exact SeqAt.compareEq_reads g j b f (by omega) ⟨.bl (PyData.eqv d e),H,I,rfl,q⟩
theorem yH (k:X.A.units+64<cLine):OpR X (compareOp .NotEq) (BB X.K true):=by
 intro pins s σ H x y v u Q I i c h;obtain ⟨d,e,hd,a,b,f,m,q⟩:=h;obtain ⟨l,g⟩:=hd.reads I i;obtain ⟨n,j⟩:=a.reads I c;exact SeqAt.compareNe_reads g j b f (by omega) ⟨.bl (!PyData.eqv d e),H,I,rfl,q⟩
end
end L2
namespace L2
open PySem PySem.W PySem.Calls PyProof.Rows
def Y3 (K:Frag) (C:Addr):Bool:=match K.lookup C with
 | some ⟨c,_,.cls a,b⟩=>c==.type "type" && !a.hasDel&&a.hasDict&&(b.toList[4]?).join==some (.builtin "ValueError.__new__")&&!a.mro.isEmpty&&a.mro.contains (.ref C)&&a.mro.contains (.type "ValueError")&&a.mro.contains (.type "BaseException") &&
   !a.mro.contains (.type "AttributeError")&&!a.mro.contains (.type "NameError")&&specialIn K (.ref C) "__call__" == some (some (.builtin "type.__call__"))&&instIn K (.ref C) (.type "type")==some true
 | _=>false
structure MakesX (M:Model) (h:Heap) (C:Addr):Prop where
 obj:∃ oc od cd sl,h.get? C=some ⟨oc,od,.cls cd,sl⟩/\cd.hasDel=false/\cd.mro.isEmpty=false
 made:Looks M h (Bind.madeBy (.ref C)) (some "ValueError.__new__")
 base:Looks M h (Bind.staticBase (.ref C)) (.ref C)
 self:Looks M h (isSubtype (.ref C) (.ref C)) true
 isV:Looks M h (isSubtype (.ref C) (.type "ValueError")) true
 isB:Looks M h (isSubtype (.ref C) (.type "BaseException")) true
 noA:Looks M h (isSubtype (.ref C) (.type "AttributeError")) false
 noN:Looks M h (isSubtype (.ref C) (.type "NameError")) false
 call:Looks M h (specialOf (.ref C) "__call__") (some (.builtin "type.__call__"))
 typ:Looks M h (isInstance (.ref C) (.type "type")) true
 ty:Looks M h (typeOf (.ref C)) (.type "type")
 isT:Looks M h (isType (.ref C)) true
theorem D4 {K:Frag} {M:Model} {h:Heap} (X:K.In h) {C:Addr} (e:Y3 K C=true):MakesX M h C:=by
 unfold Y3 at e;split at e
 case h_2=>cases e
 rename_i v od f D g;simp only [FG,GV,Ia] at e;obtain ⟨⟨⟨⟨⟨⟨⟨⟨⟨⟨⟨F,x⟩,_⟩,t⟩,i⟩,u⟩,B⟩,y⟩,w⟩,z⟩,m⟩,j⟩:=e;have p:clsIn K C=some f:=by unfold clsIn;rw [g]
 have a:∀ {b:Value} {r:Bool},f.mro.contains b=r->Looks M h (isSubtype (.ref C) b) r:=λ{b r} q=>looks_mroIn X (by unfold mroIn;rw [p,Ik,if_neg (by rw [i];decide),q]);have n:Looks M h (mroOf (.ref C)) f.mro:=(looks_clsIn X p).andThen .now;obtain ⟨c,l,o⟩:∃ c l,f.mro=c :: l:=by
  cases q:f.mro with
  | nil=>rw [q] at i;cases i
  | cons c l=>exact ⟨c,l,rfl⟩
 have d:Looks M h (Bind.madeBy (.ref C)) (some "ValueError.__new__"):=λA Q E s k q=>by
  refine Fq (n A _ E s k ?_);rw [o,HU];refine Fq (Fq (Fq (Fq (Jz (k _ _ (X _ _ g)) (Fs ?_)))));rw [<- Hu,t];exact Fs (Fs (Fs q))
 refine ⟨⟨v,od,f,D,X _ _ g,x,i⟩,d,λA Q E s k q=>?_,a u,a B,a y,a w,a z,looks_specialIn X m,looks_instIn X j,?_,(Looks.ld (X _ _ g)).andThen .now⟩
 ·unfold Bind.staticBase;refine Fq (n A _ E s k ?_);rw [o,HU];exact Fq (Fq (Fq (d A _ E s k (Fs (Fs (Fs q))))))
 ·subst F;exact (Looks.ld (X _ _ g)).andThen .now
abbrev A4 (C t:Addr):Obj:={ cls:=.ref C,data:=.fields #[.ref t,.none,.none,.none,.bool false,.none] }
abbrev B9 (vs:List Value):Obj:={ cls:=.type "tuple",data:=.seq vs.toArray }
section
variable {prog:Program} {w:World} {A:Around} {K:Frag} {C:Addr} {R:Result->Shared->Prop} {h:Heap} {g:Array GenState} {d:Drawn} {t:Nat} {os:OsState}
theorem En {rest:List Value} (Y:MakesX (model prog w) h C) (hrest:rest.length<=sizeLine)
  (hq:R (.ok (.ret (.ref (h.objs.size+1)))) ⟨(h.push (B9 rest)).push (A4 C h.objs.size),g,d,t,os⟩) :
  codeAny (model prog w) A (.call (.builtin "ValueError.__new__") ⟨.ref C :: rest,[]⟩) R ⟨h,g,d,t,os⟩:=by
 obtain ⟨⟨oc,od,cd,sl,hC,e1,e4⟩,made,base,self,isV,isB,noA,noN,call,typ,_,_⟩:=Y;have F:=JA;refine codeAny_call_builtin_code (Code.quiet_builtin _ F.quiet) ?_;simp only [checkBuiltinCall,F.newKind,F.newSplit,F.newRow];have here:Looks (model prog w) h (Bind.madeHere "ValueError.__new__" (.ref C)) ():=base.andThen (made.andThen (Looks.of_pure (by simp only [Ki,IN,Hb,Km])))
 repeat (first | simp only [IN,Hb,Km] | lk)
 have here2:Looks (model prog w) h (Bind.madeHere "BaseException.__new__" (.ref C)) ():=base.andThen (made.andThen (Looks.of_pure (by simp only [Ki,F.canon,IN,Hb,Km])));have ends:=F.ends;refine codeAny_builtinAt F.entry (PySem.wpAt_bind ?_);show PySem.wpAt _ _ _ (stack >>= _) _ _ _;refine PySem.wpAt_bind (PySem.wpAt_stack λp below=>PySem.wpAt_of_wpAny ?_)
 wp_walk
 refine PySem.wpAt_of_wpAny ?_;rw [F.owner]
 repeat lk
 rw [if_neg (by rw [FR];omega)];show wpAny _ _ (newObjAsIs _ _) _ _ _;have hC2:(h.push (B9 rest)).get? C=some ⟨oc,od,.cls cd,sl⟩:=Ft _ hC;have hC3:((h.push (B9 rest)).push (A4 C h.objs.size)).get? C=some ⟨oc,od,.cls cd,sl⟩:=Ft _ hC2;unfold newObjAsIs;refine Fq (Kn (Fs (Fq ?_)));show wpAny _ _ (newObjAsIs _ _) _ _ _;unfold newObjAsIs classHasDel;refine Fq (Kn (Fq (Fq (Kx hC3 (Fs ?_)))));rw [e1];refine Fs (Fs ?_);show R _ _;rw [GL];exact hq
theorem DG {c:List Value} {f:Addr} (Y:MakesX (model prog w) h C) (u:Looks (model prog w) h (typeLookup (.ref C) "__init__") (some (.ref f)))
  (G:∀ i,Looks (model prog w) h (bindSpecial (.ref f) i) (.ref f,[i])) (j:c.length<=sizeLine)
  (B:codeAny (model prog w) (A.under (.builtin "type.__call__" ⟨.ref C :: c,[]⟩)) (.call (.ref f) ⟨.ref (h.objs.size+1) :: c,[]⟩) (InitBack (h.objs.size+1) R) ⟨(h.push (B9 c)).push (A4 C h.objs.size),g,d,t,os⟩) :
  codeAny (model prog w) A (.call (.ref C) ⟨c,[]⟩) R ⟨h,g,d,t,os⟩:=by
 have D:=Y;obtain ⟨⟨L,od,s,O,q,M,I⟩,p,n,i,x,F,E,H,l,m,_,_⟩:=Y;refine Kj ?_;refine nd_load q (show wpAny _ _ (callAny.viaDunder (.ref C) _) _ _ _ from ?_);refine Fq (l.at ?_);dsimp only;rw [tc_bind];refine Fq (Fs (Fq (Fs (Fs (a:=Fin.again (.call (.builtin "type.__call__") ⟨.ref C :: c,[]⟩)) (And.intro rfl ?_)))));refine codeAny_call_builtin_at (Code.quiet_builtin _ (by decide +kernel)) entry_typeCall (check_slot tc_kind tc_split m (tc_args _ _ _) ?_);have J:Looks (model prog w) h (mroOf (.ref C)) s.mro:=((Looks.ld q).andThen .now).andThen .now
 repeat (first | simp only [I,Hb,Km] | with_reducible refine Ib ?_ | lk)
 refine En D j ?_;have k:∀ b o,h.get? b=some o->((h.push (B9 c)).push (A4 C h.objs.size)).get? b=some o:=λb o e=>Ft _ (Ft _ e);have y:((h.push (B9 c)).push (A4 C h.objs.size)).get? (h.objs.size+1)=some (A4 C h.objs.size):=by heap_get
 have Q:Looks (model prog w) ((h.push (B9 c)).push (A4 C h.objs.size)) (typeOf (.ref (h.objs.size+1))) (.ref C):=(Looks.ld y).andThen .now;have N:=i.keeps k;have P:=u.keeps k;have K:=(G (.ref (h.objs.size+1))).keeps k
 repeat (first | with_reducible refine Ib ?_ | lk)
 refine Hm B λr s' z=>?_;rcases r with e | (v | _ | _ | _) <;> first | exact z | exact z.elim | skip
 obtain ⟨rfl,z⟩:=z;exact Fs (Fs z)
end
end L2
namespace L2
open PySem PySem.W PySem.Calls PyProof.Rows Builtin Builtin.ObjectAttr
theorem oB:builtinKind "BaseException.__getattribute__" = some .slot:=by decide +kernel
theorem mM:splitId "BaseException.__getattribute__" = some ("BaseException","__getattribute__"):=by decide +kernel
theorem lE:plainId "BaseException.__getattribute__" = true:=by decide +kernel
section
variable {prog:Program} {w:World} {A:Around} {R:Result->Shared->Prop} {s:Shared} {x:Addr} {name:Str} {t:Tok}
theorem rk (c:Looks (model prog w) s.heap (isInstance (.ref x) (.type "BaseException")) true)
  (h:wpAny (model prog w) A.in1 (Builtin.«object.__getattribute__» ⟨[.ref x,.str name t],[]⟩) (λa s'=>match a with | .done f=>R (.ok f) s' | .again b=>b.quiet=true/\codeAny (model prog w) A b R s') (λe s'=>R (.error e) s') s) :
  codeAny (model prog w) A (.call (.builtin "BaseException.__getattribute__") ⟨[.ref x,.str name t],[]⟩) R s:=
 Ie lE PySem.F.entry_bexc_ga (@check_slot (model prog w) _ _ _ "BaseException.__getattribute__" "BaseException" "__getattribute__" (.ref x) [.str name t] [] _ oB mM c (PySem.F.args_bexc_ga (.ref x) (.str name t)) h)
end
section
variable {prog:Program} {w:World} {A:Around} {E:Value->Shared->Prop} {s:Shared} {K:Frag} {x C:Addr} {ox:Obj} {od:Option Obj} {name:Str} {expr:Bool} {Q:Value->Shared->Prop}
structure XCls (K:Frag) (C:Addr):Prop where
 ga:findIn K (.ref C) "__getattribute__" = some (some (.builtin "BaseException.__getattribute__"))
 gg:findIn K (.ref C) "__getattr__" = some none
 be:mroIn K C (.type "BaseException")=some true
 ob:mroIn K C (.type "object")=some true
 hd:hasDictIn K C=true
 cl:findIn K (.ref C) "__class__" = some (some (.builtin "object.__class__"))
 cg:specialIn K (.builtin "object.__class__") "__get__" = some (some (.builtin "getset_descriptor.__get__"))
 ct:takesIn K (.builtin "object.__class__")=some true
theorem qW {b:Bool} {t:Tok} (X:K.In s.heap) (I:InstAt s.heap x ox C od) (c:XCls K C)
  (h:wpAny (model prog w) A.in1 (Builtin.«object.__getattribute__» ⟨[.ref x,.str name t],[]⟩) (λa s'=>match a with | .done (.ret v)=>wpAny (model prog w) A (handedOut v) Q E s' | _=>False) (λ_ _=>False) s) :
  wpAny (model prog w) A (getAttrBy (.ref x) (.str name t) b expr) Q E s:=by
 obtain ⟨l,g,d,p,n⟩:=s;have f:=I.type (M:=model prog w);have j:=looks_findIn (M:=model prog w) X c.ga;have o:=looks_findIn (M:=model prog w) X c.gg;have i:Looks (model prog w) l (isInstance (.ref x) (.type "BaseException")) true:=f.andThen (looks_mroIn X c.be);have k:=(PySem.F.attrBase_ValueError).ga.bind (.ref x);have e:(expr&&onTheHeap (Value.builtin "BaseException.__getattribute__"))=false:=by cases expr <;> rfl
 have m:(Value.builtin "BaseException.__getattribute__" == Value.builtin "object.__getattribute__")=false:=by decide +kernel
 refine GD (Fq (f.at (Fq (j.at ?_))))
 repeat (first | simp | lk)
 refine Iy (GD ?_);unfold callGetattribute;rw [e];refine Fq (Ko k ?_);refine Ib (rk i ?_);refine Gs h (λa s' z=>?_) λ_ _ z=>z.elim;rcases a with (v | _ | _ | _) | _ <;> first | exact z | exact z.elim
theorem Do (X:K.In s.heap) (I:InstAt s.heap x ox C od) (b:XCls K C) (f:findObj K C od name=some (.value v)) (e:handedIn v=true) (h:Q v { s with toks:=s.toks+1 }):wpAny (model prog w) A (getAttr (.ref x) name expr) Q E s:=by
 obtain ⟨j,g,d,t,i⟩:=s;have a:=I.type (M:=model prog w);have c:=looks_find (M:=model prog w) X I f;refine Fq (wpAny_mkText (qW X I b ?_));refine Fq (Fs (Fq (Fs (Fq (a.at (Fq (c.at (Fs ?_))))))));show wpAny _ _ (handedOut v) _ _ _;rw [handedOut_of e];exact Fs h
theorem fU (a:XCls K C):findObj K C od "__class__" = some (.bind (.builtin "getset_descriptor.__get__") (.builtin "object.__class__")):=by
 obtain ⟨c,b,_⟩:=any_some a.hd;unfold findObj;rw [b,Ik,a.cl,Ik];dsimp only;rw [a.cg,Ik];dsimp only;rw [a.ct];rfl
theorem xU (X:K.In s.heap) (I:InstAt s.heap x ox C od) (a:XCls K C) (h:R (some (.ref C)) { s with toks:=s.toks+1 }):wpAny (model prog w) A (getAttr? (.ref x) "__class__") R E s:=by
 have e:=fU (od:=od) a;obtain ⟨i,g,d,t,f⟩:=s;have b:=I.type (M:=model prog w);have c:=looks_find (M:=model prog w) X I e;refine Fq (wpAny_mkText (Fq (Iy (qW X I a ?_))));refine Fq (Fs (Fq (Fs (Fq (b.at (Fq (c.at ?_)))))));refine Fq (GD (Ib (class_get X I a.ob ?_)));refine Fs ?_;exact handed_on rfl (Fs h)
theorem DS (c:XCls K C):KitX K (.ref x) (.ref C) (λh=>∃ ox od,InstAt h x ox C od) where
 ty:=λ_ _ _ ⟨_,_,I⟩=>I.type
 it:=λ_ _ X _=>by
  obtain ⟨j,a,_⟩:=any_some c.hd;unfold clsIn at a;split at a
  ·rename_i m e d g f;exact λo r s s' k q=>by
    exact Fq (Jz (k _ _ (X _ _ f)) (Fs q))
  ·cases a
 ne:=λh l p i n g X b=>by
  obtain ⟨j,a,_⟩:=any_some c.hd;refine Bool.eq_false_iff.mpr λq=>?_;obtain rfl:C=l:=Value.ref.inj (Ia.mp q);unfold clsIn at a;split at a
  ·rename_i m e d g f;have z:=(X _ _ f).symm.trans b;cases z
  ·cases a
 ca:=λX ⟨_,_,I⟩ k=>xU X I c k
end
def y9:List Value->Bool
 | .ref _ :: r=>y9 r
 | l=>l==[.type "ValueError",.type "Exception",.type "BaseException",.type "object"]
theorem G7 (a:Value):∀ {l:List Value},y9 l=true->refuseLoop a "__setattr__" l=pure ()
 | .ref c :: r,e=>by rw [refuseLoop_ref];exact G7 a e
 | [],e=>by cases e
 | .none :: r,e=>by cases e
 | .type n :: r,e=>by rw [Ia.mp e];exact PySem.F.store_ValueError.passes a
 | .bool _ :: _,e=>by cases e
 | .int _ _ :: _,e=>by cases e
 | .str _ _ :: _,e=>by cases e
 | .bytes _ _ :: _,e=>by cases e
 | .float _ _ :: _,e=>by cases e
 | .builtin _ :: _,e=>by cases e
 | .ellipsis :: _,e=>by cases e
 | .notImplemented :: _,e=>by cases e
section
variable {prog:Program} {w:World} {A:Around} {E:Value->Shared->Prop} {s:Shared} {K:Frag} {x C:Addr} {ox:Obj} {od:Option Obj} {name:Str} {R:Result->Shared->Prop} {v:Value}
theorem CL (X:K.In s.heap) (I:InstAt s.heap x ox C od) (k:XCls K C) (o:(clsIn K C).any (λd=>y9 d.mro)=true) (j:findIn K (.ref C) name=some none)
  (h:∀ b,wpAny (model prog w) A.in1 (storeInOwnDict (.ref x) (.ref C) (.str name tk) name v b) (λc s'=>match c with | .done f=>R (.ok f) s' | .again i=>i.quiet=true/\codeAny (model prog w) A i R s') (λe s'=>R (.error e) s') s) :
  codeAny (model prog w) A (.call (.builtin "object.__setattr__") ⟨[.ref x,.str name tk,v],[]⟩) R s:=by
 have a:=PySem.F.store_object;obtain ⟨d,n,l⟩:=any_some o;have g:Looks (model prog w) s.heap (isInstance (.ref x) (.type "object")) true:=I.type.andThen (looks_mroIn X k.ob);have m:Looks (model prog w) s.heap (mroOf (.ref C)) d.mro:=(looks_clsIn X n).andThen .now;refine Ie a.slot.plain a.entry (@check_slot (model prog w) _ _ s "object.__setattr__" "object" "__setattr__" (.ref x) [.str name tk,v] [] _ a.kind a.split g (a.args (.ref x) (.str name tk) v) ?_);rw [osa_eq,refuse_eq];refine Fq (Fq (I.type.here (Fq (m.here ?_))));rw [G7 _ l];exact Fs (Fq (I.type.here (Fq ((looks_findIn X j).here (Fq (Fs (h _)))))))
def tbV:Option Addr->Value
 | none=>.none
 | some T=>.ref T
def IsX (a:Option Addr) (h:Heap) (x C:Addr) (d:Option Addr):Prop:=∃ vs,h.get? x=some { cls:=.ref C,dict:=d,data:=.fields vs }/\vs.size=6/\vs[1]?=some (tbV a)
theorem IsX.inst0 (i:IsX fr h x C none):∃ ox,InstAt h x ox C none:=by
 obtain ⟨vs,e,_⟩:=i;exact ⟨_,e,rfl,rfl,True.intro⟩
theorem IsX.inst1 (i:IsX fr h x C (some d)) {o:Obj} (hd:h.get? d=some o):∃ ox,InstAt h x ox C (some o):=by
 obtain ⟨vs,e,_⟩:=i;exact ⟨_,e,rfl,rfl,hd⟩
theorem CH (X:K.In s.heap) (i:IsX fr s.heap x C none) (t:XCls K C) (B:(clsIn K C).any (λr=>y9 r.mro)=true) (hs:findIn K (.ref C) "__setattr__" = some (some (.builtin "object.__setattr__"))) (u:findIn K (.ref C) name=some none)
  (h:∀ h' t',IsX fr h' x C (some s.heap.objs.size)->h'.Ns1 s.heap.objs.size (λy=>if y=name then some v else none)->(∀ b o,b≠x->s.heap.get? b=some o->h'.get? b=some o)->Q () { s with heap:=h',toks:=t' }):wpAny (model prog w) A (setAttr (.ref x) name v) Q E s:=by
 obtain ⟨ox,I⟩:=i.inst0;obtain ⟨vs,a,hsz⟩:=i;obtain ⟨r,D,hd⟩:=any_some t.hd;refine set_plain X I hs (CL X I t B u λb=>?_);refine Fq (Fs (Fq (Fq (Jz a (Fq (Looks.here (looks_clsIn X D) ?_))))));rw [hd];have f:=FN (FK a);have d:(s.heap.push { cls:=.type "dict",data:=.dict #[] }).get? x=some { cls:=.ref C,data:=.fields vs }:=Ft _ a;refine Fq (Kn (Fq (wpAny_update d (Fs ?_))));have p:((s.heap.push { cls:=.type "dict",data:=.dict #[] }).update x λo=>{ cls:=o.cls,dict:=some s.heap.objs.size,data:=o.data,slots:=o.slots }).get? s.heap.objs.size=some { cls:=.type "dict",data:=.dict #[] }:=
  (Ip _ _ _ _ f.symm).trans (Heap.get?_push_at rfl rfl)
 have n:((s.heap.push { cls:=.type "dict",data:=.dict #[] }).update x λo=>{ cls:=o.cls,dict:=some s.heap.objs.size,data:=o.data,slots:=o.slots }).get? x=some { cls:=.ref C,dict:=some s.heap.objs.size,data:=.fields vs }:=
  Gp _ d rfl
 have m:∀ b o,b≠x->s.heap.get? b=some o->((s.heap.push { cls:=.type "dict",data:=.dict #[] }).update x λo=>{ cls:=o.cls,dict:=some s.heap.objs.size,data:=o.data,slots:=o.slots }).get? b=some o:=
  λb o l e=>(Ip _ _ _ _ l).trans (Ft _ e)
 have q:((s.heap.push { cls:=.type "dict",data:=.dict #[] }).update x λo=>{ cls:=o.cls,dict:=some s.heap.objs.size,data:=o.data,slots:=o.slots }).Ns s.heap.objs.size (λ_=>none):=
  ⟨_,#[],_,p,rfl,λe F=>absurd F (by simp),λ_=>rfl⟩
 generalize ((s.heap.push { cls:=.type "dict",data:=.dict #[] }).update x λo=>{ cls:=o.cls,dict:=some s.heap.objs.size,data:=o.data,slots:=o.slots })=h1 at p n m q ⊢;refine Fq (Fs (Fq (wpAny_nsSet1 (Heap.Ns1.of_empty q) λh' c hs'=>?_)));obtain ⟨H,G,z,g,j,k⟩:=c.count (Within.cons name v Within.nil);refine Fq (wpAny_lookBehind g (by rw [j];exact pastItsLine_dict (Gd k (by rw [Hs,Kh,Gf];omega))) (Fs ?_));exact h h' _ ⟨vs,(hs'.2 x f).trans n,hsz⟩ c λb o l e=>(hs'.2 b (FN (FK e))).trans (m b o l e)
theorem Ci {d:Addr} {mA:Str->Option Value} {ns:List Str} (X:K.In s.heap) (i:IsX fr s.heap x C (some d)) (hd:s.heap.Ns1 d mA) (o:d≠x) (l:XCls K C) (t:(clsIn K C).any (λm=>y9 m.mro)=true) (hs:findIn K (.ref C) "__setattr__" = some (some (.builtin "object.__setattr__"))) (n:findIn K (.ref C) name=some none)
  (u:Within mA ns) (hz:ns.length<=1000)
  (h:∀ h' t',h'.Ns1 d (λy=>if y=name then some v else mA y)->Heap.SameBut d s.heap h'->Q () { s with heap:=h',toks:=t' }):wpAny (model prog w) A (setAttr (.ref x) name v) Q E s:=by
 obtain ⟨od,e,z⟩:=L9 hd;obtain ⟨ox,I⟩:=i.inst1 e;obtain ⟨vs,k,hsz⟩:=i;obtain ⟨m,p,j⟩:=any_some l.hd;refine set_plain X I hs (CL X I l t n λb=>?_);refine Fq (Fs (Fq (Fq (Jz k (Fq (Looks.here (looks_clsIn X p) ?_))))));rw [j];refine Fs ?_;refine Fq (Fs (Fq (wpAny_nsSet1 hd λh' a hs'=>?_)));obtain ⟨B,r,q,c,f,g⟩:=a.count (Within.cons name v u);refine Fq (wpAny_lookBehind c (by rw [f];exact pastItsLine_dict (Gd g (by rw [Hs,Gf];omega))) (Fs ?_));exact h h' _ a hs'
end
section
variable {prog:Program} {w:World} {A:Around} {E:Value->Shared->Prop} {s:Shared} {K:Frag} {x C:Addr} {d:Option Addr} {R:Result->Shared->Prop} {y:Value}
theorem Av {l:Option Addr} (X:K.In s.heap) (i:IsX l s.heap x C d) (p:Y3 K C=true)
  (h:∀ h',(∀ b o,b≠x->s.heap.get? b=some o->h'.get? b=some o)->IsX l h' x C d->R (.ok (.ret .none)) { s with heap:=h' }) :
  codeAny (model prog w) A (.call (.builtin "ValueError.__init__") ⟨[.ref x,y],[]⟩) R s:=by
 have F:=JA;obtain ⟨vs,a,hsz,f⟩:=i;have n:Looks (model prog w) s.heap (typeOf (.ref x)) (.ref C):=(Looks.ld a).andThen .now;have Y:=D4 (M:=model prog w) X p;have g:Looks (model prog w) s.heap (isInstance (.ref x) (.type "ValueError")) true:=n.andThen Y.isV;obtain ⟨v,t,u,B,z,_,_⟩:=Y.obj;have m:=F.noStar;refine Ie F.init.plain F.initEntry ?_;simp only [checkBuiltinCall,F.initKind,F.initSplit,F.initRow];refine Fq (g.here ?_);simp only [Bool.not_true,Hb,Km];have k:(s.heap.push { cls:=.type "tuple",data:=.seq #[y] }).get? x=some { cls:=.ref C,dict:=d,data:=.fields vs }:=Ft _ a;obtain ⟨j,q⟩:∃ j,vs[0]?=some j:=⟨vs[0]'(by omega),Hw _⟩;have c:R (.ok (.ret .none)) { s with heap:=(s.heap.push { cls:=.type "tuple",data:=.seq #[y] }).update x (Obj.mapFields (·.setIfInBounds 0 (.ref s.heap.objs.size))) }:=by
  refine h _ (λb o r e=>(Ip _ _ _ _ r).trans (Ft _ e)) ⟨vs.setIfInBounds 0 (.ref s.heap.objs.size),Gp _ k rfl,?_⟩;rw [Array.size_setIfInBounds];exact ⟨hsz,by rw [Array.getElem?_setIfInBounds_ne (by decide)];exact f⟩
 unfold Bind.checkArgs
 repeat lk
 rw [q];refine Fs (Fq (GW k rfl (by omega) ?_));cases j <;> first | exact Fs (Fs c) | exact wpAny_letGo (Fs c)
end
end L2
namespace L2
open PySem PySem.Spec PyProof.Rows
def N2 (a:Option Addr) (x C:Addr) (d:Option Addr):HO:=.ext λh=>IsX a h x C d
abbrev P5 (x C:Addr) (d:Option Addr):HO:=N2 none x C d
def G6 (d:Addr) (fs:List (Str×V)):HO:=.ext λh=>∃ mA,h.Ns1 d mA/\(∀ f,RelO (fs.lookup f) (mA f))/\PySem.Within mA (fs.map (·.1))/\fs.length<=900
theorem okX {h:Heap} {x C:Addr} {d:Option Addr} (i:IsX fr h x C d):ObjOk P w H h x (N2 fr x C d):=by
 obtain ⟨vs,e,z⟩:=id i;refine ⟨i,⟨_,e⟩,λf g ⟨a,c,b⟩ k=>⟨a,k _ c,b⟩⟩
theorem okD {mA:Str->Option Value} (n:h.Ns1 d mA) (r:∀ f,RelO (fs.lookup f) (mA f)) (g:PySem.Within mA (fs.map (·.1))) (l:fs.length<=900):ObjOk P w H h d (G6 d fs):=by
 obtain ⟨o,es,p,e,q⟩:=id n;exact ⟨⟨mA,n,r,g,l⟩,⟨o,e⟩,λm s ⟨a,i,j,b,c⟩ k=>⟨a,i.at k,j,b,c⟩⟩
structure XC (K:PySem.W.Frag) (C:Addr):Prop where
 xc:XCls K C
 ex:Y3 K C=true
 vm:(PySem.W.clsIn K C).any (λcd=>y9 cd.mro)=true
 sa:PySem.W.findIn K (.ref C) "__setattr__" = some (some (.builtin "object.__setattr__"))
 kp:PySem.W.keepIn K (.ref C)=true
section
variable {X:Cx} {pins:List (Addr×Obj)} {σ:St} {H:Hp} {s:Shared} {x C:Addr}
theorem Inv.isX {a:Option Addr} {d:Option Addr} (I:Inv X pins σ H s) (e:H x=some (N2 a x C d)):IsX a s.heap x C d:=(I.hok x _ e).1
theorem Inv.isD (I:Inv X pins σ H s) (e:H d=some (G6 d fs)):∃ mA,s.heap.Ns1 d mA/\(∀ f,RelO (fs.lookup f) (mA f))/\PySem.Within mA (fs.map (·.1))/\fs.length<=900:=(I.hok d _ e).1
theorem Inv.madeX (I:Inv X pins σ H s):Inv X pins σ (upd H (s.heap.objs.size+1) (P5 (s.heap.objs.size+1) C none)) { s with heap:=(s.heap.push (B9 us)).push (A4 C s.heap.objs.size) }:=by
 have a:((s.heap.push (B9 us)).push (A4 C s.heap.objs.size)).get? (s.heap.objs.size+1)=some (A4 C s.heap.objs.size):=by
  have:=FJ (s.heap.push (B9 us)) (o:=A4 C s.heap.objs.size) rfl;rwa [GL] at this
 exact I.laid (λb u q=>Ft _ (Ft _ q)) (GK _) (okX ⟨_,a,rfl,rfl⟩)
end
def zy (C:Addr) (sp:Sp) (E:XK) (t:TA):TE:=λσ H Q=>t σ H λvs a=>vs.length<=1000/\∀ x,a x=none->sp (.ref x :: vs) (upd a x (P5 x C none)) (λv b=>v=.non/\Q (.ref x) b) E
section
variable {X:Cx} {CX:CXT} {k:Nat} {f C:Addr} {fd:FuncData} {ps:List Str} {sp:Sp} {E:XK} {nm:Str} {p pos:Pos} {e:Expr} {es:List Expr} {t:TA}
theorem aV (M:XC X.K C) (hi:PySem.W.findIn X.K (.ref C) "__init__" = some (some (.ref f))) (hf:PySem.W.isFn X.K (.ref f)=true) (F:FnOk X.prog X.w X.K X.mg X.base CX k f fd ps sp) (hr:Room CX.q (k+1) X.A) (hg:Gl X nm) (hm:X.mg nm=some (.ref C)) (hb:Binds X.K fd ps []) (hx:v3 CX X E)
  (ha:PA X (e :: es) t) (hdb:(nm==("__debug__" : Str))=false:=by decide) (he:starEach (e :: es) X.env=(false,eval e X.env) :: starEach es X.env:=by rfl) (hpl:(backTo pos (starEach es X.env)).any (·.1)=false:=by rfl) :
  PE X (.Call (.Name nm p) (e :: es) [] pos) (zy C sp E t):=by
 intro pins s σ H Q I h;refine GR (G4 I hg hm ?_ hdb);refine IC I.ok.mod.kin M.kp (thn (ha pos pins s σ H _ I h) λus s1 ⟨vs,H1,I1,r,hl,q⟩=>⟨I1.kIn,?_⟩) he hpl;have hq:=q (s1.heap.objs.size+1) (I1.hok.fresh (GK _));have I2:=Inv.madeX (C:=C) (us:=us) I1;have r2:Vals (V.ref (s1.heap.objs.size+1) :: vs) (Value.ref (s1.heap.objs.size+1) :: us):=.cons rfl r;have hlen:(Value.ref (s1.heap.objs.size+1) :: us++[]).length=ps.length:=by
  have e:=r2.length;rw [F.len _ _ _ _ hq] at e;simpa using e.symm
 have hus:us.length<=sizeLine:=by
  have:=r.length;have z:(1000:Nat)<=sizeLine:=by decide
  omega
 have hb2:=hb _ (Value.ref (s1.heap.objs.size+1) :: us) I2.kIn hlen;rw [Gv] at hb2;refine Ib (DG (D4 I1.kIn M.ex) (PySem.W.looks_findIn I1.kIn hi) (λself=>PySem.W.bind_fn I1.kIn self (Ia.mp hf)) hus
  (Hm (F.run _ X.stack _ _ ⟨Value.ref (s1.heap.objs.size+1) :: us,[]⟩ _ _ _ E (hr.make C us []) (I2.env0.make C us []) hb2 r2 hq) λr s' hq'=>?_))
 cases r with
 | error e=>exact hx pins σ _ _ e s' I2 hq'
 | ok fl=>
  cases fl with
  | ret u=>
   obtain ⟨v,H',I3,rv,ev,q3⟩:=I2.after hq';subst ev;exact ⟨rv,⟨V.ref (s1.heap.objs.size+1),H',I3,rfl,q3⟩⟩
  | next=>exact False.elim hq'
  | brk=>exact False.elim hq'
  | cont=>exact False.elim hq'
end
theorem qM {o:HO} (h:H x=some o):upd H x o=H:=funext λb=>by
 by_cases e:b=x
 ·subst e;rw [b6,h]
 ·rw [a8 e]
def DD (K:PySem.W.Frag) (e g:TE) (f:Str):TS:=λD σ H=>g σ H λy b=>e σ b λc a=>∃ x C,c=.ref x/\XC K C/\t8 K C f /\
 ((a x=some (P5 x C none)/\∀ d,a d=none->D.nx σ (upd (upd a d (G6 d [(f,y)])) x (P5 x C (some d)))) \/
 ∃ d fs,d≠x/\a x=some (P5 x C (some d))/\a d=some (G6 d fs)/\fs.length<900/\D.nx σ (upd a d (G6 d (J9 f y fs))))
def CW (K:PySem.W.Frag) (e:TE) (f:Str):TE:=λσ H Q=>e σ H λb a=>∃ c x C d fs v,b=.ref x/\XC K C/\t8 K C f/\a x=some (N2 c x C (some d))/\a d=some (G6 d fs)/\fs.lookup f=some v/\Q v a
section
variable {X:Cx} {o e value:Expr} {f:Str} {pos pos':Pos} {ta tv:TE}
theorem E4 (ha:PE X o ta) (hv:PE X value tv) (hs:swapsWith value (some (.Attribute o f pos')) pos.line X.env=pure false):PS X (.Assign [.Attribute o f pos'] value pos) (DD X.K ta tv f):=by
 intro pins s σ H D I h;refine plainObj_wpAny_Assign_Attribute (thn (hv pins s σ H _ I h) λu s1 ⟨y,H1,I1,ry,q⟩=>thn (ha pins s1 σ H1 _ I1 q) λov s2 ⟨xv,H2,I2,rx,x,C,ex,M,n,q2⟩=>?_) hs;subst ex;obtain rfl:ov=Value.ref x:=rx;rcases q2 with ⟨e0,q2⟩ | ⟨d,fs,hdx,e0,e1,hl,q2⟩
 ·have i0:=I2.isX e0;obtain ⟨vs0,hx0,_⟩:=id i0;have nd:=I2.hok.fresh (FH _);have hne:=Jo (FK hx0);refine CH I2.kIn i0 M.xc M.vm M.sa n λh' t' i1 n1 k1=>?_;obtain ⟨vs1,hx1,_⟩:=id i1;obtain ⟨oD,esD,epD,hoD,rD⟩:=id n1;have m1:(h'.update x λ_=>{ cls:=.ref C,data:=.fields vs0 }).get? x=some { cls:=.ref C,data:=.fields vs0 }:=Gp _ hx1 rfl;have m2:∀ b,b≠x->(h'.update x λ_=>{ cls:=.ref C,data:=.fields vs0 }).get? b=h'.get? b:=λb hb=>Ip _ _ _ _ hb;have I3:Inv X pins σ (upd H2 s2.heap.objs.size (G6 s2.heap.objs.size [(f,y)])) { s2 with heap:=h'.update x λ_=>{ cls:=.ref C,data:=.fields vs0 },toks:=t' }:=by
   refine I2.laid (λb ob e=>?_) (FH _) (okD (n1.at λob e=>(m2 _ hne).trans e) (λg=>?_) (λg hg=>?_) (by show 1<=900;decide))
   ·grind
   ·show RelO (List.lookup g [(f,y)]) (if g=f then some u else none);rw [HJ,List.lookup_nil];by_cases q:g=f
    ·subst q;rw [if_pos rfl,show (g==g)=true from by simp];exact ry
    ·have:(g==f)=false:=by simpa using q
     rw [this,if_neg q];exact True.intro
   ·grind
  have I4:=I3.write (t':=t') (by rw [a8 hne.symm,e0];exact True.intro) (.inl rfl) (λb ob hb e=>((m2 b hb).symm.trans e)) ⟨_,hx1⟩ (okX i1);exact ⟨σ,_,I4,q2 _ nd⟩
 ·obtain ⟨mA,n0,r0,w0,l0⟩:=I2.isD e1;refine Ci I2.kIn (I2.isX e0) n0 hdx M.xc M.vm M.sa n w0 (by rw [Fu];omega) λh' t' n1 sb=>?_;obtain ⟨oD,esD,epD,hoD,rD⟩:=id n1;refine ⟨σ,_,I2.write (by rw [e1];exact True.intro) (.inl rfl) (λb ob hb e=>(sb.2 b hb).trans e) ⟨_,hoD⟩ (okD n1 (λg=>?_) (λg hg=>?_) ?_),q2⟩
  ·show RelO ((J9 f y fs).lookup g) (if g=f then some u else mA g);rw [X5];by_cases q:g=f
   ·rw [if_pos q,if_pos q];exact ry
   ·grind
  ·by_cases q:g=f
   ·rw [q];exact (U9 f y fs).1
   ·exact (U9 f y fs).2 g (w0 g λz=>hg (by show (if g=f then some u else mA g)=none;rw [if_neg q];exact z))
  ·have:=Y0 f y fs;omega
theorem vO (z:PE X e ta) (w:attributeBase e f X.env (eval e X.env)=eval e X.env):PE X (.Attribute e f pos) (CW X.K ta f):=by
 intro pins s σ H Q I h;refine wC w (thn (z pins s σ H _ I h) λu B ⟨F,m,a,o,A,x,C,d,fs,v,k,M,n,p,y,l,q⟩=>?_);subst k;obtain rfl:u=Value.ref x:=o;obtain ⟨mA,i,t,G,E⟩:=a.isD y;obtain ⟨od,b,r⟩:=L9 i;obtain ⟨ox,J⟩:=(a.isX p).inst1 b;have g:=t f;rw [l] at g;obtain ⟨D,j,c⟩:=RelO.some_of g;exact Do a.kIn J M.xc (PySem.W.findObj_own M.xc.hd n rfl (by rw [r,j])) (ky c) ⟨v,m,a.tok _,c,q⟩
def DV:V->Option Value
 | .ref a=>some (.ref a)
 | .ty n=>some (.type n)
 | _=>none
theorem ck:i5 X (.builtin "isinstance") (λxs H Q=>∃ g x C d y c b,xs=[.ref x,y]/\XC X.K C/\H x=some (N2 g x C d)/\(∀ d',d=some d'->∃ fs,H d'=some (G6 d' fs))/\DV y=some c/\PySem.W.kitOne X.K (.ref C) c=some b/\Q (.bl b) H):=by
 intro pins s σ H xs us Q I r h;obtain ⟨g,x,C,d,y,c,b,rfl,M,f,hd,i,o,q⟩:=h;obtain ⟨u,k,rfl,l,e⟩:=iZ r;cases (l);have m:k=c:=by
  cases y <;> first | (cases i;exact e) | cases i
 subst m;have J:∃ ox od,PySem.W.InstAt s.heap x ox C od:=by
  cases d with
  | none=>obtain ⟨ox,J⟩:=(I.isX f).inst0;exact ⟨ox,_,J⟩
  | some d'=>
   obtain ⟨fs,n⟩:=hd d' rfl;obtain ⟨mA,j,_⟩:=I.isD n;obtain ⟨od,a,_⟩:=L9 j;obtain ⟨ox,J⟩:=(I.isX f).inst1 a;exact ⟨ox,_,J⟩
 exact Hg (DS M.xc) I.kIn J o (λz=>nomatch z) λp=>⟨.bl b,H,I.tok _,rfl,q⟩
end
def TbO (T:Addr):HO:=.ext λh=>∃ o a,h.get? T=some o/\o.data=.fields a/\3<a.size
theorem okT {o:Obj} {a:Array Value} (e:h.get? T=some o) (d:o.data=.fields a) (z:3<a.size):ObjOk P w H h T (TbO T):=
 ⟨⟨o,a,e,d,z⟩,⟨o,e⟩,λc b ⟨o,a,e,d,z⟩ k=>⟨o,a,k _ e,d,z⟩⟩
structure Fx (K:PySem.W.Frag) (H:Hp) (a C:Addr) (d tb:Option Addr):Prop where
 xc:XC K C
 at_:H a=some (N2 tb a C d)
 dc:∀ d',d=some d'->d'≠a/\∃ fs,H d'=some (G6 d' fs)
 tb_:∀ T,tb=some T->T≠a/\H T=some (TbO T)
def Mv (H:Hp) (a C:Addr) (d:Option Addr) (H':Hp):Prop:=(∀ b o,b≠a->H b=some o->H' b=some o)/\∃ c,H' a=some (N2 c a C d)
section
variable {X:Cx} {pins:List (Addr×Obj)} {σ:St} {H:Hp} {s:Shared} {a C T:Addr} {d tb:Option Addr} {A:Around} {E:Value->Shared->Prop} {Q:Unit->Shared->Prop}
theorem Inv.slots (I:Inv X pins σ H s) (hs:Heap.SlotsOnly (frs X.stack) s.heap h'):Inv X pins σ H { s with heap:=h' }:=by
 have k:∀ b u,H b≠none->s.heap.get? b=some u->h'.get? b=some u:=λb u n e=>(hs.2.1 b λz=>n (I.stkFree b z)).trans e;have f:Un (frs X.stack) [] H H s.heap h':=⟨λb o e _ g _=>(hs.2.1 b g).trans e,λb o e _ _ _=>hs.2.2 b o e,λ_ _ _ n _=>n,λb o e _=>let ⟨h,q⟩:=hs.2.2 b o e;⟨_,q⟩,λ_ _ e=>e,λ_ _ _ e=>e,λb ps e=>⟨#[],by rw [e];simp⟩⟩;have d:=λb u e=>(I.hok b u e).stay (λc v a q=>k c v (by
  rcases a with a | a
  ·rw [a,e];simp
  ·rw [a];simp) q) (λ_ q=>q) λ_ _ q=>q
 exact I.call f d I.bare λb z=>absurd z (by simp)
theorem Fx.isX (b:Fx X.K H a C d tb) (I:Inv X pins σ H s):IsX tb s.heap a C d:=I.isX b.at_
theorem Inv.setTb (I:Inv X pins σ H s) (e:H T=some (TbO T)) (k:Inv X pins σ H { s with heap:=s.heap.update T (Obj.mapFields (·.setIfInBounds 3 v)) }->Q () { s with heap:=s.heap.update T (Obj.mapFields (·.setIfInBounds 3 v)) }) :
  wpAny (model X.prog X.w) A (setField (.ref T) 3 v) Q E s:=by
 obtain ⟨o,g,c,f,z⟩:=(I.hok T _ e).1;refine GW c f z (k ?_);have hd:=Obj.data_mapFields f (·.setIfInBounds 3 v);have d:=Gp (Obj.mapFields (·.setIfInBounds 3 v)) c (Obj.isFreed_of_fields hd);have a:=I.write (t':=s.toks) (by rw [e];exact True.intro) (.inl rfl) (λb u n q=>(GU _ _ (Ne.symm n)).trans q) ⟨_,d⟩ (okT d hd (by simpa using z));rw [qM e] at a;exact a
theorem eX (I:Inv X pins σ H s) (r:A.frames=some X.stack) (i:X.stack=X.env :: X.outer) (x:X.env.frame=some X.env.locals) (j:Fx X.K H a C d tb)
  (h:∀ H' s' T,Inv X pins σ H' s'->Fx X.K H' a C d (some T)->Mv H a C d H'->Q () s') :
  wpAny (model X.prog X.w) A (do let B <- frameOf X.env;let pl <- entryPlaceOf X.env.locals hadNext;let b <- EntryCells.newEntry head B .none (rawInt X.env.locals) .none pl;setField (.ref a) 1 b) Q E s:=by
 have p:=I.stack;rw [i] at p r;refine Fq (wpAny_frameOf_fun r p x λc e=>?_);have v:=I.slots (by rw [i];exact e);refine Fq (wpAny_entryPlaceOf λpl l=>?_);refine Fq (Gi ?_ (l.sizeOk5 _ _ _ _ _));have D:=FJ c (o:={ cls:=.type "traceback",dict:=none,data:=.fields ([head,.ref X.env.locals,.none,rawInt X.env.locals,.none]++(if pl.isEmpty then List.replicate 6 Value.none else pl)).toArray }) rfl;have m:=v.laid (t':=s.toks) (λb u q=>Ft _ q) (FH _)
  (okT D rfl (by simp <;> omega))
 have k:=v.hok.fresh (FH _);have f:c.objs.size≠a:=λz=>by rw [z,j.at_] at k;cases k
 have t:upd H c.objs.size (TbO c.objs.size) a=some (N2 tb a C d):=by rw [a8 f.symm];exact j.at_
 generalize (c.push { cls:=.type "traceback",dict:=none,data:=.fields ([head,.ref X.env.locals,.none,rawInt X.env.locals,.none]++(if pl.isEmpty then List.replicate 6 Value.none else pl)).toArray })=h₂ at m ⊢;obtain ⟨vs,g,hsz,F⟩:=m.isX t;refine GW g rfl (by omega) ?_;have w:=Gp (Obj.mapFields (·.setIfInBounds 1 (Value.ref c.objs.size))) g rfl;have y:=m.write (t':=s.toks) (o:=N2 (some c.objs.size) a C d) (by rw [t];exact True.intro) (.inl rfl)
  (λb u n q=>(GU _ _ (Ne.symm n)).trans q) ⟨_,w⟩ (okX ⟨_,w,by simpa using hsz,by simp [tbV,hsz]⟩)
 refine h _ _ c.objs.size y ⟨j.xc,b6,λd' z=>?_,λT z=>?_⟩ ⟨λb o n q=>?_,_,b6⟩
 ·obtain ⟨n,fs,q⟩:=j.dc d' z;exact ⟨n,fs,by rw [a8 n,a8 (b9 q k)];exact q⟩
 ·cases z;exact ⟨f,by rw [a8 f];exact b6⟩
 ·rw [a8 n,a8 (b9 q k)];exact q
theorem ik (I:Inv X pins σ H s) (i:A.frames=some X.stack) (f:X.stack=X.env :: X.outer) (g:X.env.frame=some X.env.locals) (c:Fx X.K H a C d tb)
  (h:∀ H' s' T,Inv X pins σ H' s'->Fx X.K H' a C d (some T)->Mv H a C d H'->Q () s'):wpAny (model X.prog X.w) A (noteFrame (.ref a) X.env) Q E s:=by
 obtain ⟨vs,e,hsz,j⟩:=c.isX I;unfold noteFrame;simp only [g];cases tb with
 | none=>
  refine Fq (GP e rfl j ?_);rw [if_neg (by decide)];exact eX I i f g c h
 | some T=>
  refine Fq (GP e rfl (x:=.ref T) j ?_);rw [if_pos (show (Value.ref T != Value.none)=true from by simp)];obtain ⟨t,k⟩:=c.tb_ T rfl;obtain ⟨o,p,n,r,z⟩:=(I.hok T _ k).1;refine Fq (GP n r (Hw z) ?_);by_cases l:(p[3]==rawInt X.env.locals)=true
  ·rw [if_pos l];exact Fs (h H s T I c ⟨λb o _ q=>q,_,c.at_⟩)
  ·rw [if_neg l];exact Fq (I.setTb k λm=>eX m i f g c h)
theorem M9 (I:Inv X pins σ H s) (c:Fx X.K H a C d (some T)) (h:∀ s',Inv X pins σ H s'->Q () s'):wpAny (model X.prog X.w) A (setFlight (.ref a) fl) Q E s:=by
 obtain ⟨vs,b,hsz,f⟩:=c.isX I;refine Fq (GP b rfl (x:=.ref T) f ?_);rw [if_pos (show (Value.ref T != Value.none)=true from by simp)];exact I.setTb (c.tb_ T rfl).2 λe=>h _ e
theorem gT (I:Inv X pins σ H s) (f:A.frames=some X.stack) (c:X.stack=X.env :: X.outer) (i:X.env.frame=some X.env.locals) (l:Fx X.K H a C d tb)
  (h:∀ H' s' T,Inv X pins σ H' s'->Fx X.K H' a C d (some T)->Mv H a C d H'->Q () s'):wpAny (model X.prog X.w) A (leaving X.env (.ref a)) Q E s:=by
 exact Fq (ik I f c i l λg n T k b j=>M9 k b λm e=>h g m T e b j)
end
end L2
namespace L2
open PySem PySem.W PySem.Calls PySem.Spec PyProof.Rows
section
variable {prog:Program} {w:World} {A:Around} {E:Value->Shared->Prop} {s:Shared} {K:Frag} {env:PySem.Env}
theorem dE (m:A.handled=none)
  (h:wpAny (model prog w) A x (λv c=>∃ a C d,v=.ref a/\K.In c.heap/\XC K C/\IsX none c.heap a C d/\E (.ref a) c) E s):wpAny (model prog w) A (raiseStmt env (some x) none) Q E s:=by
 refine Fq (Gs h (λv c i=>?_) λ_ _ x=>x);obtain ⟨a,C,d,rfl,X,M,⟨vs,b,hsz,k⟩,l⟩:=i;have Y:=D4 (M:=model prog w) X M.ex;have e:Looks (model prog w) c.heap (typeOf (.ref a)) (.ref C):=(Looks.ld b).andThen .now;have f:Looks (model prog w) c.heap (isType (.ref a)) false:=(Looks.ld b).andThen .now;have g:Looks (model prog w) c.heap (isInstance (.ref a) (.type "BaseException")) true:=e.andThen Y.isB;have j:=Y.ty;refine Fq (Fs (Fq (GD (Fq (Fq (f.here ?_))))));refine Fs ?_;refine Fq (g.here ?_);refine Fs (Fq (f.here ?_));refine Fq (Fq (e.here (Fq (j.here ?_))));rw [if_pos (by rfl)];refine Fs (Fq (Fq (GP b rfl k ?_)));rw [if_neg (by decide)];exact Fs (wpAny_raiseNew_none m l)
theorem hG {a C T:Addr} {d o:Option Addr} {b:Bool} {Q:Bool->Shared->Prop} (X:K.In s.heap) (M:XC K C) (l:XC K T) (i:IsX o s.heap a C d) (c:kitOne K (.ref C) (.ref T)=some b) (h:Q b s) :
  wpAny (model prog w) A (excMatches (.ref a) (.ref T)) Q E s:=by
 obtain ⟨vs,g,hsz,p⟩:=i;have Y:=D4 (M:=model prog w) X M.ex;have f:=D4 (M:=model prog w) X l.ex;have n:Looks (model prog w) s.heap (typeOf (.ref a)) (.ref C):=(Looks.ld g).andThen .now;have k:Looks (model prog w) s.heap (isInstance (.ref T) (.type "tuple")) false:=f.ty.andThen (Looks.of_pure tc_notTuple);have m:Looks (model prog w) s.heap (isExcClass (.ref T)) true:=f.isT.andThen f.isB;have j:Looks (model prog w) s.heap (isSubtype (.ref C) (.ref T)) b:=by
  unfold kitOne at c;by_cases e:((Value.ref C:Value)==.ref T)=true
  ·rw [if_pos e] at c;cases c;cases (Kt e);exact Y.self
  ·rw [if_neg e] at c;exact (kit_cls X c).2.2
 refine Fq (k.here ?_);simp only [Hb,Km];refine Fq (Fs ?_);rw [HU];refine Fq (Fq (Fq (m.here ?_)));refine Fs ?_;dsimp only;rw [Jx];refine Fs (Fq (n.here ?_));rw [HU];refine Fq (Fq (Fq (j.here ?_)));cases b with
 | true=>exact Fs (Fs (Fs h))
 | false=>
  refine Fs ?_;dsimp only;rw [Jx];exact Fs (Fs h)
end
end L2
namespace L2
open PySem PySem.Spec PyProof.Rows
def fC (X:Cx) (v:Value):Cx:={ X with A:=X.A.mark (some v),calm:=false,xe:=λ_ _=>False }
section
variable {X:Cx} {pins:List (Addr×Obj)} {σ:St} {H:Hp} {s:Shared} {v:Value}
theorem Inv.hushed (I:Inv X pins σ H s) (v:Value):Inv (fC X v) pins σ H s:=
 have a:=I.ok
 ⟨⟨a.mod,a.kind,a.glob,a.blt,a.above,a.inj,a.has,a.cab,λz=>absurd (show (false:Bool)=true from z) (by decide),a.frames,a.stk,a.exf,a.bs,a.bsz,a.noex,a.exfs,a.funs,a.frf⟩,I.os,I.bare,I.base,I.loc,I.cell,I.free,I.freeC,I.pin,I.hok,I.len⟩
theorem Inv.unhush (a:X.Ok) (I:Inv (fC X v) pins σ H s):Inv X pins σ H s:=⟨a,I.os,I.bare,I.base,I.loc,I.cell,I.free,I.freeC,I.pin,I.hok,I.len⟩
theorem aH {M:Model} {A:Around} {E:Value->Shared->Prop} {i:Nat} {x:Str} {pos:Pos} {Q:Unit->Shared->Prop} (I:Inv X pins σ H s) (hN:X.N.Nodup) (hi:X.N[i]?=some x) (hk:X.env.scope.names.lookup x=some .local)
  (h:∀ s',Inv X pins (σ.set i none) H s'->Q () s'):wpAny M A (do bindName X.env x .none;unbindBehindTheSuite X.env x pos) Q E s:=by
 obtain ⟨m,hn,hl⟩:=id I.loc;have hcls:(X.env.scope.kind==.class||(X.env.scope.kind==.module&&X.env.locals != X.env.globals))=false:=by rw [I.ok.kind];rfl
 have hiσ:i<σ.length:=by rw [I.len];exact (Fv.mp hi).1
 have cne:=I.cne;refine wpAny_nameGoes_keeps hk hn hcls λh' v hn' hs=>?_;have tracked:HOk X.prog X.w H h':=λb ob e=>by
  refine (I.hok b ob e).stay (λc w' hc q=>(hs.2 c ?_).trans q) (λ_ q=>q) λ_ _ q=>q;rintro rfl;rcases hc with hc | hc
  ·rw [<- hc,I.free] at e;cases e
  ·rw [I.free] at hc;cases hc
 refine h _ ⟨I.ok,I.os,I.bare,⟨λb o e n hb hx=>?_,λb o e n hb hx=>?_,I.base.free,λb o e hx=>?_,I.base.tups,I.base.frzs,I.base.tbls⟩,⟨_,hn',λj y v' e1 e2 e3=>?_⟩,λy c e=>?_,I.free,I.freeC,λp hp=>?_,tracked,by simpa using I.len⟩
 ·exact (hs.2 b (FN (Ga (FK e) I.ok.above))).trans (I.base.keep b o e n hb hx)
 ·obtain ⟨sl,e1⟩:=I.base.slot b o e n hb hx;exact ⟨sl,(hs.2 b (FN (Ga (FK e) I.ok.above))).trans e1⟩
 ·obtain ⟨o',e1⟩:=I.base.there b o e hx;exact ⟨o',(hs.2 b (FN (Ga (FK e) I.ok.above))).trans e1⟩
 ·by_cases hj:j=i
  ·subst hj;rw [Ge hiσ] at e2;cases e2
  ·rw [FS (Ne.symm hj)] at e2;obtain ⟨u',r',q⟩:=hl j y v' e1 e2 e3;refine ⟨u',r',?_⟩;rcases q with ⟨k,e⟩ | ⟨k,c,e,z⟩
   ·refine .inl ⟨k,?_⟩;have:y≠x:=λe=>hj (ah hN e1 (e▸hi));simp [this,e]
   ·exact .inr ⟨k,c,e,z.sameBut hs (cne y c e)⟩
 ·obtain ⟨w',z⟩:=I.cell y c e;exact ⟨w',z.sameBut hs (cne y c e)⟩
 ·obtain ⟨e,n,ne,nf,d⟩:=I.pin p hp;exact ⟨(hs.2 p.1 ne).trans e,n,ne,nf,d⟩
end
section
variable {X:Cx} {pins:List (Addr×Obj)} {σ:St} {H:Hp} {s:Shared}
theorem zE (hg:X.A.guards=some []) (hu:X.A.units+80<cLine) (I:Inv X pins σ H s) (hd:DAt X.K H v d) (ru:RelV v u) (S:Shows d) (hl:d.shown.length<=4000) (hx:∀ x,v=.str x->x.length<=4000) :
  wpAny (model X.prog X.w) X.A (formatField u Str.empty) (λz s'=>∃ y t,z=.str y t/\y.length<=4000/\Inv X pins σ H s') E s:=by
 have sh:=S.sh;have sz:=S.sz;have big:(4000:Nat)<=sizeLine:=by decide
 cases hd with
 | non=>cases (ru);exact wpAny_formatField_none ⟨_,_,rfl,hl,I.tok _⟩
 | bl b=>cases (ru);exact wpAny_formatField_bool ⟨_,_,rfl,hl,I.tok _⟩
 | int i=>obtain ⟨t,e⟩:=(ru);subst e;exact formatField_int_small (by simpa [PyData.showable] using sh) ⟨_,_,rfl,hl,I.tok _⟩
 | str x=>obtain ⟨t,e⟩:=(ru);subst e;exact formatField_str (λt' tk=>⟨_,_,rfl,hx x rfl,I.tok _⟩) (Gd (hx x rfl) big)
 | lst h1 h2=>
  obtain ⟨as,rr⟩:=DAt.reads I (.lst h1 h2) ru;obtain ⟨a,rfl⟩:=Jy rr rfl;exact formatField_of_reads rr sh (IM S.nd) hg (by have:=S.dp;omega) (λ_ _ e=>e) (λh' u tk hk=>⟨_,_,rfl,hl,I.kept hk⟩) sz
 | tup h1 h2=>
  obtain ⟨as,rr⟩:=DAt.reads I (.tup h1 h2) ru;obtain ⟨a,rfl⟩:=Jy rr rfl;exact formatField_of_reads rr sh (IM S.nd) hg (by have:=S.dp;omega) (λ_ _ e=>e) (λh' u tk hk=>⟨_,_,rfl,hl,I.kept hk⟩) sz
end
theorem av {Q c:Str->Shared->Prop} (k:∀ out s,Q out s->c out s):∀ (a:List (Sem Value)) (b:Str) (s:Shared),Joins M A E a b Q s->Joins M A E a b c s
 | [],b,s,h=>k _ _ h
 | x :: r,b,s,h=>Gs h (λv d ⟨y,t,e,l,q⟩=>⟨y,t,e,l,av k r _ d q⟩) λ_ _ z=>z
abbrev TF:=St->Hp->(Hp->Prop)->Prop
def PFs (X:Cx) (es:List Expr) (n:Nat) (t:TF):Prop:=
 ∀ (a:Str) (pins:List (Addr×Obj)) (s:Shared) (σ:St) (H:Hp) (Q:Hp->Prop),a.length+n<=sizeLine->Inv X pins σ H s->t σ H Q ->
  Joins (model X.prog X.w) X.A X.xe (evalEach es X.env) a (λout b=>out.length<=sizeLine/\∃ H',Inv X pins σ H' b/\Q H') s
def fNil:TF:=λ_ H Q=>Q H
def EX (K:PySem.W.Frag) (te:TE) (t:TF):TF:=λσ H Q=>te σ H λv a=>∃ d,DAt K a v d/\Shows d/\d.shown.length<=4000/\(∀ x,v=.str x->x.length<=4000)/\t σ a Q
section
variable {X:Cx} {e:Expr} {es:List Expr} {n:Nat} {t:TF} {te:TE} {pos:Pos}
theorem R7:PFs X [] 0 fNil:=λa pins s σ H Q b I q=>⟨by omega,H,I,q⟩
theorem B1 (h:PFs X es n t) (c:x.length<=1000:=by decide):PFs X (.Constant (.str x) k pos :: es) (1000+n) t:=λa pins s σ H Q b I q=>by
 refine Calls.Constant_str ⟨x,_,rfl,?_,?_⟩
 ·rw [JR];omega
 ·exact h (a++x) pins _ σ H Q (by rw [JR];omega) (I.tok _) q
theorem E1 (o:X.A.guards=some []) (j:X.A.units+80<cLine) (g:PE X e te) (h:PFs X es n t):PFs X (.FormattedValue e (-1) none pos :: es) (4000+n) (EX X.K te t):=λa pins s σ H Q x I q=>by
 refine wpAny_FormattedValue_plain (thn (g pins s σ H _ I q) λu A ⟨v,m,i,l,d,hd,S,f,w,p⟩=>?_);refine thn (zE o j i hd l S f w) λz b ⟨y,r,c,B,k⟩=>?_;refine ⟨y,r,c,?_,?_⟩
 ·rw [JR];omega
 ·exact h (a++y) pins b σ m Q (by rw [JR];omega) k p
def tFs (t:TF):TE:=λσ H Q=>t σ H λH'=>∀ z:Str,z.length<=sizeLine->Q (.str z) H'
theorem S9 (h:PFs X (e :: e2 :: es) n t) (f:n<=100000):PE X (.JoinedStr (e :: e2 :: es) pos) (tFs t):=by
 intro pins s σ H Q I q;refine wpAny_JoinedStr ?_;have d:(100000:Nat)<=sizeLine:=by decide
 have a:=h Str.empty pins s σ H _ (by show 0+n<=sizeLine;omega) I q;exact av (λout g ⟨l,H',c,b⟩=>⟨l,.str out,H',c.tok _,⟨_,rfl⟩,b out l⟩) _ _ _ a
theorem L1 {f B:Addr} {fd:FuncData} {ps:List Str} {sp:Sp} {E:XK} {b m:Str} {p a:Pos} {pl:Sem Bool} {j:Value} {n:TA}
  (A:Gl X b) (z:X.mg b=some (.ref B)) (hs:PySem.W.specialIn X.K (.ref B) "__getattribute__" = some (some (.builtin "type.__getattribute__"))) (d:PySem.W.readsIn X.K B j=true) (y:PySem.W.findCls X.K (.ref B) j m=some (.val (.ref f))) (u:PySem.W.keepIn X.K (.ref f)=true)
  (F:FnOk X.prog X.w X.K X.mg X.base CX k f fd ps sp) (v:Room CX.q k X.A) (x:Binds X.K fd ps []) (C:v3 CX X E) (t:PA X (e :: es) n)
  (g:(b==("__debug__" : Str))=false:=by decide) (c:starEach (e :: es) X.env=(false,eval e X.env) :: starEach es X.env:=by rfl) (i:(backTo pos (starEach es X.env)).any (·.1)=false:=by rfl)
  (w:eval (.Call (.Attribute (.Name b p) m a) (e :: es) [] pos) X.env=(do
   let o <- eval (.Name b p) X.env
   standAt a.atName
   let (f,first) <- holding [o] (getMethod o m pl)
   callWith pos f first (backTo pos (starEach (e :: es) X.env)) (backToKw pos (keywordEach [] X.env))):=by rfl) :
  PE X (.Call (.Attribute (.Name b p) m a) (e :: es) [] pos) (pX sp [] E n):=by
 intro pins s σ H Q I h;refine PySem.W.methodCall_KW (G4 I A z ?_ g) w;refine PySem.W.method_cls I.kIn hs (PySem.W.cls_value I.kIn d y rfl ?_);refine IC I.ok.mod.kin u (thn (t pos pins _ σ H _ (I.tok _) h) λus G ⟨vs,D,l,r,q⟩=>⟨l.kIn,?_⟩) c i;exact iB F v x .nil C l r q
def zv (K:PySem.W.Frag) (b:TA):TE:=λσ H Q=>b σ H λvs a=>∃ x C d y,vs=[.ref x,y]/\XC K C/\a x=some (P5 x C d)/\Q .non a
theorem pH {p apos:Pos} {pl:Sem Bool} {ta:TA} (hg:Gl X "ValueError") (hm:X.mg "ValueError" = none) (hf:PySem.W.findCls X.K (.type "ValueError") (.type "type") "__init__" = some (.val (.builtin "ValueError.__init__"))) (ha:PA X (e :: es) ta)
  (hst:starEach (e :: es) X.env=(false,eval e X.env) :: starEach es X.env:=by rfl) (hpl:(backTo pos (starEach es X.env)).any (·.1)=false:=by rfl)
  (ht:eval (.Call (.Attribute (.Name "ValueError" p) "__init__" apos) (e :: es) [] pos) X.env=(do
   let ov <- eval (.Name "ValueError" p) X.env
   standAt apos.atName
   let (f,first) <- holding [ov] (getMethod ov "__init__" pl)
   callWith pos f first (backTo pos (starEach (e :: es) X.env)) (backToKw pos (keywordEach [] X.env))):=by rfl) :
  PE X (.Call (.Attribute (.Name "ValueError" p) "__init__" apos) (e :: es) [] pos) (zv X.K ta):=by
 intro pins s σ H Q I h;refine PySem.W.methodCall_KW (pl:=pl) (G0 I hg hm (show bootBuiltins "ValueError" = some (.type "ValueError") by rfl) ?_) ht;obtain ⟨m,hfr⟩:=I.fr;refine PySem.W.method_type hfr I.ok.mod.kin (by rfl) (by decide +kernel) hf rfl ?_;refine HI (thn (ha pos pins _ σ H _ (I.tok _) h) λus s1 ⟨vs,H1,I1,r,x,C,d,y,ev,M,e0,q⟩=>?_) hst hpl;subst ev;obtain ⟨u,u2,rfl,ru,ru2⟩:=iZ r;cases (show u=Value.ref x from ru);refine Ib (Av I1.kIn (I1.isX e0) M.ex λh' k1 i1=>?_);obtain ⟨vs1,hx1,_⟩:=id i1;have I2:=I1.write (h':=h') (t':=s1.toks) (x:=x) (e:=x) (o:=P5 x C d) (by rw [e0];exact True.intro) (.inl rfl) (λb ob hb z=>k1 b ob hb z) ⟨_,hx1⟩ (okX i1);rw [qM e0] at I2;exact ⟨.non,H1,I2,rfl,q⟩
end
end L2
namespace Hn
open PySem L2
def spHE (K:PySem.W.Frag):Sp:=λvs H Q _=>∃ (x:Addr) (y:V) (C:Addr) (d:Option Addr),vs=[.ref x,y]/\XC K C/\H x=some (P5 x C d)/\Q .non H
structure Fmt (K:PySem.W.Frag) (H:Hp) (v:V) (d:PyData):Prop where
 at_:DAt K H v d
 sh:Shows d
 l1:d.shown.length<=4000
 l2:∀ x,v=.str x->x.length<=4000
def Got (H:Hp) (x C:Addr) (fs:List (Str×V)) (H':Hp):Prop:=∃ d,H d=none/\d≠x/\H' x=some (P5 x C (some d))/\H' d=some (G6 d fs)/\∀ b,b≠x->b≠d->H' b=H b
def sp1 (K:PySem.W.Frag) (f:Str):Sp:=λvs H Q _=>∃ (x:Addr) (v:V) (C:Addr) (a:PyData),vs=[.ref x,v]/\XC K C/\t8 K C f/\H x=some (P5 x C none)/\Fmt K H v a/\∀ H',Got H x C [(f,v)] H'->Q .non H'
def sp2 (K:PySem.W.Frag) (f g:Str):Sp:=λvs H Q _=>∃ (x:Addr) (v u:V) (C:Addr) (a b:PyData),vs=[.ref x,v,u]/\XC K C/\t8 K C f/\t8 K C g/\H x=some (P5 x C none)/\Fmt K H v a/\Fmt K H u b /\
 ∀ H',Got H x C [(f,v),(g,u)] H'->Q .non H'
structure TxE (K:PySem.W.Frag) (mg:Str->Option Value) (B fB:Addr):Prop where
 mV:mg "ValueError" = none
 fV:PySem.W.findCls K (.type "ValueError") (.type "type") "__init__" = some (.val (.builtin "ValueError.__init__"))
 mB:mg "HandError" = some (.ref B)
 sB:PySem.W.specialIn K (.ref B) "__getattribute__" = some (some (.builtin "type.__getattribute__"))
 rB:PySem.W.readsIn K B (.type "type")=true
 cB:PySem.W.findCls K (.ref B) (.type "type") "__init__" = some (.val (.ref fB))
 kB:PySem.W.keepIn K (.ref fB)=true
theorem ij (v u:V):J9 ("at" : Str) u ([("word",v)]:List (Str×V))=([("word",v),("at",u)]:List (Str×V)):=by
 show (if ("word" : Str) = "at" then [(("word" : Str),u)] else (("word" : Str),v) :: J9 "at" u [])=([("word",v),("at",u)]:List (Str×V));rw [if_neg (by decide +kernel)];rfl
section
variable {K:PySem.W.Frag}
theorem Fmt.laid {v:V} {d:PyData} (h:Fmt K H v d) (a:H x=none):Fmt K (upd H x o) v d:=⟨h.at_.keeps (Keeps.laid a),h.sh,h.l1,h.l2⟩
end
end Hn
namespace L3
open PySem PySem.Spec PyProof.Rows L2
inductive D where
 | non | bl (b:Bool) | int (i:Int) | str (x:Str) | tup (ds:List D) | lst (ds:List D) | scr (ds:List D) | ref (n:Nat)
inductive O where
 | lst (ds:List D) | dct (kvs:List (Key×D)) | exc (c:Nat) (fs:List (Str×D))
abbrev Sto:=List O
inductive R (α:Type) where
 | ok (a:α) (S:Sto) | exn (n:Nat) (S:Sto) | bad
abbrev M (α:Type):=Sto->R α
def ret {b:Type} (a:b):M b:=λS=>.ok a S
def bad {a:Type}:M a:=λ_=>.bad
def bind {c b:Type} (m:M c) (k:c->M b):M b:=λS=>match m S with
 | .ok a S'=>k a S'
 | .exn n S'=>.exn n S'
 | .bad=>.bad
abbrev Env:=List (Option D)
structure Mp where
 pl:List Addr
 rs:List Addr
def Mp.push (μ:Mp) (p:Addr):Mp:=⟨μ.pl++[p],μ.rs⟩
def TupAt (K:PySem.W.Frag) (μ:Mp) (H:Hp) (a:Addr) (xs:List V):Prop:=
 (Rd H a (.tup xs)/\a∉μ.pl/\a∉μ.rs)\/∃ (o:Obj) (b:Array Value) (n:Nat),K.lookup a=some o/\o.cls=.type "tuple"/\o.data=.seq b n/\b.size<=sizeLine/\Vals xs b.toList/\o.dict=none
def ScrAt (K:PySem.W.Frag) (μ:Mp) (H:Hp) (a:Addr) (xs:List V):Prop:=
 (Rd H a (.lst xs)/\a∉μ.pl/\a∉μ.rs)\/∃ (o:Obj) (b:Array Value) (n:Nat),K.lookup a=some o/\o.cls=.type "list"/\o.dict=none/\o.data=.seq b n/\b.size<=sizeLine/\Vals xs b.toList
def LstAt (μ:Mp) (H:Hp) (a:Addr) (xs:List V):Prop:=H a=some (.lst xs)/\a∉μ.pl/\a∉μ.rs
theorem TupAt.sq {K:PySem.W.Frag} {μ:Mp} {H:Hp} {a:Addr} {xs:List V} (h:TupAt K μ H a xs):SqT K H a xs:=h.imp (λz=>z.1) λ⟨o,f,n,a,b,c,d,e,_⟩=>⟨o,f,n,a,b,c,d,e⟩
theorem ScrAt.sq {K:PySem.W.Frag} {μ:Mp} {H:Hp} {a:Addr} {xs:List V} (h:ScrAt K μ H a xs):SqL K H a xs:=h.imp (λz=>z.1) id
theorem LstAt.sq {K:PySem.W.Frag} {μ:Mp} {H:Hp} {a:Addr} {xs:List V} (h:LstAt μ H a xs):SqL K H a xs:=.inl (.inl h.1)
mutual
inductive RD (K:PySem.W.Frag) (μ:Mp) (H:Hp):D->V->Prop where
 | non:RD K μ H .non .non
 | bl (b:Bool):RD K μ H (.bl b) (.bl b)
 | int (i:Int):RD K μ H (.int i) (.int i)
 | str (x:Str):RD K μ H (.str x) (.str x)
 | tup {a:Addr} {xs:List V} {ds:List D}:TupAt K μ H a xs->RDs K μ H ds xs->RD K μ H (.tup ds) (.ref a)
 | lst {a:Addr} {xs:List V} {ds:List D}:LstAt μ H a xs->RDs K μ H ds xs->RD K μ H (.lst ds) (.ref a)
 | scr {a:Addr} {xs:List V} {ds:List D}:ScrAt K μ H a xs->RDs K μ H ds xs->RD K μ H (.scr ds) (.ref a)
 | ref {n:Nat} {a:Addr}:μ.pl[n]?=some a->RD K μ H (.ref n) (.ref a)
inductive RDs (K:PySem.W.Frag) (μ:Mp) (H:Hp):List D->List V->Prop where
 | nil:RDs K μ H [] []
 | cons {d:D} {v:V} {ds:List D} {vs:List V}:RD K μ H d v->RDs K μ H ds vs->RDs K μ H (d :: ds) (v :: vs)
end
structure Lat (μ:Mp) (H:Hp) (μ':Mp) (H':Hp):Prop where
 pre:∀ (n:Nat) (a:Addr),μ.pl[n]?=some a->μ'.pl[n]?=some a
 oth:∀ a o,H a=some o->a∉μ.pl->H' a=some o
 new:∀ a,a∈μ'.pl->a∈μ.pl\/H a=none
 rsv:μ'.rs=μ.rs
theorem Lat.refl (μ:Mp) (H:Hp):Lat μ H μ H:=⟨λ_ _ h=>h,λ_ _ h _=>h,λ_ h=>.inl h,rfl⟩
theorem Lat.out {H H':Hp} (l:Lat μ H μ' H') {a:Addr} {o:HO} (h:H a=some o) (n:a∉μ.pl):a∉μ'.pl:=λz=>by
 rcases l.new a z with q | q
 ·exact n q
 ·rw [h] at q;cases q
theorem Lat.trans {H c b:Hp} (l:Lat μ H μ1 c) (k:Lat μ1 c μ2 b):Lat μ H μ2 b:=by
 refine ⟨λn a h=>k.pre n a (l.pre n a h),λa o h n=>k.oth a o (l.oth a o h n) (l.out h n),λa h=>?_,k.rsv.trans l.rsv⟩;rcases k.new a h with q | q
 ·exact l.new a q
 ·by_cases m:a∈μ.pl
  ·exact .inl m
  ·right
   cases e:H a with
   | none=>rfl
   | some o=>rw [l.oth a o e m] at q;cases q
theorem Rd.later {H H':Hp} (l:Lat μ H μ' H') {a:Addr} {u:HO} (h:Rd H a u) (n:a∉μ.pl):Rd H' a u/\a∉μ'.pl:=by
 rcases h with h | ⟨o,h⟩
 ·exact ⟨.inl (l.oth _ _ h n),l.out h n⟩
 ·exact ⟨.inr ⟨o,l.oth _ _ h n⟩,l.out h n⟩
theorem TupAt.later {K:PySem.W.Frag} {μ μ':Mp} {H H':Hp} (l:Lat μ H μ' H') {a:Addr} {xs:List V} (h:TupAt K μ H a xs):TupAt K μ' H' a xs:=h.imp (λz=>⟨(Rd.later l z.1 z.2.1).1,(Rd.later l z.1 z.2.1).2,by rw [l.rsv];exact z.2.2⟩) id
theorem ScrAt.later {K:PySem.W.Frag} {μ μ':Mp} {H H':Hp} (l:Lat μ H μ' H') {a:Addr} {xs:List V} (h:ScrAt K μ H a xs):ScrAt K μ' H' a xs:=h.imp (λz=>⟨(Rd.later l z.1 z.2.1).1,(Rd.later l z.1 z.2.1).2,by rw [l.rsv];exact z.2.2⟩) id
theorem LstAt.later {H H':Hp} (l:Lat μ H μ' H') {a:Addr} {xs:List V} (h:LstAt μ H a xs):LstAt μ' H' a xs:=⟨l.oth _ _ h.1 h.2.1,l.out h.1 h.2.1,by rw [l.rsv];exact h.2.2⟩
mutual
theorem RD.later {K:PySem.W.Frag} {μ μ':Mp} {H H':Hp} (l:Lat μ H μ' H'):∀ {d:D} {v:V},RD K μ H d v->RD K μ' H' d v
 | _,_,.non=>.non
 | _,_,.bl b=>.bl b
 | _,_,.int i=>.int i
 | _,_,.str x=>.str x
 | _,_,.tup h r=>.tup (h.later l) (RDs.later l r)
 | _,_,.lst h r=>.lst (h.later l) (RDs.later l r)
 | _,_,.scr h r=>.scr (h.later l) (RDs.later l r)
 | _,_,.ref h=>.ref (l.pre _ _ h)
theorem RDs.later {K:PySem.W.Frag} (l:Lat μ H μ' H'):∀ {ds:List D} {vs:List V},RDs K μ H ds vs->RDs K μ' H' ds vs
 | _,_,.nil=>.nil
 | _,_,.cons h r=>.cons (RD.later l h) (RDs.later l r)
end
section
variable {K:PySem.W.Frag} {μ:Mp} {H:Hp}
theorem RDs.length:∀ {ds:List D} {vs:List V},RDs K μ H ds vs->ds.length=vs.length
 | _,_,.nil=>rfl
 | _,_,.cons _ r=>by simp [RDs.length r]
theorem RDs.get:∀ {ds:List D} {vs:List V} {i:Nat} {d:D},RDs K μ H ds vs->ds[i]?=some d->∃ v,vs[i]?=some v/\RD K μ H d v
 | _,_,_,_,.nil,e=>by simp at e
 | _,_,0,_,.cons h _,e=>by simp at e;subst e;exact ⟨_,rfl,h⟩
 | _,_,i+1,d,.cons _ r,e=>by
  obtain ⟨v,b,a⟩:=RDs.get r (by simpa using e);exact ⟨v,by simpa using b,a⟩
theorem RDs.append:∀ {ds es:List D} {vs us:List V},RDs K μ H ds vs->RDs K μ H es us->RDs K μ H (ds++es) (vs++us)
 | _,_,_,_,.nil,s=>s
 | _,_,_,_,.cons h r,s=>.cons h (RDs.append r s)
theorem RDs.take:∀ {ds:List D} {vs:List V} (n:Nat),RDs K μ H ds vs->RDs K μ H (ds.take n) (vs.take n)
 | _,_,0,_=>by simpa using RDs.nil
 | _,_,_+1,.nil=>by simpa using RDs.nil
 | _,_,n+1,.cons h r=>by simpa using RDs.cons h (RDs.take n r)
theorem RDs.drop:∀ {ds:List D} {vs:List V} (n:Nat),RDs K μ H ds vs->RDs K μ H (ds.drop n) (vs.drop n)
 | _,_,0,h=>by simpa using h
 | _,_,_+1,.nil=>by simpa using RDs.nil
 | _,_,n+1,.cons _ r=>by simpa using RDs.drop n r
theorem RDs.set (q:RD K μ H d v):∀ {ds:List D} {vs:List V} (n:Nat),RDs K μ H ds vs->RDs K μ H (ds.set n d) (vs.set n v)
 | _,_,_,.nil=>by simpa using RDs.nil
 | _,_,0,.cons h r=>by simpa using RDs.cons q r
 | _,_,n+1,.cons h r=>by simpa using RDs.cons h (RDs.set q n r)
theorem RDs.rep (r:RDs K μ H ds vs):∀ k:Nat,RDs K μ H (List.replicate k ds).flatten (List.replicate k vs).flatten
 | 0=>.nil
 | k+1=>by
  rw [Hj,Hj,HY,HY];exact r.append (RDs.rep r k)
theorem RDs.ints:∀ ns:List Int,RDs K μ H (ns.map D.int) (ns.map V.int)
 | []=>.nil
 | n :: ns=>.cons (.int n) (RDs.ints ns)
end
def iA (K:PySem.W.Frag) (μ:Mp) (H:Hp):List (Str×D)->List (Str×V)->Prop:=Paired λp q=>p.1=q.1/\RD K μ H p.2 q.2
def KvsAt (K:PySem.W.Frag) (μ:Mp) (H:Hp):List (Key×D)->List (Key×V)->Prop:=Paired λp q=>p.1=q.1/\RD K μ H p.2 q.2
def OAt (K:PySem.W.Frag) (cl:Nat->Addr) (μ:Mp) (H:Hp) (a:Addr):O->Prop
 | .lst ds=>∃ xs,H a=some (.lst xs)/\RDs K μ H ds xs
 | .dct b=>∃ e,H a=some (.dK e)/\KvsAt K μ H b e
 | .exc c fs=>XC K (cl c)/\∃ gs,iA K μ H fs gs/\∃ f,((gs=[]/\H a=some (N2 f a (cl c) none))\/∃ d,d≠a/\d∉μ.pl/\H a=some (N2 f a (cl c) (some d))/\H d=some (G6 d gs))
structure Rep (K:PySem.W.Frag) (cl:Nat->Addr) (μ:Mp) (S:Sto) (H:Hp):Prop where
 len:μ.pl.length=S.length
 nd:μ.pl.Nodup
 ats:∀ (n:Nat) (o:O) (a:Addr),S[n]?=some o->μ.pl[n]?=some a->OAt K cl μ H a o
 res:∀ a,a∈μ.rs->a∉μ.pl/\∃ u,H a=some u
theorem Paired.mono {P Q:α->β->Prop} (h:∀ a b,P a b->Q a b):∀ {xs:List α} {ys:List β},Paired P xs ys->Paired Q xs ys
 | _,_,.nil=>.nil
 | _,_,.cons r t=>.cons (h _ _ r) (Paired.mono h t)
section
variable {K:PySem.W.Frag} {cl:Nat->Addr} {μ:Mp} {S:Sto} {H:Hp}
theorem OAt.some (h:OAt K cl μ H a o):∃ u,H a=some u:=by
 cases o with
 | lst ds=>obtain ⟨xs,e,_⟩:=h;exact ⟨_,e⟩
 | dct kvs=>obtain ⟨xs,e,_⟩:=h;exact ⟨_,e⟩
 | exc c fs=>
  obtain ⟨_,gs,_,fr,⟨_,e⟩ | ⟨d,_,_,e,_⟩⟩:=h
  ·exact ⟨_,e⟩
  ·exact ⟨_,e⟩
theorem Rep.tracked (r:Rep K cl μ S H) {a:Addr} (h:a∈μ.pl):∃ u,H a=some u:=by
 obtain ⟨n,b,e⟩:=Hk h;have hs:n<S.length:=by rw [<- r.len];exact b
 exact (r.ats n S[n] a (Fy hs) (by rw [Fy b,e])).some
theorem Rep.notrs (r:Rep K cl μ S H) {p:Addr} (h:H p=none):p∉μ.rs:=λz=>by
 obtain ⟨_,u,e⟩:=r.res p z;rw [h] at e;cases e
theorem Rep.notin (r:Rep K cl μ S H) {p:Addr} (h:H p=none):p∉μ.pl:=λz=>by
 obtain ⟨u,e⟩:=r.tracked z;rw [h] at e;cases e
theorem Lat.laid (h:H p=none):Lat μ H μ (upd H p o):=⟨λ_ _ h=>h,λa u e _=>by rw [a8 (b9 e h)];exact e,λ_ h=>.inl h,rfl⟩
theorem Rep.keep (r:Rep K cl μ S H) (l:Lat μ H μ H') (k:∀ a,a∈μ.pl->H' a=H a):Rep K cl μ S H':=by
 refine ⟨r.len,r.nd,λn o a e1 e2=>?_,λa m=>let ⟨h1,u,h2⟩:=r.res a m;⟨h1,u,l.oth _ _ h2 h1⟩⟩;have ka:=k a (FT e2);have h:=r.ats n o a e1 e2;cases o with
 | lst ds=>obtain ⟨xs,e,q⟩:=h;exact ⟨xs,by rw [ka];exact e,q.later l⟩
 | dct kvs=>obtain ⟨xs,e,q⟩:=h;exact ⟨xs,by rw [ka];exact e,Paired.mono (λ_ _ ⟨z,w⟩=>⟨z,w.later l⟩) q⟩
 | exc c fs=>
  obtain ⟨xc,gs,q,fr,h⟩:=h;refine ⟨xc,gs,Paired.mono (λ_ _ ⟨z,w⟩=>⟨z,w.later l⟩) q,fr,?_⟩;rcases h with ⟨z,e⟩ | ⟨d,h1,h2,e,e2⟩
  ·grind
  ·exact .inr ⟨d,h1,h2,by rw [ka];exact e,l.oth _ _ e2 h2⟩
theorem Rep.laid (r:Rep K cl μ S H) (h:H p=none):Rep K cl μ S (upd H p o):=r.keep (Lat.laid h) λa m=>a8 λz=>r.notin h (z▸m)
theorem Lat.pushed (h:H p=none) (k:∀ a u,H a=some u->H' a=some u):Lat μ H (μ.push p) H':=
 ⟨λn a e=>by show (μ.pl++[p])[n]?=_;rw [FI (Fv.mp e).1];exact e,λa u e _=>k a u e,λa m=>by
  rcases Gh.mp m with z | z
  ·exact .inl z
  ·exact .inr (by rw [Gb.mp z];exact h),rfl⟩
theorem OAt.later {a:Addr} {o:O} (h:OAt K cl μ H a o) (l:Lat μ H μ' H') (ka:H' a=H a):OAt K cl μ' H' a o:=by
 cases o with
 | lst ds=>obtain ⟨xs,e,q⟩:=h;exact ⟨xs,by rw [ka];exact e,q.later l⟩
 | dct kvs=>obtain ⟨xs,e,q⟩:=h;exact ⟨xs,by rw [ka];exact e,Paired.mono (λ_ _ ⟨z,w⟩=>⟨z,w.later l⟩) q⟩
 | exc c fs=>
  obtain ⟨xc,gs,q,fr,h⟩:=h;refine ⟨xc,gs,Paired.mono (λ_ _ ⟨z,w⟩=>⟨z,w.later l⟩) q,fr,?_⟩;rcases h with ⟨z,e⟩ | ⟨d,h1,h2,e,e2⟩
  ·grind
  ·exact .inr ⟨d,h1,l.out e2 h2,by rw [ka];exact e,l.oth _ _ e2 h2⟩
theorem Rep.pushed (r:Rep K cl μ S H) (h:H p=none) (k:∀ a u,H a=some u->H' a=some u) (i:OAt K cl (μ.push p) H' p o):Rep K cl (μ.push p) (S++[o]) H':=by
 have l:=Lat.pushed (μ:=μ) h k;refine ⟨by simp [Mp.push,r.len],?_,λn u a d c=>?_,λa m=>?_⟩
 ·show (μ.pl++[p]).Nodup;rw [IP];exact ⟨r.nd,by simp,λa m b m2=>by rw [Gb.mp m2];rintro rfl;exact r.notin h m⟩
 ·have c:(μ.pl++[p])[n]?=some a:=c;by_cases f:n<S.length
  ·rw [FI f] at d;rw [FI (by rw [r.len];exact f)] at c;have q:=r.ats n u a d c;obtain ⟨z,g⟩:=q.some;exact q.later l ((k a z g).trans g.symm)
  ·have e:n=S.length:=by
    have:=(Fv.mp d).1;simp at this;omega
   subst e;rw [<- r.len] at c;simp at d c;subst d;subst c;exact i
 ·obtain ⟨j,u,s⟩:=r.res a m;refine ⟨λz=>?_,u,k a u s⟩;rcases Gh.mp (z) with z | z
  ·exact j z
  ·grind
theorem Lat.wrote (h:a∈μ.pl):Lat μ H μ (upd H a o):=⟨λ_ _ h=>h,λb u e n=>by rw [a8 (λz=>n (by rw [z];exact h))];exact e,λ_ h=>.inl h,rfl⟩
theorem Rep.wrote {n:Nat} {a:Addr} {u:HO} {o:O} (r:Rep K cl μ S H) (e:μ.pl[n]?=some a) (ho:OAt K cl μ (upd H a u) a o):Rep K cl μ (S.set n o) (upd H a u):=by
 have m:a∈μ.pl:=FT e;refine ⟨by simp [r.len],r.nd,λk w b e1 e2=>?_,λb mb=>let ⟨h1,u',h2⟩:=r.res b mb;⟨h1,u',by rw [a8 (λz=>h1 (by rw [z];exact m))];exact h2⟩⟩;by_cases hk:n=k
 ·subst hk;rw [e] at e2;cases e2;rw [Ge (by have:=(Fv.mp e).1;rw [r.len] at this;exact this)] at e1;cases e1;exact ho
 ·rw [FS hk] at e1;have hb:b≠a:=λz=>by
   subst z;obtain ⟨h1,q1⟩:=Fv.mp e;obtain ⟨h2,q2⟩:=Fv.mp e2;exact hk ((List.getElem_inj r.nd).mp (q1.trans q2.symm))
  exact (r.ats k w b e1 e2).later (Lat.wrote m) (a8 hb)
end
def Mp.hold (μ:Mp) (p:Addr):Mp:=⟨μ.pl,p :: μ.rs⟩
mutual
theorem RD.move {K:PySem.W.Frag} {μ μ':Mp} {H H':Hp} (g:∀ (n:Nat) (a:Addr),μ.pl[n]?=some a->μ'.pl[n]?=some a) (c:∀ a u,H a=some u->a∉μ.pl->a∉μ.rs->H' a=some u/\a∉μ'.pl/\a∉μ'.rs):∀ {d:D} {v:V},RD K μ H d v->RD K μ' H' d v
 | _,_,.non=>.non
 | _,_,.bl b=>.bl b
 | _,_,.int i=>.int i
 | _,_,.str x=>.str x
 | _,_,.tup h r=>.tup (h.imp (λ⟨q,e,f⟩=>by
   rcases q with q | ⟨o,q⟩
   ·exact ⟨.inl (c _ _ q e f).1,(c _ _ q e f).2⟩
   ·exact ⟨.inr ⟨o,(c _ _ q e f).1⟩,(c _ _ q e f).2⟩) id) (RDs.move g c r)
 | _,_,.lst h r=>.lst (c _ _ h.1 h.2.1 h.2.2) (RDs.move g c r)
 | _,_,.scr h r=>.scr (h.imp (λ⟨q,e,f⟩=>by
   rcases q with q | ⟨o,q⟩
   ·exact ⟨.inl (c _ _ q e f).1,(c _ _ q e f).2⟩
   ·exact ⟨.inr ⟨o,(c _ _ q e f).1⟩,(c _ _ q e f).2⟩) id) (RDs.move g c r)
 | _,_,.ref h=>.ref (g _ _ h)
theorem RDs.move {K:PySem.W.Frag} {μ μ':Mp} {H H':Hp} (hp:∀ (n:Nat) (a:Addr),μ.pl[n]?=some a->μ'.pl[n]?=some a) (ho:∀ a u,H a=some u->a∉μ.pl->a∉μ.rs->H' a=some u/\a∉μ'.pl/\a∉μ'.rs):∀ {ds:List D} {vs:List V},RDs K μ H ds vs->RDs K μ' H' ds vs
 | _,_,.nil=>.nil
 | _,_,.cons h r=>.cons (RD.move hp ho h) (RDs.move hp ho r)
end
section
variable {K:PySem.W.Frag} {cl:Nat->Addr} {μ:Mp} {S:Sto} {H:Hp}
theorem Rep.move {H':Hp} (r:Rep K cl μ S H) (hr:∀ a,a∈μ'.rs->a∉μ'.pl/\∃ u,H' a=some u) (hp:μ'.pl=μ.pl) (hk:∀ a,a∈μ.pl->H' a=H a) (hx:∀ a u,H a=some (.ext u)->H' a=some (.ext u)) (ho:∀ a u,H a=some u->a∉μ.pl->a∉μ.rs->H' a=some u/\a∉μ'.pl/\a∉μ'.rs):Rep K cl μ' S H':=by
 have hp':∀ (n:Nat) (a:Addr),μ.pl[n]?=some a->μ'.pl[n]?=some a:=λn a e=>by rw [hp];exact e
 refine ⟨by rw [hp];exact r.len,by rw [hp];exact r.nd,λn o a e1 e2=>?_,hr⟩;rw [hp] at e2;have ka:=hk a (FT e2);have h:=r.ats n o a e1 e2;cases o with
 | lst ds=>obtain ⟨xs,e,q⟩:=h;exact ⟨xs,by rw [ka];exact e,q.move hp' ho⟩
 | dct kvs=>obtain ⟨xs,e,q⟩:=h;exact ⟨xs,by rw [ka];exact e,Paired.mono (λ_ _ ⟨z,w⟩=>⟨z,w.move hp' ho⟩) q⟩
 | exc c fs=>
  obtain ⟨xc,gs,q,fr,h⟩:=h;refine ⟨xc,gs,Paired.mono (λ_ _ ⟨z,w⟩=>⟨z,w.move hp' ho⟩) q,fr,?_⟩;rcases h with ⟨z,e⟩ | ⟨d,h1,h2,e,e2⟩
  ·grind
  ·exact .inr ⟨d,h1,by rw [hp];exact h2,by rw [ka];exact e,hx _ _ e2⟩
end
section
variable (K:PySem.W.Frag) (cl:Nat->Addr) (xe:Addr->Hp->Prop)
def Post {b:Type} (μ:Mp) (H:Hp) (r:R b) (G:b->Sto->Mp->Hp->Prop):Prop:=match r with
 | .ok a S=>∀ μ' H',Lat μ H μ' H'->Rep K cl μ' S H'->G a S μ' H'
 | .exn n S=>∀ μ' H' a,Lat μ H μ' H'->Rep K cl μ' S H'->μ'.pl[n]?=some a->xe a H'
 | .bad=>False
end
section
variable {K:PySem.W.Frag} {cl:Nat->Addr} {xe:Addr->Hp->Prop} {α β:Type} {μ μ1:Mp} {H H1:Hp}
theorem Post.later {G:α->Sto->Mp->Hp->Prop} (h:Post K cl xe μ H r G) (l:Lat μ H μ1 H1):Post K cl xe μ1 H1 r G:=by
 cases r with
 | ok a S=>exact λμ' H' k r=>h μ' H' (l.trans k) r
 | exn n S=>exact λμ' H' a k r e=>h μ' H' a (l.trans k) r e
 | bad=>exact h
theorem Post.imp {G G':α->Sto->Mp->Hp->Prop} (h:Post K cl xe μ H r G) (k:∀ a S μ' H',Lat μ H μ' H'->Rep K cl μ' S H'->G a S μ' H'->G' a S μ' H'):Post K cl xe μ H r G':=by
 cases r with
 | ok a S=>exact λμ' H' l r=>k a S μ' H' l r (h μ' H' l r)
 | exn n S=>exact h
 | bad=>exact h
theorem Post.bind {k:α->M β} {S:Sto} {G:β->Sto->Mp->Hp->Prop} (h:Post K cl xe μ H (bind m k S) G):Post K cl xe μ H (m S) (λa S1 μ1 H1=>Post K cl xe μ1 H1 (k a S1) G):=by
 unfold L3.bind at h;cases e:m S with
 | ok a S1=>
  rw [e] at h;exact λμ' H' l r=>Post.later h l
 | exn n S1=>rw [e] at h;exact h
 | bad=>rw [e] at h;exact h
theorem Post.ret {G:α->Sto->Mp->Hp->Prop} (h:Post K cl xe μ H (ret a S) G):∀ μ' H',Lat μ H μ' H'->Rep K cl μ' S H'->G a S μ' H':=h
end
def EnvOk (K:PySem.W.Frag) (μ:Mp) (H:Hp) (ρ:Env) (σ:L2.St):Prop:=ρ.length=σ.length/\∀ (i:Nat) (d:D),ρ[i]?=some (some d)->∃ v,σ[i]?=some (some v)/\RD K μ H d v
theorem EnvOk.later {K:PySem.W.Frag} {μ a:Mp} {H b:Hp} {ρ:Env} {σ:L2.St} (h:EnvOk K μ H ρ σ) (l:Lat μ H a b):EnvOk K a b ρ σ:=⟨h.1,λi d e=>let ⟨v,q,r⟩:=h.2 i d e;⟨v,q,r.later l⟩⟩
theorem EnvOk.set {K:PySem.W.Frag} {μ:Mp} {H:Hp} {ρ:Env} {σ:L2.St} {d:D} {v:V} (h:EnvOk K μ H ρ σ) (r:RD K μ H d v) (i:Nat):EnvOk K μ H (ρ.set i (some d)) (σ.set i (some v)):=by
 refine ⟨by simp [h.1],λj e b=>?_⟩;by_cases a:i=j
 ·subst a;have c:i<ρ.length:=by
   have:=(Fv.mp b).1;simpa using this
  rw [Ge c] at b;cases b;exact ⟨v,Ge (by rw [<- h.1];exact c),r⟩
 ·rw [FS a] at b;obtain ⟨u,q,f⟩:=h.2 j e b;exact ⟨u,by rw [FS a];exact q,f⟩
section
variable (K:PySem.W.Frag) (cl:Nat->Addr) (xe:Addr->Hp->Prop)
def tD (f:Env->M D):TE:=λσ H Q=>∃ μ S ρ,EnvOk K μ H ρ σ/\Rep K cl μ S H/\Post K cl xe μ H (f ρ S) λd _ μ' H'=>∀ v,RD K μ' H' d v->Q v H'
def tDs (f:Env->M (List D)):TA:=λσ H Q=>∃ μ S ρ,EnvOk K μ H ρ σ/\Rep K cl μ S H/\Post K cl xe μ H (f ρ S) λds _ μ' H'=>∀ vs,RDs K μ' H' ds vs->Q vs H'
def tBo (f:Env->M Bool):TT:=λσ H Q=>∃ μ S ρ,EnvOk K μ H ρ σ/\Rep K cl μ S H/\Post K cl xe μ H (f ρ S) λb _ _ H'=>Q b H'
def rP2 (g:D->D->M D):R2:=λx y H Q=>∃ μ S d e,RD K μ H d x/\RD K μ H e y/\Rep K cl μ S H/\Post K cl xe μ H (g d e S) λr _ μ' H'=>∀ v,RD K μ' H' r v->Q v H'
def rPs (g:List D->M D):List V->Hp->VK->Prop:=λxs H Q=>∃ μ S ds,RDs K μ H ds xs/\Rep K cl μ S H/\Post K cl xe μ H (g ds S) λr _ μ' H'=>∀ v,RD K μ' H' r v->Q v H'
end
theorem PE.imp (h:PE X e t) (k:∀ σ H Q,t' σ H Q->t σ H Q):PE X e t':=λpins s σ H Q I q=>h pins s σ H Q I (k σ H Q q)
theorem PT.imp (h:PT X e t) (k:∀ σ H Q,t' σ H Q->t σ H Q):PT X e t':=λpins s σ H Q I q=>h pins s σ H Q I (k σ H Q q)
theorem PW.imp (h:PW X e t) (k:∀ σ H Q,t' σ H Q->t σ H Q):PW X e t':=λw pins s σ H Q I q=>h w pins s σ H Q I (k σ H Q q)
theorem PA.imp (h:PA X es t) (k:∀ σ H Q,t' σ H Q->t σ H Q):PA X es t':=λp pins s σ H Q I q=>h p pins s σ H Q I (k σ H Q q)
theorem PS.imp {st:Stmt} {t t':TS} (h:PS X st t) (k:∀ D σ H,t' D σ H->t D σ H):PS X st t':=λpins s σ H D I q=>h pins s σ H D I (k D σ H q)
theorem PSs.imp {st:List Stmt} {t t':TS} (h:PSs X st t) (k:∀ D σ H,t' D σ H->t D σ H):PSs X st t':=λpins s σ H D I q=>h pins s σ H D I (k D σ H q)
section
variable {X:Cx} {cl:Nat->Addr} {xe:Addr->Hp->Prop} {a b c:Expr} {es:List Expr} {pos:Pos} {f g:Env->M D}
theorem d4:PE X e (tD X.K cl xe λ_=>bad):=λ_ _ _ _ _ _ ⟨_,_,_,_,_,p⟩=>p.elim
theorem iK:PT X e (tBo X.K cl xe λ_=>bad):=λ_ _ _ _ _ _ ⟨_,_,_,_,_,p⟩=>p.elim
theorem pw_bad:PW X e (tBo X.K cl xe λ_=>bad):=λ_ _ _ _ _ _ _ ⟨_,_,_,_,_,p⟩=>p.elim
theorem J7 (h:PE X e (tC v)) (r:∀ μ H,RD X.K μ H d v):PE X e (tD X.K cl xe λ_=>ret d):=PE.imp h λσ H Q ⟨μ,S,ρ,b,a,p⟩=>p.ret μ H (Lat.refl _ _) a v (r μ H)
def getD (i:Nat) (ρ:Env):M D:=match ρ[i]? with
 | some (some d)=>ret d
 | _=>bad
theorem zx {e:Expr} (h:PE X e (zO i)):PE X e (tD X.K cl xe λρ=>getD i ρ):=PE.imp h λσ H Q ⟨μ,S,ρ,b,a,p⟩=>by
 cases e:ρ[i]? with
 | none=>simp only [getD,e] at p;exact p.elim
 | some o=>
  cases o with
  | none=>simp only [getD,e] at p;exact p.elim
  | some d=>
   simp only [getD,e] at p;obtain ⟨v,q,r⟩:=b.2 i d e;exact ⟨v,q,p.ret μ H (Lat.refl _ _) a v r⟩
theorem xh (e:PE X a (tD X.K cl xe f)) (k:PE X b (tD X.K cl xe g)) (s:OpR X (binaryOp op) (rP2 X.K cl xe h)) :
  PE X (.BinOp a op b pos) (tD X.K cl xe λρ=>bind (f ρ) λx=>bind (g ρ) λy=>h x y):=PE.imp (Cs s e k) λσ H Q ⟨μ,S,ρ,d,j,p⟩=>
 ⟨μ,S,ρ,d,j,p.bind.imp λx S1 c z t q i v r=>⟨c,S1,ρ,d.later t,q,i.bind.imp λy S2 μ2 w l o m u n=>⟨μ2,S2,x,y,r.later l,n,o,m⟩⟩⟩
theorem yb (e:PE X a (tD X.K cl xe f)) (k:PE X b (tD X.K cl xe g)) (s:OpR X (compareOp op) (rP2 X.K cl xe h)) (w:behindInMarks op b=false) :
  PE X (.Compare a [op] [b] pos) (tD X.K cl xe λρ=>bind (f ρ) λx=>bind (g ρ) λy=>h x y):=PE.imp (tZ s e k w) λσ H Q ⟨μ,S,ρ,d,j,p⟩=>
 ⟨μ,S,ρ,d,j,p.bind.imp λx S1 c A t q i v r=>⟨c,S1,ρ,d.later t,q,i.bind.imp λy S2 μ2 z l o m u n=>⟨μ2,S2,x,y,r.later l,n,o,m⟩⟩⟩
theorem Cv (e:PE X a (tD X.K cl xe f)) (k:PE X b (tD X.K cl xe g)) (s:IxR X (rP2 X.K cl xe h)) (hs:dP b) :
  PE X (.Subscript a b pos) (tD X.K cl xe λρ=>bind (f ρ) λx=>bind (g ρ) λy=>h x y):=PE.imp (CO s e k hs) λσ H Q ⟨μ,S,ρ,d,j,p⟩=>
 ⟨μ,S,ρ,d,j,p.bind.imp λx S1 c z t q i v r=>⟨c,S1,ρ,d.later t,q,i.bind.imp λy S2 μ2 w l o m u n=>⟨μ2,S2,x,y,r.later l,n,o,m⟩⟩⟩
theorem BM (n:PT X c (tBo X.K cl xe t)) (k:PE X a (tD X.K cl xe f)) (m:PE X b (tD X.K cl xe g)):PE X (.IfExp c a b pos) (tD X.K cl xe λρ=>bind (t ρ) λq=>if q=true then f ρ else g ρ):=PE.imp (ng n k m) λσ H Q ⟨μ,S,ρ,e,l,p⟩=>
 ⟨μ,S,ρ,e,l,p.bind.imp λq S1 d o j i h=>by
  cases q with
  | true=>exact ⟨d,S1,ρ,e.later j,i,h⟩
  | false=>exact ⟨d,S1,ρ,e.later j,i,h⟩⟩
theorem zn (h:PT X a (tBo X.K cl xe t)):PT X (.UnaryOp .Not a pos) (tBo X.K cl xe λρ=>bind (t ρ) λq=>ret (!q)):=PT.imp (gr h) λσ H Q ⟨μ,S,ρ,f,d,p⟩=>
 ⟨μ,S,ρ,f,d,p.bind.imp λq S1 b g i e c=>c.ret b g (Lat.refl _ _) e⟩
theorem uZ (h:PT X a (tBo X.K cl xe t)):PW X (.BoolOp .And [a] pos) (tBo X.K cl xe t):=pw_and1 h
theorem zZ (h:PT X a (tBo X.K cl xe t)):PW X (.BoolOp .Or [a] pos) (tBo X.K cl xe t):=pw_or1 h
theorem zl {c:List Expr} (h:PT X a (tBo X.K cl xe t)) (k:PW X (.BoolOp .And (b :: c) pos) (tBo X.K cl xe u)):PW X (.BoolOp .And (a :: b :: c) pos) (tBo X.K cl xe λρ=>bind (t ρ) λq=>if q=true then u ρ else ret false):=PW.imp (pw_and h k) λσ H Q ⟨μ,S,ρ,g,i,p⟩=>
 ⟨μ,S,ρ,g,i,p.bind.imp λq S1 d l j f e=>by
  cases q with
  | true=>exact ⟨d,S1,ρ,g.later j,f,e⟩
  | false=>exact e.ret d l (Lat.refl _ _) f⟩
theorem BE {c:List Expr} (h:PT X a (tBo X.K cl xe t)) (k:PW X (.BoolOp .Or (b :: c) pos) (tBo X.K cl xe u)):PW X (.BoolOp .Or (a :: b :: c) pos) (tBo X.K cl xe λρ=>bind (t ρ) λq=>if q=true then ret true else u ρ):=PW.imp (pw_or h k) λσ H Q ⟨μ,S,ρ,g,i,p⟩=>
 ⟨μ,S,ρ,g,i,p.bind.imp λq S1 d l j f e=>by
  cases q with
  | true=>exact e.ret d l (Lat.refl _ _) f
  | false=>exact ⟨d,S1,ρ,g.later j,f,e⟩⟩
def asB (d:D):M Bool:=match d with
 | .bl b=>ret b
 | _=>bad
theorem yu {K:PySem.W.Frag} {a:Mp} {c:Hp} {S:Sto} {d:D} {v:V} {Q:Bool->Hp->Prop} (f:RD K a c d v) (e:Rep K cl a S c) (p:Post K cl xe a c (asB d S) λb _ _ H'=>Q b H'):∃ k,v=.bl k/\Q k c:=by
 cases f with
 | bl b=>exact ⟨b,rfl,p.ret a c (Lat.refl _ _) e⟩
 | _=>exact p.elim
theorem zd (o:PE X a (tD X.K cl xe f)) (k:PE X b (tD X.K cl xe g)) (r:OpR X (compareOp op) (rP2 X.K cl xe h)) (n:behindInMarks op b=false) :
  PT X (.Compare a [op] [b] pos) (tBo X.K cl xe λρ=>bind (f ρ) λx=>bind (g ρ) λy=>bind (h x y) asB):=PT.imp (sZ r o k n) λσ H Q ⟨μ,S,ρ,d,t,p⟩=>
 ⟨μ,S,ρ,d,t,p.bind.imp λx S1 c I s q j v m=>⟨c,S1,ρ,d.later s,q,j.bind.imp λy S2 μ2 J A D l u B=>⟨μ2,S2,x,y,m.later A,B,D,l.bind.imp λz F e E G C i w rw=>yu rw C i⟩⟩⟩
end
end L3
namespace HT
open PySem PySem.Spec PyProof.Rows
theorem noFill_tuple_mul:fillsNumberSlot (.type "tuple") "mul" = pure false:=
 PySem.fillsNumberSlot_seq F.slot_tuple_mul.lookup (by decide +kernel) F.slot_tuple_rmul.lookup (by decide +kernel)
theorem repeat_tuple:seqRepeat? (.type "tuple")=pure (some (.builtin "tuple.__mul__")):=by
 unfold seqRepeat?;rw [PySem.seqSlot_of (name:="__mul__") F.slot_tuple_mul.lookup (by decide +kernel),PySem.seqSlot_of (name:="__rmul__") F.slot_tuple_rmul.lookup (by decide +kernel)];rfl
theorem int_rmul_tuple (a:Int) (t:Tok) (l:Addr) (items:Array Value) (n:Nat) (b:Option Addr) (c:Array (Option Value)) :
  Meets (Builtin.«int.__rmul__» ⟨[.int a t,.ref l],[]⟩) (λ_ R s=>s.heap.get? l=some { cls:=.type "tuple",dict:=b,data:=.seq items n,slots:=c }/\R (.ok (.ret Value.notImplemented)) s):=
 .of_wp λprog w A R s h=>by obtain ⟨f,g,d,i,e⟩:=s;obtain ⟨j,h⟩:=h;wp_walk;exact ⟨_,rfl,h⟩
theorem tuple_mul1 (l:Addr) (items:Array Value) (n:Nat) (a:Option Addr) (b:Array (Option Value)) (u:Tok) :
  Meets (Builtin.«tuple.__mul__» ⟨[.ref l,.int 1 u],[]⟩) (λ_ R s=>s.heap.get? l=some { cls:=.type "tuple",dict:=a,data:=.seq items n,slots:=b }/\R (.ok (.ret (.ref l))) s):=
 .of_wp λprog w A R s h=>by obtain ⟨e,g,d,f,c⟩:=s;obtain ⟨i,h⟩:=h;wp_walk;exact ⟨_,rfl,h⟩
theorem gO {k:Int} (b:1<=k) (a:k<2 ^ 63):¬ ((decide (k < -(2 ^ 63))||decide (k≥2 ^ 63))=true):=by grind
theorem tuple_mul2 (l:Addr) (items:Array Value) (n:Nat) (r:Option Addr) (v:Array (Option Value)) (k:Int) (u:Tok) (a:¬ (items.isEmpty||k==1)=true) (B:2<=k) (p:k<2 ^ 63) (hsz:items.size * k.toNat<=sizeLine) :
  Meets (Builtin.«tuple.__mul__» ⟨[.ref l,.int k u],[]⟩) (λ_ R s=>s.heap.get? l=some { cls:=.type "tuple",dict:=r,data:=.seq items n,slots:=v }/\R (.ok (.ret (.ref s.heap.objs.size))) { s with heap:=s.heap.push { cls:=.type "tuple",data:=.seq ((List.replicate k.toNat items).foldl (·++·) #[]) } }):=
 .of_wp λprog w A R s h=>by
  obtain ⟨j,g,d,y,x⟩:=s;obtain ⟨t,h⟩:=h;have q:=gO (by omega) p;have e:=Gf;have i:((k.toNat:Nat):Int)=k:=Int.toNat_of_nonneg (by omega);have b:(items.size:Int) * k=((items.size * k.toNat:Nat):Int):=by rw [Int.natCast_mul,i]
  have c:¬ (decide (k<=0)||items.isEmpty)=true:=by
   simp only [Jf,FW] at a ⊢;intro z;rcases z with z | z
   ·omega
   ·exact a (.inl z)
  have f:¬ ((items.size:Int) * k > (2 ^ 63-1) / 8):=by rw [b];omega
  have m:¬ Builtin.Tuple.tupleTooMany ((items.size:Int) * k)=true:=by
   rw [b];simp only [Builtin.Tuple.tupleTooMany,FW];omega
  have hz:((List.replicate k.toNat items).foldl (·++·) #[]).size<=sizeLine:=by
   rw [AutoListH.size_joined,Nat.mul_comm];simpa using hsz
  wp_walk
  rw [if_neg q];have o:IsTup j l items:=⟨_,t,rfl,n,rfl⟩;refine Fq (JP o ?_);rw [if_neg a];rw [if_neg c];rw [if_neg f];rw [if_neg m];refine Fq (Gi ?_ hz);exact Fs ⟨_,rfl,h⟩
end HT
namespace L2
open PySem PySem.Spec PyProof.Rows
section
variable {X:Cx}
theorem vy:OpR X (binaryOp .Mult) (λx y H Q=>∃ a k xs,x=.ref a/\y=.int k/\SqT X.K H a xs/\xs≠[]/\1<=k/\k<2 ^ 63/\xs.length * k.toNat<=sizeLine/\(k=1->Q (.ref a) H)/\(k≠1->∀ p,H p=none->Q (.ref p) (upd H p (.tup (List.replicate k.toNat xs).flatten)))):=by
 intro pins s σ H x y v u Q I J C h;obtain ⟨a,k,xs,rfl,rfl,o,r,N,k2,hz,B,w⟩:=h;cases J;obtain ⟨t,rfl⟩:=C;obtain ⟨c,g,D,_⟩:=I.tuple o;obtain ⟨⟨E,e,j,f⟩,d,G,n,hd⟩:=id D;subst G hd;have L:=g.length;by_cases i:k=1
 ·subst i;exact Il (by decide) ⟨_,d,rfl⟩ (λs'=>IW s' 1 t) HT.noFill_tuple_mul F.fills_int_mul F.slot_int_rmul HT.repeat_tuple F.slot_int_index.lookup
   (Ic F.slot_int_rmul (IW s 1 t) F.entry_int_rmul (F.args_int_rmul_2 _ _) (HT.int_rmul_tuple 1 t a c.toArray n e f)
    ⟨d,rfl,⟨_,d,rfl⟩,Ic F.slot_tuple_mul ⟨_,d,rfl⟩ F.entry_tuple_mul (F.args_tuple_mul_2 _ _) (HT.tuple_mul1 a c.toArray n e f t) ⟨d,.ref a,H,I,rfl,B rfl⟩⟩)
 ·have M:=λz=>r (g.nil_iff.mp z);have l:¬ (c.toArray.isEmpty||k==1)=true:=by
   simp only [Jf,Ia];rintro (z | z)
   ·grind
   ·exact i z
  refine Il (by decide) ⟨_,d,rfl⟩ (λs'=>IW s' k t) HT.noFill_tuple_mul F.fills_int_mul F.slot_int_rmul HT.repeat_tuple F.slot_int_index.lookup
   (Ic F.slot_int_rmul (IW s k t) F.entry_int_rmul (F.args_int_rmul_2 _ _) (HT.int_rmul_tuple k t a c.toArray n e f)
    ⟨d,rfl,⟨_,d,rfl⟩,Ic F.slot_tuple_mul ⟨_,d,rfl⟩ F.entry_tuple_mul (F.args_tuple_mul_2 _ _) (HT.tuple_mul2 a c.toArray n e f k t l (by omega) k2 (by rw [FR,<- L];exact hz)) ⟨d,?_⟩⟩)
  have m:List.foldl (λA K=>A++K) #[] (List.replicate k.toNat c.toArray)=(List.replicate k.toNat c).flatten.toArray:=by
   have:=V8 c k.toNat [];rw [List.nil_append] at this;exact this
  rw [m];refine ⟨.ref s.heap.objs.size,_,I.laid (λb ob q=>Ft _ q) (FH _) ?_,rfl,w i _ (I.hok.fresh (FH _))⟩;exact ⟨by rw [kQ,Nat.mul_comm];exact hz,_,g.rep k.toNat,TupN.new _ _⟩
end
end L2
namespace L3
open PySem PySem.Spec PyProof.Rows L2
def lstOf (d:D):M (List D):=match d with
 | .lst ds=>ret ds
 | .ref n=>λS=>match S[n]? with
  | some (.lst ds)=>.ok ds S
  | _=>.bad
 | _=>bad
def G5 (d:D):M (List D):=match d with
 | .tup ds=>ret ds
 | .scr ds=>ret ds
 | d=>lstOf d
section
variable {K:PySem.W.Frag} {cl:Nat->Addr} {xe:Addr->Hp->Prop} {μ:Mp} {H:Hp} {S:Sto} {α:Type}
theorem p6 (rd:RD K μ H d v) (rp:Rep K cl μ S H) (p:Post K cl xe μ H (lstOf d S) G):∃ a xs ds,v=.ref a/\H a=some (.lst xs)/\RDs K μ H ds xs/\lstOf d S=.ok ds S:=by
 cases rd with
 | lst h r=>exact ⟨_,_,_,rfl,h.1,r,rfl⟩
 | ref e=>
  rename_i n a;simp only [lstOf] at p;cases q:S[n]? with
  | none=>rw [q] at p;exact p.elim
  | some o=>
   cases o with
   | lst ds=>
    obtain ⟨xs,h1,h2⟩:=rp.ats n _ a q e;exact ⟨a,xs,ds,rfl,h1,h2,by simp only [lstOf,q]⟩
   | dct _=>rw [q] at p;exact p.elim
   | exc _ _=>rw [q] at p;exact p.elim
 | _=>exact p.elim
theorem bP (rd:RD K μ H d v) (rp:Rep K cl μ S H) (p:Post K cl xe μ H (G5 d S) G):∃ a xs ds,v=.ref a/\(SqL K H a xs\/SqT K H a xs)/\RDs K μ H ds xs/\G5 d S=.ok ds S:=by
 cases rd with
 | tup h r=>exact ⟨_,_,_,rfl,.inr h.sq,r,rfl⟩
 | scr h r=>exact ⟨_,_,_,rfl,.inl h.sq,r,rfl⟩
 | lst h r=>exact ⟨_,_,_,rfl,.inl h.sq,r,rfl⟩
 | ref e=>
  obtain ⟨a,xs,ds,h1,h2,h3,h4⟩:=p6 (.ref e) rp p;exact ⟨a,xs,ds,h1,.inl (.inl (.inl h2)),h3,h4⟩
 | _=>exact p.elim
theorem Post.ok_bind {a:α} {G:β->Sto->Mp->Hp->Prop} (e:m S=.ok a S) (p:Post K cl xe μ H (L3.bind m k S) G):Post K cl xe μ H (k a S) G:=by
 unfold L3.bind at p;rw [e] at p;exact p
theorem F7 (b:Rep K cl μ S H) (r:RDs K μ H ds xs) (a:H p=none):Lat μ H μ (upd H p (.tup xs))/\Rep K cl μ S (upd H p (.tup xs))/\RD K μ (upd H p (.tup xs)) (.tup ds) (.ref p):=
 ⟨Lat.laid a,b.laid a,.tup (.inl ⟨.inl b6,b.notin a,b.notrs a⟩) (r.later (Lat.laid a))⟩
theorem B6 (b:Rep K cl μ S H) (r:RDs K μ H ds xs) (a:H p=none):Lat μ H μ (upd H p (.lst xs))/\Rep K cl μ S (upd H p (.lst xs))/\RD K μ (upd H p (.lst xs)) (.lst ds) (.ref p):=
 ⟨Lat.laid a,b.laid a,.lst ⟨b6,b.notin a,b.notrs a⟩ (r.later (Lat.laid a))⟩
theorem lF (c:Rep K cl μ S H) (r:RDs K μ H ds xs) (b:H p=none):Lat μ H (μ.push p) (upd H p (.lst xs))/\Rep K cl (μ.push p) (S++[.lst ds]) (upd H p (.lst xs))/\RD K (μ.push p) (upd H p (.lst xs)) (.ref S.length) (.ref p):=by
 have k:∀ a u,H a=some u->upd H p (.lst xs) a=some u:=λa u e=>by rw [a8 (b9 e b)];exact e
 have l:=Lat.pushed (μ:=μ) b k;refine ⟨l,c.pushed b k ⟨xs,b6,r.later l⟩,.ref ?_⟩;show (μ.pl++[p])[S.length]?=some p;rw [<- c.len];simp
theorem Post.guard [Decidable c] {a:α} {G:α->Sto->Mp->Hp->Prop} (p:Post K cl xe μ H ((if c then L3.ret a else L3.bad) S) G):c/\∀ μ' H',Lat μ H μ' H'->Rep K cl μ' S H'->G a S μ' H':=by
 by_cases b:c
 ·rw [if_pos b] at p;exact ⟨b,p⟩
 ·rw [if_neg b] at p;exact p.elim
end
def e6 {a b:Type} (f:a->Option b):List a->Option (List b)
 | []=>some []
 | x :: xs=>match f x,e6 f xs with
  | some y,some ys=>some (y :: ys)
  | _,_=>none
def d8:Nat->Sto->D->Option PyData
 | 0,_,_=>none
 | n+1,S,d=>match d with
  | .non=>some .none
  | .bl b=>some (.bool b)
  | .int i=>some (.int i)
  | .str x=>some (.str x)
  | .tup ds=>(e6 (d8 n S) ds).map .tuple
  | .lst ds=>(e6 (d8 n S) ds).map .list
  | .scr ds=>(e6 (d8 n S) ds).map .list
  | .ref k=>match S[k]? with
   | some (.lst ds)=>(e6 (d8 n S) ds).map .list
   | _=>none
theorem eN {K:PySem.W.Frag} {μ:Mp} {H:Hp} {S:Sto} {n:Nat} (f:∀ {d:D} {v:V} {q:PyData},d8 n S d=some q->RD K μ H d v->DAt K H v q):∀ {ds:List D} {vs:List V} {a:List PyData},e6 (d8 n S) ds=some a->RDs K μ H ds vs->DAll K H vs a
 | [],_,a,e,r=>by cases r;cases e;exact .nil
 | d :: ds,_,a,e,r=>by
  cases r with
  | cons h t=>
   simp only [e6] at e;cases b:d8 n S d with
   | none=>rw [b] at e;cases e
   | some q=>
    cases c:e6 (d8 n S) ds with
    | none=>grind
    | some g=>
     rw [b,c] at e;cases e;exact .cons (f b h) (eN f c t)
theorem q5 {K:PySem.W.Frag} {cl:Nat->Addr} {μ:Mp} {H:Hp} {S:Sto} (rp:Rep K cl μ S H):∀ (n:Nat) {d:D} {v:V} {q:PyData},d8 n S d=some q->RD K μ H d v->DAt K H v q
 | 0,_,_,_,e,_=>by cases e
 | n+1,d,v,q,e,r=>by
  have all:∀ {ds:List D} {vs:List V} {qs:List PyData},e6 (d8 n S) ds=some qs->RDs K μ H ds vs->DAll K H vs qs:=λe r=>eN (λe r=>q5 rp n e r) e r;have um:∀ {ds:List D} {C:List PyData->PyData},(e6 (d8 n S) ds).map C=some q->∃ qs,e6 (d8 n S) ds=some qs/\q=C qs:=λ{ds C} e=>by
   cases e1:e6 (d8 n S) ds with
   | none=>rw [e1] at e;cases e
   | some qs=>grind
  cases r with
  | non=>cases e;exact .non
  | bl b=>cases e;exact .bl b
  | int i=>cases e;exact .int i
  | str x=>cases e;exact .str x
  | tup h t=>obtain ⟨qs,e1,rfl⟩:=um e;exact .tup h.sq (all e1 t)
  | lst h t=>obtain ⟨qs,e1,rfl⟩:=um e;exact .lst h.sq (all e1 t)
  | scr h t=>obtain ⟨qs,e1,rfl⟩:=um e;exact .lst h.sq (all e1 t)
  | ref h=>
   rename_i k a;simp only [d8] at e;cases q1:S[k]? with
   | none=>rw [q1] at e;cases e
   | some o=>
    rw [q1] at e;cases o with
    | lst ds=>
     obtain ⟨qs,e1,rfl⟩:=um e;obtain ⟨xs,h1,h2⟩:=rp.ats k _ a q1 h;exact .lst (.inl (.inl h1)) (all e1 h2)
    | dct _=>cases e
    | exc _ _=>cases e
def i9 (x y:D):M D:=match x,y with
 | .int i,.int j=>ret (.int (i+j))
 | .str a,.str b=>if a.length+b.length<=sizeLine then ret (.str (a++b)) else bad
 | .tup xs,.tup ys=>if xs.length+ys.length<=sizeLine then ret (.tup (xs++ys)) else bad
 | x,y=>bind (lstOf x) λxs=>bind (lstOf y) λys=>if xs.length+ys.length<=sizeLine then ret (.lst (xs++ys)) else bad
def K1 (x y:D):M D:=match x,y with
 | .int i,.int j=>ret (.int (i-j))
 | _,_=>bad
instance (i j:Int):Decidable (CMul i j):=by unfold CMul;infer_instance
instance (i j:Int):Decidable (rY i j):=by unfold rY;infer_instance
instance (i j:Int):Decidable (vi i j):=by unfold vi;infer_instance
def N6 (x y:D):M D:=match x,y with
 | .int i,.int j=>if 0<j then ret (.int (i % j)) else bad
 | _,_=>bad
def Y2 (x y:D):M D:=match x,y with
 | .int i,.int j=>if rY i j then ret (.int (i / j)) else bad
 | _,_=>bad
def wD (x y:D):M D:=match x,y with
 | .int i,.int j=>if vi i j then ret (.int (i ^ j.toNat)) else bad
 | _,_=>bad
def Q0 (x y:D):M D:=match x,y with
 | .int i,.int j=>if CMul i j then ret (.int (i * j)) else bad
 | .tup ds,.int k=>if (ds≠[]/\1<=k/\k<2 ^ 63)/\ds.length * k.toNat<=sizeLine then ret (.tup (List.replicate k.toNat ds).flatten) else bad
 | x,.int k=>bind (lstOf x) λxs=>if (-(2 ^ 63)<=k/\k<2 ^ 63)/\xs.length * k.toNat<=sizeLine then ret (.lst (List.replicate k.toNat xs).flatten) else bad
 | _,_=>bad
section
variable {X:Cx} {cl:Nat->Addr} {xe:Addr->Hp->Prop}
theorem sH:OpR X (binaryOp .Add) (λx y H Q=>∃ a b ys,x=.ref a/\y=.ref b/\SqT X.K H a []/\SqT X.K H b ys/\Q (.ref b) H):=by
 intro pins s σ H x y v u Q I t z h;obtain ⟨a,b,ys,rfl,rfl,B,C,q⟩:=h;cases t;cases z;obtain ⟨w,p,F,_⟩:=I.tuple B;obtain ⟨d,J,G,_⟩:=I.tuple C;cases p;obtain ⟨⟨r,E,l,D⟩,k,o,n,hd⟩:=id F;obtain ⟨⟨m,g,j,f⟩,c,i,A,e⟩:=id G;subst o hd i e;exact concat_meets ⟨_,k,rfl⟩ ⟨_,c,rfl⟩ JW Ku IK IF (Iw _ _)
   (tuple_addW0 a b #[] d.toArray n A E g D f rfl) ⟨k,c,⟨.ref b,H,I,rfl,q⟩⟩
theorem CG:OpR X (binaryOp .Add) (rP2 X.K cl xe i9):=by
 intro pins s σ H x y v u Q I n o ⟨μ,S,d,e,A,B,c,p⟩;have L:Post X.K cl xe μ H (bind (lstOf d) (λxs=>bind (lstOf e) λys=>if xs.length+ys.length<=sizeLine then ret (.lst (xs++ys)) else bad) S) (λr _ μ' H'=>∀ v,RD X.K μ' H' r v->Q v H')->wpAny (model X.prog X.w) X.A (binaryOp .Add v u) (EP X pins σ Q) X.xe s:=λp=>by
  obtain ⟨a,xs,ds,rfl,q,m,E⟩:=p6 A c p.bind;have p:=p.ok_bind E;obtain ⟨b,ys,es,rfl,t,h,G⟩:=p6 B c p.bind;obtain ⟨k,p⟩:=(p.ok_bind G).guard;refine xk pins s σ H _ _ v u Q I n o ⟨a,b,xs,ys,rfl,rfl,q,t,by rw [<- m.length,<- h.length];exact k,λz hz=>?_⟩;obtain ⟨l,f,g⟩:=B6 c (m.append h) hz;exact p μ _ l f _ g
 cases d <;> cases e <;> try (exact L p)
 case int.int i j=>cases A;cases B;exact ym pins s σ H _ _ v u Q I n o ⟨i,j,rfl,rfl,p μ H (Lat.refl _ _) c _ (.int _)⟩
 case str.str i j=>
  cases A;cases B;obtain ⟨k,p⟩:=Post.guard p;exact iW pins s σ H _ _ v u Q I n o ⟨i,j,rfl,rfl,k,p μ H (Lat.refl _ _) c _ (.str _)⟩
 case tup.tup ds es=>
  obtain ⟨k,p⟩:=Post.guard p;cases A with
  | tup q m=>
   cases B with
   | tup t h=>
    rename_i a xs b ys;cases ds with
    | nil=>
     cases m;exact sH pins s σ H _ _ v u Q I n o ⟨a,b,ys,rfl,rfl,q.sq,t.sq,p μ H (Lat.refl _ _) c _ (.tup t h)⟩
    | cons d ds=>
     cases m with
     | cons D C=>
      rename_i K J;refine sw pins s σ H _ _ v u Q I n o ⟨a,b,_,ys,rfl,rfl,q.sq,t.sq,by simp,by rw [<- h.length];simpa [C.length] using k,λz=>?_,λz w F=>?_⟩
      ·subst z;cases h;rw [Gv] at p;exact p μ H (Lat.refl _ _) c _ (.tup q (.cons D C))
      ·obtain ⟨l,f,g⟩:=F7 c ((RDs.cons D C).append h) F;exact p μ _ l f _ g
theorem Az:OpR X (binaryOp .Sub) (rP2 X.K cl xe K1):=by
 intro pins s σ H x y v u Q I c f ⟨μ,S,d,e,b,a,g,p⟩;cases d <;> cases e <;> try (exact False.elim p)
 case int.int i j=>cases b;cases a;exact zI pins s σ H _ _ v u Q I c f ⟨i,j,rfl,rfl,p μ H (Lat.refl _ _) g _ (.int _)⟩
theorem DX:OpR X (binaryOp .Mod) (rP2 X.K cl xe N6):=by
 intro pins s σ H x y v u Q I f g ⟨μ,S,d,e,c,b,h,p⟩;cases d <;> cases e <;> try (exact False.elim p)
 case int.int i j=>
  cases c;cases b;obtain ⟨a,p⟩:=Post.guard p;exact xn pins s σ H _ _ v u Q I f g ⟨i,j,rfl,rfl,a,p μ H (Lat.refl _ _) h _ (.int _)⟩
theorem yP:OpR X (binaryOp .FloorDiv) (rP2 X.K cl xe Y2):=by
 intro pins s σ H x y v u Q I f g ⟨μ,S,d,e,c,b,h,p⟩;cases d <;> cases e <;> try (exact False.elim p)
 case int.int i j=>
  cases c;cases b;obtain ⟨a,p⟩:=Post.guard p;exact sk pins s σ H _ _ v u Q I f g ⟨i,j,rfl,rfl,a,p μ H (Lat.refl _ _) h _ (.int _)⟩
theorem CP:OpR X (binaryOp .Pow) (rP2 X.K cl xe wD):=by
 intro pins s σ H x y v u Q I f g ⟨μ,S,d,e,c,b,h,p⟩;cases d <;> cases e <;> try (exact False.elim p)
 case int.int i j=>
  cases c;cases b;obtain ⟨a,p⟩:=Post.guard p;exact xW pins s σ H _ _ v u Q I f g ⟨i,j,rfl,rfl,a,p μ H (Lat.refl _ _) h _ (.int _)⟩
theorem Cd:OpR X (binaryOp .Mult) (rP2 X.K cl xe Q0):=by
 intro pins s σ H x y v u Q I A B ⟨μ,S,d,e,t,n,h,p⟩;have L:∀ k:Int,e=.int k->Post X.K cl xe μ H (bind (lstOf d) (λxs=>if (-(2 ^ 63)<=k/\k<2 ^ 63)/\xs.length * k.toNat<=sizeLine then ret (.lst (List.replicate k.toNat xs).flatten) else bad) S) (λr _ μ' H'=>∀ v,RD X.K μ' H' r v->Q v H')->wpAny (model X.prog X.w) X.A (binaryOp .Mult v u) (EP X pins σ Q) X.xe s:=λk F q=>by
  clear p;subst F;cases n;obtain ⟨a,xs,ds,rfl,m,b,G⟩:=p6 t h q.bind;obtain ⟨⟨⟨o,k2⟩,g⟩,p⟩:=(q.ok_bind G).guard;refine zk pins s σ H _ _ v u Q I A B ⟨a,k,xs,rfl,rfl,m,o,k2,by rw [<- b.length];exact g,λz hz=>?_⟩;obtain ⟨l,c,f⟩:=B6 h (b.rep k.toNat) hz;exact p μ _ l c _ f
 cases d <;> cases e <;> try (exact False.elim p)
 case int.int i j=>
  cases t;cases n;obtain ⟨g,p⟩:=Post.guard p;exact AE pins s σ H _ _ v u Q I A B ⟨i,j,rfl,rfl,g,p μ H (Lat.refl _ _) h _ (.int _)⟩
 case tup.int ds k=>
  cases n;obtain ⟨⟨⟨D,o,k2⟩,g⟩,p⟩:=Post.guard p;cases t with
  | tup m b=>
   rename_i a xs;have C:xs≠[]:=λz=>by subst z;cases b;exact D rfl
   refine vy pins s σ H _ _ v u Q I A B ⟨a,k,xs,rfl,rfl,m.sq,C,o,k2,by rw [<- b.length];exact g,λz=>?_,λz w E=>?_⟩
   ·subst z;have e:(List.replicate (1:Int).toNat ds).flatten=ds:=by simp
    rw [e] at p;exact p μ H (Lat.refl _ _) h _ (.tup m b)
   ·obtain ⟨l,c,f⟩:=F7 h (b.rep k.toNat) E;exact p μ _ l c _ f
 all_goals exact L _ rfl p
end
def eqP (a:Bool) (x y:D):M D:=λS=>match d8 64 S x,d8 64 S y with
 | some p,some q=>(if p.canLay0=true/\q.canLay0=true/\min p.depth q.depth<=60 then ret (.bl (if a then !PyData.eqv p q else PyData.eqv p q)) else bad) S
 | _,_=>.bad
def eqD (c:Bool) (x y:D):M D:=match x,y with
 | .str a,.str b=>ret (.bl (if c then !decide (a=b) else decide (a=b)))
 | .int a,.int b=>ret (.bl (if c then !decide (a=b) else decide (a=b)))
 | x,y=>eqP c x y
def mr (f:Int->Int->Bool) (x y:D):M D:=match x,y with
 | .int i,.int j=>ret (.bl (f i j))
 | _,_=>bad
def Z6 (a:Bool) (d:PyData) (ps:List PyData):M D:=if d.canLay0=true/\PyData.canLayAll0 ps=true/\min (PyData.depthAll ps) d.depth<=60 then ret (.bl (if a then !(ps.any λy=>PyData.eqv y d) else ps.any λy=>PyData.eqv y d)) else bad
def inD (a:Bool) (x y:D):M D:=λS=>match d8 64 S x,d8 64 S y with
 | some d,some (.list ps)=>Z6 a d ps S
 | some d,some (.tuple ps)=>Z6 a d ps S
 | _,_=>.bad
def isD (a:Bool) (x y:D):M D:=match y with
 | .non=>ret (.bl (match x with
  | .non=>!a
  | _=>a))
 | .bl b=>ret (.bl (match x with
  | .bl c=>if a then !(c==b) else c==b
  | _=>a))
 | _=>bad
section
variable {X:Cx} {cl:Nat->Addr} {xe:Addr->Hp->Prop}
theorem FB (q:X.A.units+64<cLine):OpR X (compareOp .Eq) (rP2 X.K cl xe (eqD false)):=by
 intro pins s σ H x y v u Q I i k ⟨μ,S,d,e,j,l,c,p⟩;have g:Post X.K cl xe μ H (eqP false d e S) (λr _ μ' H'=>∀ v,RD X.K μ' H' r v->Q v H')->wpAny (model X.prog X.w) X.A (compareOp .Eq v u) (EP X pins σ Q) X.xe s:=λp=>by
  simp only [eqP] at p;cases f:d8 64 S d with
  | none=>rw [f] at p;exact p.elim
  | some a=>
   cases h:d8 64 S e with
   | none=>rw [f,h] at p;exact p.elim
   | some b=>
    rw [f,h] at p;obtain ⟨⟨m,n,o⟩,p⟩:=Post.guard p;exact zS q pins s σ H _ _ v u Q I i k ⟨a,b,q5 c 64 f j,q5 c 64 h l,m,n,o,p μ H (Lat.refl _ _) c _ (.bl _)⟩
 cases d <;> cases e <;> try (exact g p)
 case str.str a b=>
  cases j;cases l;exact DN pins s σ H _ _ v u Q I i k ⟨rfl,by rw [show decide (V.str a=V.str b)=decide (a=b) by rw [HS];simp];exact p μ H (Lat.refl _ _) c _ (.bl _)⟩
theorem Et (q:X.A.units+64<cLine):OpR X (compareOp .NotEq) (rP2 X.K cl xe (eqD true)):=by
 intro pins s σ H x y v u Q I i k ⟨μ,S,d,e,j,l,c,p⟩;have g:Post X.K cl xe μ H (eqP true d e S) (λr _ μ' H'=>∀ v,RD X.K μ' H' r v->Q v H')->wpAny (model X.prog X.w) X.A (compareOp .NotEq v u) (EP X pins σ Q) X.xe s:=λp=>by
  simp only [eqP] at p;cases f:d8 64 S d with
  | none=>rw [f] at p;exact p.elim
  | some a=>
   cases h:d8 64 S e with
   | none=>rw [f,h] at p;exact p.elim
   | some b=>
    rw [f,h] at p;obtain ⟨⟨m,n,o⟩,p⟩:=Post.guard p;exact yH q pins s σ H _ _ v u Q I i k ⟨a,b,q5 c 64 f j,q5 c 64 h l,m,n,o,p μ H (Lat.refl _ _) c _ (.bl _)⟩
 cases d <;> cases e <;> try (exact g p)
 case str.str a b=>
  cases j;cases l;exact BG pins s σ H _ _ v u Q I i k ⟨rfl,by rw [show decide (V.str a=V.str b)=decide (a=b) by rw [HS];simp];exact p μ H (Lat.refl _ _) c _ (.bl _)⟩
theorem jl (h:OpR X (compareOp op) (rI0 λi j=>.bl (f i j))):OpR X (compareOp op) (rP2 X.K cl xe (mr f)):=by
 intro pins s σ H x y v u Q I b g ⟨μ,S,d,e,c,k,a,p⟩;cases d <;> cases e <;> try (exact False.elim p)
 case int.int i j=>cases c;cases k;exact h pins s σ H _ _ v u Q I b g ⟨i,j,rfl,rfl,p μ H (Lat.refl _ _) a _ (.bl _)⟩
theorem cR {a:Bool} (o:X.A.units+80<cLine) {pins:List (Addr×Obj)} {s:Shared} {σ:L2.St} {H:Hp} {x y:V} {v u:Value} {Q:VK} {d:PyData} {ps:List PyData} (I:Inv X pins σ H s) (l:RelV x v) (j:RelV y u)
  (hd:DAt X.K H x d) (f:DAt X.K H y (.list ps)\/DAt X.K H y (.tuple ps)) (c:d.canLay0=true/\PyData.canLayAll0 ps=true/\min (PyData.depthAll ps) d.depth<=60)
  (q:Q (.bl (if a then !(ps.any λy=>PyData.eqv y d) else ps.any λy=>PyData.eqv y d)) H):wpAny (model X.prog X.w) X.A (compareOp (if a then .NotIn else .In) v u) (EP X pins σ Q) X.xe s:=by
 obtain ⟨h,i,n⟩:=c;obtain ⟨m,g⟩:=hd.reads I l;have b:X.A.units+1+min (PyData.depthAll ps) d.depth<cLine:=by omega
 rcases f with f | f
 ·obtain ⟨k,e⟩:=f.reads I j;cases a with
  | false=>exact SeqAt.in_list_reads e g i h b ⟨.bl _,H,I,rfl,q⟩
  | true=>exact SeqAt.notIn_list_reads e g i h b ⟨.bl _,H,I,rfl,q⟩
 ·obtain ⟨k,e⟩:=f.reads I j;cases a with
  | false=>exact SeqAt.in_tuple_reads e g i h b ⟨.bl _,H,I,rfl,q⟩
  | true=>exact SeqAt.notIn_tuple_reads e g i h b ⟨.bl _,H,I,rfl,q⟩
theorem BY (neg:Bool) (hu:X.A.units+80<cLine):OpR X (compareOp (if neg then .NotIn else .In)) (rP2 X.K cl xe (inD neg)):=by
 intro pins s σ H x y v u Q I rx ry ⟨μ,S,d,e,rd,re,rp,p⟩;simp only [inD] at p;cases e1:d8 64 S d with
 | none=>rw [e1] at p;exact p.elim
 | some a=>
  cases e2:d8 64 S e with
  | none=>rw [e1,e2] at p;exact p.elim
  | some b=>
   rw [e1,e2] at p;have ha:=q5 rp 64 e1 rd;have hb:=q5 rp 64 e2 re;cases b with
   | list ps=>obtain ⟨c,p⟩:=Post.guard p;exact cR hu I rx ry ha (.inl hb) c (p μ H (Lat.refl _ _) rp _ (.bl _))
   | tuple ps=>obtain ⟨c,p⟩:=Post.guard p;exact cR hu I rx ry ha (.inr hb) c (p μ H (Lat.refl _ _) rp _ (.bl _))
   | _=>exact p.elim
theorem zH (f:Bool):OpR X (compareOp (if f then .IsNot else .Is)) (rP2 X.K cl xe (isD f)):=by
 intro pins s σ H x y v u Q I a i ⟨μ,S,d,e,h,k,j,p⟩;have g:∀ b:Bool,(∀ μ' H',Lat μ H μ' H'->Rep X.K cl μ' S H'->∀ v,RD X.K μ' H' (.bl b) v->Q v H')->∀ c,c=b->EP X pins σ Q (.bool c) s:=λb p c e=>⟨.bl b,H,I,by rw [e];rfl,p μ H (Lat.refl _ _) j _ (.bl _)⟩;cases k <;> try (exact False.elim p)
 case non=>
  cases i;cases f with
  | false=>
   refine is_none_gen (g _ p _ ?_);cases h <;> first
    | (cases a;rfl)
    | (obtain ⟨t,rfl⟩:=a;rfl)
  | true=>
   refine isnot_none_gen (g _ p _ ?_);cases h <;> first
    | (cases a;rfl)
    | (obtain ⟨t,rfl⟩:=a;rfl)
 case bl b=>
  cases i;cases f with
  | false=>
   refine wpAny_is_plain ?_ (g _ p _ ?_)
   ·cases h <;> first
    | (cases a;rfl)
    | (obtain ⟨t,rfl⟩:=a;rfl)
   ·cases h <;> first
    | (cases a;rfl)
    | (obtain ⟨t,rfl⟩:=a;rfl)
    | (cases a;(rename_i c;cases c <;> cases b <;> rfl))
  | true=>
   refine wpAny_isNot_plain ?_ (g _ p _ ?_)
   ·cases h <;> first
    | (cases a;rfl)
    | (obtain ⟨t,rfl⟩:=a;rfl)
   ·cases h <;> first
    | (cases a;rfl)
    | (obtain ⟨t,rfl⟩:=a;rfl)
    | (cases a;(rename_i c;cases c <;> cases b <;> rfl))
end
def O1:D->Option Key
 | .int i=>some (.inl i)
 | .str x=>some (.inr x)
 | _=>none
def qO {κ:Type} [DecidableEq κ] (a:List (κ×D)) (k:κ):Option D:=(a.find? λb=>decide (b.1=k)).map (·.2)
def ki {κ:Type} [DecidableEq κ] (a:List (κ×D)) (k:κ) (v:D):List (κ×D):=if a.any (λb=>decide (b.1=k)) then a.map (λb=>if b.1=k then (b.1,v) else b) else a++[(k,v)]
def eE {b:Type}:Option b->M b
 | some a=>ret a
 | none=>bad
def ixD (x y:D):M D:=match x with
 | .ref n=>λS=>match S[n]? with
  | some (.lst ds)=>(match y with
   | .int i=>eE (atI ds i)
   | _=>bad) S
  | some (.dct a)=>eE ((O1 y).bind (qO a)) S
  | _=>.bad
 | x=>match y with
  | .int i=>bind (G5 x) λds=>eE (atI ds i)
  | _=>bad
theorem yJ {K:PySem.W.Frag} {μ:Mp} {H:Hp} {ds:List D} {xs:List V} {i:Int} {d:D} (r:RDs K μ H ds xs) (e:atI ds i=some d):∃ v,atI xs i=some v/\RD K μ H d v:=by
 unfold atI at e ⊢;rw [<- r.length];cases q:ixN ds.length i with
 | none=>rw [q] at e;cases e
 | some j=>rw [q] at e;exact r.get e
theorem kD {K:PySem.W.Frag} {cl:Nat->Addr} {xe:Addr->Hp->Prop} {μ:Mp} {H:Hp} {S:Sto} {b:Type} {o:Option b} {G:b->Sto->Mp->Hp->Prop} (p:Post K cl xe μ H (eE o S) G):∃ a,o=some a/\∀ μ' H',Lat μ H μ' H'->Rep K cl μ' S H'->G a S μ' H':=by
 cases o with
 | none=>exact p.elim
 | some a=>exact ⟨a,rfl,p⟩
theorem jX {K:PySem.W.Frag} {μ:Mp} {H:Hp} {k:Key} {d:D}:∀ {a:List (Key×D)} {f:List (Key×V)},KvsAt K μ H a f->qO a k=some d->∃ v,Z8 f k=some v/\RD K μ H d v
 | _,_,.nil,e=>by simp [qO] at e
 | p :: r,q :: j,.cons ⟨c,i⟩ t,e=>by
  unfold qO at e;rw [HA] at e;by_cases b:p.1=k
  ·simp only [b,decide_true] at e;cases e;exact ⟨q.2,Q3 (c▸b),i⟩
  ·simp only [b,decide_false] at e;obtain ⟨v,g,h⟩:=jX t e;exact ⟨v,by rw [R0 (c▸b)];exact g,h⟩
theorem bA {K:PySem.W.Frag} {μ:Mp} {H:Hp} {y:D} {v:V} {k:Key} (r:RD K μ H y v) (e:O1 y=some k):v=kV k:=by
 cases r <;> simp only [O1] at e <;> first | (cases e;rfl) | cases e
section
variable {X:Cx} {cl:Nat->Addr} {xe:Addr->Hp->Prop}
theorem wT (o:X.A.units+1<cLine):IxR X (λx y H Q=>∃ a v,x=.ref a/\DGet H a y (some v)/\Q v H):=by
 intro d c pins s σ H x y v u Q I m n h hs;obtain ⟨a,w,rfl,g,q⟩:=h;cases m;have k:=fw I g;have i:wpAny (model X.prog X.w) X.A (getItem (.ref a) u) (EP X pins σ Q) X.xe s:=lJ o I g n λw' p l j=>⟨w,H,l,j,q⟩;refine Fq ?_;rw [getitemInPython_of_ne k.not_modules];refine Fq (wpAny_specialOf k PySem.F.slot_dict_getitem.lookup ?_);have e:wpAny (model X.prog X.w) X.A (subscripted c false (.ref a) u) (λr b=>wpAny (model X.prog X.w) X.A (letTemporaryGo d (.ref a) r >>= λ_=>pure r) (EP X pins σ Q) X.xe b) X.xe s:=by
  rw [hs];exact wpAny_operating (Gs i (λr b f=>Fq (wpAny_letTemporaryGo (Fs f))) λ_ _ x=>x)
 first
  | exact Fs (Fq e)
  | exact Fq (Fs (Fq e))
  | exact Fq e
theorem EL (hu:X.A.units+1<cLine):IxR X (rP2 X.K cl xe ixD):=by
 intro value slice pins s σ H x y v u Q I rx ry ⟨μ,S,d,e,rd,re,rp,p⟩ hs;have sq:∀ {a:Addr} {xs:List V} {ds:List D} {i:Int},(SqL X.K H a xs\/SqT X.K H a xs)->RDs X.K μ H ds xs->x=.ref a->e=.int i->Post X.K cl xe μ H (eE (atI ds i) S) (λr _ μ' H'=>∀ v,RD X.K μ' H' r v->Q v H') ->
   wpAny (model X.prog X.w) X.A (subscriptTail value slice v u) (EP X pins σ Q) X.xe s:=λ{a xs ds i} hq r hx he q=>by
  clear p;subst hx he;cases re;obtain ⟨z,e1,q⟩:=kD q;obtain ⟨w,e2,rw'⟩:=yJ r e1;rcases hq with hq | hq
  ·exact wK value slice pins s σ H _ _ v u Q I rx ry ⟨a,xs,i,w,rfl,rfl,hq,e2,q μ H (Lat.refl _ _) rp _ rw'⟩ hs
  ·exact AT value slice pins s σ H _ _ v u Q I rx ry ⟨a,xs,i,w,rfl,rfl,hq,e2,q μ H (Lat.refl _ _) rp _ rw'⟩ hs
 cases rd with
 | tup h r=>
  cases e <;> first | exact False.elim p | exact sq (.inr h.sq) r rfl rfl p
 | lst h r=>
  cases e <;> first | exact False.elim p | exact sq (.inl h.sq) r rfl rfl p
 | scr h r=>
  cases e <;> first | exact False.elim p | exact sq (.inl h.sq) r rfl rfl p
 | ref h=>
  rename_i n a;simp only [ixD] at p;cases q1:S[n]? with
  | none=>rw [q1] at p;exact p.elim
  | some o=>
   rw [q1] at p;cases o with
   | lst ds=>
    obtain ⟨xs,h1,h2⟩:=rp.ats n _ a q1 h;cases e <;> first | exact False.elim p | exact sq (.inl (.inl (.inl h1))) h2 rfl rfl p
   | dct kvs=>
    obtain ⟨ks,h1,h2⟩:=rp.ats n _ a q1 h;obtain ⟨z,e1,p⟩:=kD p;cases e2:O1 e with
    | none=>rw [e2] at e1;cases e1
    | some k=>
     rw [e2] at e1;obtain ⟨w,e3,r3⟩:=jX h2 e1;have hy:=bA re e2;subst hy;exact wT hu value slice pins s σ H _ _ v u Q I rx ry ⟨a,w,rfl,by rw [<- e3];exact DGet.k h1,p μ H (Lat.refl _ _) rp _ r3⟩ hs
   | exc _ _=>exact p.elim
 | _=>cases e <;> exact False.elim p
def u6 (ds:List D) (lo a:Option Int):List D:=(ds.drop (HT.sIx ds.length 0 lo)).take (HT.sIx ds.length ds.length a-HT.sIx ds.length 0 lo)
theorem oH {K:PySem.W.Frag} {μ:Mp} {H:Hp} {ds:List D} {xs:List V} (r:RDs K μ H ds xs) (lo a:Option Int):RDs K μ H (u6 ds lo a) (mL xs lo a):=by
 unfold u6 mL;rw [<- r.length];exact (r.drop _).take _
def slD (x:D) (lo a:Option Int):M D:=match x with
 | .tup ds=>ret (.tup (u6 ds lo a))
 | x=>bind (match x with
  | .scr ds=>ret ds
  | x=>lstOf x) λds=>ret (.lst (u6 ds lo a))
end
def noStar:Expr->Bool
 | .Starred ..=>false
 | _=>true
def m9:Expr->Bool
 | .ListComp ..=>false
 | .SetComp ..=>false
 | .DictComp ..=>false
 | _=>true
def E8:Expr->Bool
 | .Slice ..=>false
 | _=>true
def u4:Expr->Bool
 | .Set ..=>false
 | _=>true
def v8:Expr->Bool
 | .Call (.Name _ _) [] [] _=>false
 | _=>true
def D2:Expr->Bool
 | .UnaryOp .Not _ _=>false
 | .BoolOp ..=>false
 | .IfExp ..=>false
 | .Compare ..=>false
 | _=>true
theorem c8 (h:noStar e=true):starEach (e :: es) env=(false,eval e env) :: starEach es env:=by
 cases e <;> first | rfl | (exact absurd h (by simp [noStar]))
theorem i8:∀ {es:List Expr} {a:PySem.Env} {pos:Pos},es.all noStar=true->(backTo pos (starEach es a)).any (·.1)=false
 | [],_,_,_=>rfl
 | e :: es,a,pos,h=>by
  rw [Gy,FG] at h;rw [c8 h.1];show (false||(backTo pos (starEach es a)).any (·.1))=false;rw [i8 h.2];rfl
theorem bc:∀ {es:List Expr} {a:PySem.Env} {pos:Pos},es.all noStar=true->(backTo pos (starEach es a)).all (λx=>!x.1)=true
 | [],_,_,_=>rfl
 | e :: es,a,pos,h=>by
  rw [Gy,FG] at h;rw [c8 h.1];show (!false&&(backTo pos (starEach es a)).all (λx=>!x.1))=true;rw [bc h.2];rfl
theorem D6 (h:m9 e=true):swapsWith e t n env=pure false:=by
 cases e <;> first | rfl | (exact absurd h (by simp [m9]))
theorem gu (h:E8 e=true):dP e:=by
 intro o i;cases e <;> first | rfl | (exact absurd h (by simp [E8]))
theorem W0 {e:Expr} (h:u4 e=true):behindInMarks op e=false:=by
 cases e <;> first | rfl | (exact absurd h (by simp [u4]))
theorem y8 (h:u4 e=true):∀ x,foldedSetIterable e env x=pure x:=by
 intro x;cases e <;> first | rfl | (exact absurd h (by simp [u4]))
theorem M5 (h:v8 o=true):attributeBase o f env (eval o env)=eval o env:=by
 unfold attributeBase;split
 ·exact absurd h (by simp [v8])
 ·rfl
theorem test_of (h:D2 e=true):∀ a,isTrue e env a=(do let v <- a;standAt e.pos;holding [v] (truthy v)):=by
 intro a;cases e <;> first
  | rfl
  | (rename_i op _ _;cases op <;> first | rfl | (exact absurd h (by simp [D2])))
  | (exact absurd h (by simp [D2]))
section
variable {X:Cx} {cl:Nat->Addr} {xe:Addr->Hp->Prop} {e:Expr} {es:List Expr} {pos:Pos} {f:Env->M D} {fs:Env->M (List D)}
theorem wN:PA X [] (tDs X.K cl xe λ_=>ret []):=PA.imp A1 λσ H Q ⟨μ,S,ρ,b,a,p⟩=>p.ret μ H (Lat.refl _ _) a [] .nil
theorem nC (h:PE X e (tD X.K cl xe f)) (hs:PA X es (tDs X.K cl xe fs)) (m:noStar e=true):PA X (e :: es) (tDs X.K cl xe λρ=>bind (f ρ) λd=>bind (fs ρ) λds=>ret (d :: ds)):=
 PA.imp (f7 h hs (c8 m)) λσ H Q ⟨μ,S,ρ,c,l,p⟩=>
  ⟨μ,S,ρ,c,l,p.bind.imp λd S1 b s q r i v g=>⟨b,S1,ρ,c.later q,r,i.bind.imp λds S2 μ2 j o n k vs a=>k.ret μ2 j (Lat.refl _ _) n _ (.cons (g.later o) a)⟩⟩
def ye (ds:List D):M D:=if ds.length<=sizeLine then ret (.tup ds) else bad
def zw (ds:List D):M D:=if ds.length<=sizeLine then ret (.lst ds) else bad
theorem yi (h:PA X es (tDs X.K cl xe fs)):PE X (.Tuple es k pos) (tD X.K cl xe λρ=>bind (fs ρ) ye):=PE.imp (oE h) λσ H Q ⟨μ,S,ρ,i,g,p⟩=>
 ⟨μ,S,ρ,i,g,p.bind.imp λds S1 e m n j c vs a=>by
  obtain ⟨f,c⟩:=Post.guard c;refine ⟨by rw [<- a.length];exact f,λz hz=>?_⟩;obtain ⟨l,b,d⟩:=F7 j a hz;exact c e _ l b _ d⟩
theorem yO (h:PA X es (tDs X.K cl xe fs)):PE X (.List es pos) (tD X.K cl xe λρ=>bind (fs ρ) zw):=PE.imp (oe h) λσ H Q ⟨μ,S,ρ,i,g,p⟩=>
 ⟨μ,S,ρ,i,g,p.bind.imp λds S1 e k m j c vs a=>by
  obtain ⟨f,c⟩:=Post.guard c;refine ⟨by rw [<- a.length];exact f,λz hz=>?_⟩;obtain ⟨l,b,d⟩:=B6 j a hz;exact c e _ l b _ d⟩
def newL (ds:List D):M D:=λS=>if ds.length<=sizeLine then .ok (.ref S.length) (S++[.lst ds]) else .bad
theorem vg (h:PA X es (tDs X.K cl xe fs)):PE X (.List es pos) (tD X.K cl xe λρ=>bind (fs ρ) newL):=PE.imp (oe h) λσ H Q ⟨μ,S,ρ,i,g,p⟩=>
 ⟨μ,S,ρ,i,g,p.bind.imp λds S1 f k m j a vs b=>by
  unfold newL at a;by_cases e:ds.length<=sizeLine
  ·rw [if_pos e] at a;refine ⟨by rw [<- b.length];exact e,λz hz=>?_⟩;obtain ⟨l,c,d⟩:=lF j b hz;exact a _ _ l c _ d
  ·rw [if_neg e] at a;exact a.elim⟩
def gp (E:XK):Addr->Hp->Prop:=λa H=>E (.ref a) none H
def spD (K:PySem.W.Frag) (cl:Nat->Addr) (n:Nat) (a:List D->M D):Sp:=λvs H Q E=>vs.length=n/\∃ μ S ds,RDs K μ H ds vs/\Rep K cl μ S H/\Post K cl (gp E0) μ H (a ds S) λd _ μ' H'=>∀ v,RD K μ' H' d v->Q v H'
theorem uX {k n:Nat} {a:Addr} {fd:FuncData} {ps:List Str} {E:XK} {x:Str} {p:Pos} {c:List D->M D} (w:ps.length=n) (F:FnOk X.prog X.w X.K X.mg X.base CX k a fd ps (spD X.K cl n c)) (o:Room CX.q k X.A) (j:Gl X x) (r:X.mg x=some (.ref a)) (m:PySem.W.keepIn X.K (.ref a)=true) (q:Binds X.K fd ps []) (s:v3 CX X E)
  (t:PA X (e :: es) (tDs X.K cl (gp E0) fs)) (f:(x==("__debug__" : Str))=false) (hs:(e :: es).all noStar=true) (u:(e :: es).length=n) :
  PE X (.Call (.Name x p) (e :: es) [] pos) (tD X.K cl (gp E0) λρ=>bind (fs ρ) λds=>if ds.length=n then c ds else bad):=by
 rw [Gy,FG] at hs;exact PE.imp (im F o j r m q .nil s t f (c8 hs.1) (i8 hs.2)) λσ H Q ⟨μ,S,ρ,h,l,p⟩=>
  ⟨μ,S,ρ,h,l,p.bind.imp λds S1 g v y i d vs b=>by
   by_cases hd:ds.length=n
   ·rw [if_pos hd] at d;exact ⟨by rw [Gv,<- b.length];exact hd,g,S1,ds,by rw [Gv];exact b,i,d⟩
   ·rw [if_neg hd] at d;exact d.elim⟩
theorem rq {id:String} {x:Str} {p:Pos} (d:i5 X (.builtin id) (rPs X.K cl xe g)) (o:Gl X x) (k:X.mg x=none) (h:bootBuiltins x=some (.builtin id)) (m:PA X (e :: es) (tDs X.K cl xe fs)) (j:x ≠ "__name__") (c:(x==("__debug__" : Str))=false) (hs:(e :: es).all noStar=true) :
  PE X (.Call (.Name x p) (e :: es) [] pos) (tD X.K cl xe λρ=>bind (fs ρ) g):=by
 rw [Gy,FG] at hs;exact PE.imp (Q8 d o k h m j c (c8 hs.1) (i8 hs.2)) λσ H Q ⟨μ,S,ρ,l,i,p⟩=>⟨μ,S,ρ,l,i,p.bind.imp λds S1 b q r n f vs a=>⟨b,S1,ds,a,n,f⟩⟩
theorem pT {T:String} {x:Str} {p:Pos} (d:i5 X (.type T) (rPs X.K cl xe g)) (o:Gl X x) (k:X.mg x=none) (h:bootBuiltins x=some (.type T)) (m:PA X (e :: es) (tDs X.K cl xe fs)) (j:x ≠ "__name__") (c:(x==("__debug__" : Str))=false) (hs:(e :: es).all noStar=true) :
  PE X (.Call (.Name x p) (e :: es) [] pos) (tD X.K cl xe λρ=>bind (fs ρ) g):=by
 rw [Gy,FG] at hs;exact PE.imp (mW d o k h m j c (c8 hs.1) (i8 hs.2)) λσ H Q ⟨μ,S,ρ,l,i,p⟩=>⟨μ,S,ρ,l,i,p.bind.imp λds S1 b q r n f vs a=>⟨b,S1,ds,a,n,f⟩⟩
end
def one (g:D->M D) (ds:List D):M D:=match ds with
 | [d]=>g d
 | _=>bad
def k8 (d:D):M D:=match d with
 | .str x=>if x.length<=sizeLine then ret (.int x.length) else bad
 | .ref n=>λS=>match S[n]? with
  | some (.lst ds)=>.ok (.int ds.length) S
  | some (.dct a)=>.ok (.int a.length) S
  | _=>.bad
 | d=>bind (G5 d) λds=>ret (.int ds.length)
def t6 (d:D):M D:=match d with
 | .tup ds=>ret (.tup ds)
 | d=>bind (G5 d) λds=>ret (.tup ds)
def jv (d:D):M D:=bind (G5 d) λds=>ret (.lst ds)
instance (p:PyData):Decidable (Shows p):=decidable_of_iff (p.showable=true/\p.hasDict=false/\p.depth<=60/\p.shown.length<=sizeLine) ⟨λ⟨a,b,c,d⟩=>⟨a,b,c,d⟩,λ⟨a,b,c,d⟩=>⟨a,b,c,d⟩⟩
def X7 (d:D):M D:=λS=>match d8 64 S d with
 | some p=>(if Shows p then ret (.str p.shown) else bad) S
 | none=>.bad
theorem lT {K:PySem.W.Frag} {μ:Mp} {H:Hp} {d:D} {vs:List V} (r:RDs K μ H [d] vs):∃ v,vs=[v]/\RD K μ H d v:=by
 cases r with
 | cons h t=>cases t;exact ⟨_,rfl,h⟩
section
variable {X:Cx} {cl:Nat->Addr} {xe:Addr->Hp->Prop}
theorem J8 (h:∀ (pins:List (Addr×Obj)) (s:Shared) (σ:L2.St) (H:Hp) (μ:Mp) (S:Sto) (d:D) (v:V) (us:List Value) (Q:VK),L2.Inv X pins σ H s->Vals [v] us->RD X.K μ H d v->Rep X.K cl μ S H->Post X.K cl xe μ H (g d S) (λr _ μ' H'=>∀ v,RD X.K μ' H' r v->Q v H') ->
  wpAny (model X.prog X.w) X.A (call f us) (EP X pins σ Q) X.xe s):i5 X f (rPs X.K cl xe (one g)):=by
 intro pins s σ H xs us Q I r ⟨μ,S,ds,a,c,p⟩
 match ds,p with
 | [d],p=>
  obtain ⟨v,rfl,b⟩:=lT a;exact h pins s σ H μ S d v us Q I r b c p
 | [],p=>exact p.elim
 | _ :: _ :: _,p=>exact p.elim
theorem Bu:i5 X (.builtin "len") (rPs X.K cl xe (one k8)):=J8 λpins s σ H μ S d v us Q I r rd rp p=>by
 have sq:∀ {a:Addr} {xs:List V} {ds:List D},(SqL X.K H a xs\/SqT X.K H a xs)->RDs X.K μ H ds xs->v=.ref a->(∀ μ' H',Lat μ H μ' H'->Rep X.K cl μ' S H'->∀ w,RD X.K μ' H' (.int ds.length) w->Q w H')->wpAny (model X.prog X.w) X.A (call (.builtin "len") us) (EP X pins σ Q) X.xe s:=λ{a xs ds} hq r2 hv q=>by
  subst hv;exact dC pins s σ H _ us Q I r ⟨a,xs,rfl,hq,by rw [<- r2.length];exact q μ H (Lat.refl _ _) rp _ (.int _)⟩
 cases rd with
 | str x=>
  obtain ⟨hl,p⟩:=Post.guard p;exact dG pins s σ H _ us Q I r ⟨x,rfl,hl,p μ H (Lat.refl _ _) rp _ (.int _)⟩
 | tup h r2=>exact sq (.inr h.sq) r2 rfl p
 | lst h r2=>exact sq (.inl h.sq) r2 rfl p
 | scr h r2=>exact sq (.inl h.sq) r2 rfl p
 | ref h=>
  rename_i n a;simp only [k8] at p;cases q1:S[n]? with
  | none=>rw [q1] at p;exact p.elim
  | some o=>
   rw [q1] at p;cases o with
   | lst ds=>
    obtain ⟨xs,h1,h2⟩:=rp.ats n _ a q1 h;exact sq (.inl (.inl (.inl h1))) h2 rfl p
   | dct kvs=>
    obtain ⟨ks,h1,h2⟩:=rp.ats n _ a q1 h;have hl:=Paired.length h2;exact mK pins s σ H _ us Q I r ⟨a,ks,rfl,h1,by rw [<- hl];exact p μ H (Lat.refl _ _) rp _ (.int _)⟩
   | exc _ _=>exact p.elim
 | _=>exact False.elim p
theorem tO:i5 X (.type "tuple") (rPs X.K cl xe (one t6)):=J8 λpins s σ H μ S d v us Q I r rd rp p=>by
 have sq:∀ {a:Addr} {xs:List V} {ds:List D},SqL X.K H a xs->RDs X.K μ H ds xs->v=.ref a->(∀ μ' H',Lat μ H μ' H'->Rep X.K cl μ' S H'->∀ w,RD X.K μ' H' (.tup ds) w->Q w H')->wpAny (model X.prog X.w) X.A (call (.type "tuple") us) (EP X pins σ Q) X.xe s:=λ{a xs ds} hq r2 hv q=>by
  subst hv;refine O3 pins s σ H _ us Q I r ⟨a,xs,rfl,.inl ⟨hq,λz hz=>?_⟩⟩;obtain ⟨l,rp2,rd2⟩:=F7 rp r2 hz;exact q μ _ l rp2 _ rd2
 cases rd with
 | tup h r2=>exact O3 pins s σ H _ us Q I r ⟨_,_,rfl,.inr ⟨h.sq,p μ H (Lat.refl _ _) rp _ (.tup h r2)⟩⟩
 | lst h r2=>exact sq h.sq r2 rfl p
 | scr h r2=>exact sq h.sq r2 rfl p
 | ref h=>
  rename_i n a0;have p2:=p;obtain ⟨a,xs,ds,e1,h1,h2,e2⟩:=p6 (.ref h) rp p2.bind;exact sq (.inl (.inl h1)) h2 e1 (p2.ok_bind e2)
 | _=>exact False.elim p
theorem AO:i5 X (.type "list") (rPs X.K cl xe (one jv)):=J8 λpins s σ H μ S d v us Q I r f e p=>by
 obtain ⟨a,xs,ds,rfl,h,i,g⟩:=bP f e p.bind;refine dM pins s σ H _ us Q I r ⟨a,xs,rfl,h,λz hz=>?_⟩;obtain ⟨l,b,c⟩:=B6 e i hz;exact (p.ok_bind g) μ _ l b _ c
theorem zB (e:X.A.guards=some []) (f:X.A.units+64<cLine):i5 X (.builtin "repr") (rPs X.K cl xe (one X7)):=J8 λpins s σ H μ S d v us Q I r c b p=>by
 simp only [X7] at p;cases a:d8 64 S d with
 | none=>rw [a] at p;exact p.elim
 | some q=>
  rw [a] at p;obtain ⟨hs,p⟩:=Post.guard p;exact kn e f pins s σ H _ us Q I r ⟨v,q,rfl,q5 b 64 a c,hs,p μ H (Lat.refl _ _) b _ (.str _)⟩
end
def Mp.free (μ:Mp):Mp:=⟨μ.pl,μ.rs.tail⟩
section
variable {K:PySem.W.Frag} {cl:Nat->Addr} {xe:Addr->Hp->Prop} {μ μ2:Mp} {S S2:Sto} {H H2:Hp} {p:Addr} {o:HO}
theorem wS (i:Rep K cl μ S H) (h:H p=none):(∀ {d:D} {v:V},RD K μ H d v->RD K (μ.hold p) (upd H p o) d v)/\∀ {ds:List D} {vs:List V},RDs K μ H ds vs->RDs K (μ.hold p) (upd H p o) ds vs:=by
 have c:∀ a u,H a=some u->a∉μ.pl->a∉μ.rs->upd H p o a=some u/\a∉(μ.hold p).pl/\a∉(μ.hold p).rs:=λa u e f g=>by
  have b:=b9 e h;exact ⟨by rw [a8 b];exact e,f,λz=>(FP.mp z).elim b g⟩
 exact ⟨λr=>r.move (μ:=μ) (μ':=μ.hold p) (λ_ _ e=>e) c,λr=>r.move (μ:=μ) (μ':=μ.hold p) (λ_ _ e=>e) c⟩
theorem U5 (c:Rep K cl μ S H) (b:H p=none):Rep K cl (μ.hold p) S (upd H p o):=by
 have j:∀ a u,H a=some u->a∉μ.pl->a∉μ.rs->upd H p o a=some u/\a∉(μ.hold p).pl/\a∉(μ.hold p).rs:=λa u e g h=>by
  have d:=b9 e b;exact ⟨by rw [a8 d];exact e,g,λz=>(FP.mp z).elim d h⟩
 refine c.move (λa m=>?_) rfl (λa m=>a8 λz=>c.notin b (z▸m)) (λa u e=>by rw [a8 (b9 e b)];exact e) j;rcases FP.mp (m) with rfl | m
 ·exact ⟨c.notin b,o,b6⟩
 ·obtain ⟨i,u,f⟩:=c.res a m;exact ⟨i,u,by rw [a8 (b9 f b)];exact f⟩
theorem T7 (b:Rep K cl μ S H) (c:H p=none) (a:EnvOk K μ H ρ σ):EnvOk K (μ.hold p) (upd H p o) ρ σ:=⟨a.1,λi d e=>let ⟨v,q,r⟩:=a.2 i d e;⟨v,q,(wS b c).1 r⟩⟩
theorem fI (r:RDs K μ H ds vs):RDs K μ.free H ds vs:=r.move (μ:=μ) (μ':=μ.free) (λ_ _ e=>e) λa u e b c=>⟨e,b,λz=>c (Jc z)⟩
theorem ai (b:Rep K cl μ S H):Rep K cl μ.free S H:=b.move (λa m=>b.res a (Jc m)) rfl (λ_ _=>rfl) (λ_ _ e=>e) λa u e c d=>⟨e,c,λz=>d (Jc z)⟩
theorem V2 (e:μ.rs=p :: rs) (r:RDs K μ H ds vs):RDs K μ (upd H p o) ds vs:=r.move (λ_ _ e=>e) λa u q c b=>⟨by rw [a8 (λz=>b (by rw [e,z];exact FO))];exact q,c,b⟩
theorem aa (e:μ.rs=p :: rs) (r:RD K μ H d v):RD K μ (upd H p o) d v:=r.move (λ_ _ e=>e) λa u q c b=>⟨by rw [a8 (λz=>b (by rw [e,z];exact FO))];exact q,c,b⟩
theorem V5 (e:μ.rs=p :: rs) (h:H p=some (.lst xs)) (b:Rep K cl μ S H):Rep K cl μ S (upd H p o):=by
 have g:=(b.res p (by rw [e];exact FO)).1;refine b.move (λa m=>?_) rfl (λa m=>a8 λz=>g (z▸m)) (λa u q=>by rw [a8 (jc q h (by intro z;cases z))];exact q) λa u q f c=>⟨by rw [a8 (λz=>c (by rw [e,z];exact FO))];exact q,f,c⟩;obtain ⟨d,u,i⟩:=b.res a m;by_cases z:a=p
 ·subst z;exact ⟨d,o,b6⟩
 ·exact ⟨d,u,by rw [a8 z];exact i⟩
end
inductive Fl where
 | nx (ρ:Env) | rt (d:D) | bk (ρ:Env) | ct (ρ:Env)
def FlOk (K:PySem.W.Frag) (D:Ends) (a:Fl) (μ:Mp) (H:Hp):Prop:=match a with
 | .nx ρ=>∀ σ,EnvOk K μ H ρ σ->D.nx σ H
 | .rt d=>∀ v,RD K μ H d v->D.rt v H
 | .bk ρ=>∀ σ,EnvOk K μ H ρ σ->D.bk σ H
 | .ct ρ=>∀ σ,EnvOk K μ H ρ σ->D.ct σ H
def sD (K:PySem.W.Frag) (cl:Nat->Addr) (xe:Addr->Hp->Prop) (f:Env->M Fl):TS:=λD σ H=>∃ μ S ρ,EnvOk K μ H ρ σ/\Rep K cl μ S H/\Post K cl xe μ H (f ρ S) λa _ μ' H'=>FlOk K D a μ' H'
def Da (f g:Env->M Fl) (ρ:Env):M Fl:=bind (f ρ) λa=>match a with
 | .nx b=>g b
 | a=>ret a
section
variable {X:Cx} {cl:Nat->Addr} {xe:Addr->Hp->Prop} {e:Expr} {st:Stmt} {sts:List Stmt} {pos:Pos} {f:Env->M D} {g h:Env->M Fl}
theorem P3:PS X st (sD X.K cl xe λ_=>bad):=λ_ _ _ _ _ _ ⟨_,_,_,_,_,p⟩=>p.elim
theorem pE:PSs X [] (sD X.K cl xe λρ=>ret (.nx ρ)):=PSs.imp sd λD σ H ⟨μ,S,ρ,b,a,p⟩=>p.ret μ H (Lat.refl _ _) a σ b
theorem tJ (h1:PS X st (sD X.K cl xe g)) (h2:PSs X sts (sD X.K cl xe h)):PSs X (st :: sts) (sD X.K cl xe (Da g h)):=PSs.imp (u3 h1 h2) λD σ H ⟨μ,S,ρ,eo,rp,p⟩=>
 ⟨μ,S,ρ,eo,rp,p.bind.imp λfl S1 μ1 H1 l1 r1 p1=>by
  cases fl with
  | nx ρ1=>exact λσ1 eo1=>⟨μ1,S1,ρ1,eo1,r1,p1⟩
  | rt d=>exact p1.ret μ1 H1 (Lat.refl _ _) r1
  | bk ρ1=>exact p1.ret μ1 H1 (Lat.refl _ _) r1
  | ct ρ1=>exact p1.ret μ1 H1 (Lat.refl _ _) r1⟩
theorem mm (c:PE X e (tD X.K cl xe f)) (k:m9 e=true):PS X (.Expr e pos) (sD X.K cl xe λρ=>bind (f ρ) λ_=>ret (.nx ρ)):=PS.imp (D9 c (D6 k)) λD σ H ⟨μ,S,ρ,b,l,p⟩=>
 ⟨μ,S,ρ,b,l,p.bind.imp λd S1 a i h j g v m=>g.ret a i (Lat.refl _ _) j σ (b.later h)⟩
theorem sv (c:PE X e (tD X.K cl xe f)):PS X (.Return (some e) pos) (sD X.K cl xe λρ=>bind (f ρ) λd=>ret (.rt d)):=PS.imp (yy c) λD σ H ⟨μ,S,ρ,i,k,p⟩=>
 ⟨μ,S,ρ,i,k,p.bind.imp λd S1 a h l j g v b=>g.ret a h (Lat.refl _ _) j v b⟩
theorem zt (k:PT X c (tBo X.K cl xe t)) (m:PSs X a (sD X.K cl xe g)) (l:PSs X b (sD X.K cl xe h)):PS X (.If c a b pos) (sD X.K cl xe λρ=>bind (t ρ) λq=>if q=true then g ρ else h ρ):=PS.imp (L2.ps_if k m l) λD σ H ⟨μ,S,ρ,e,n,p⟩=>
 ⟨μ,S,ρ,e,n,p.bind.imp λq S1 d o i j f=>by
  cases q with
  | true=>exact ⟨d,S1,ρ,e.later i,j,f⟩
  | false=>exact ⟨d,S1,ρ,e.later i,j,f⟩⟩
theorem tq (q:X.N.Nodup) (g:X.N[i]?=some x) (n:Loc X.env.scope x) (j:PE X e (tD X.K cl xe f)) (o:m9 e=true) (s:X.fn x=true\/X.env.scope.names.lookup x=some .local) :
  PS X (.Assign [.Name x pos'] e pos) (sD X.K cl xe λρ=>bind (f ρ) λd=>ret (.nx (ρ.set i (some d)))):=PS.imp (hU q g n j (D6 o) s) λD σ H ⟨μ,S,ρ,b,r,p⟩=>
 ⟨μ,S,ρ,b,r,p.bind.imp λd S1 a l k m h v c=>h.ret a l (Lat.refl _ _) m _ ((b.later k).set c i)⟩
def vB (K:PySem.W.Frag) (cl:Nat->Addr) (tg:D->Env->Option Env):TG:=λv σ H Q=>∃ μ S ρ d a,EnvOk K μ H ρ σ/\Rep K cl μ S H/\RD K μ H d v/\tg d ρ=some a/\∀ b,EnvOk K μ H a b->Q b H
theorem PG.imp (h:PG X t u) (k:∀ v σ H Q,u' v σ H Q->u v σ H Q):PG X t u':=λpins s σ H v w Q I r q=>h pins s σ H v w Q I r (k v σ H Q q)
theorem pz (h:X.N.Nodup) (a:X.N[i]?=some x) (f:Loc X.env.scope x) (j:X.fn x=true\/X.env.scope.names.lookup x=some .local):PG X (.Name x pos') (vB X.K cl λd ρ=>some (ρ.set i (some d))):=
 PG.imp (L7 h a f j) λv σ H Q ⟨μ,S,ρ,d,g,c,k,b,e,q⟩=>by
  cases e;exact q _ (c.set b i)
def ag:List Nat->List D->Env->Option Env
 | [],[],ρ=>some ρ
 | i :: a,d :: ds,ρ=>ag a ds (ρ.set i (some d))
 | _,_,_=>none
def p8 (a:List Nat) (d:D) (ρ:Env):Option Env:=match d with
 | .tup ds=>ag a ds ρ
 | _=>none
inductive NamesAt (X:Cx):List Expr->List Nat->Prop where
 | nil:NamesAt X [] []
 | cons {x:Str} {p:Pos} {i:Nat} {ts:List Expr} {is:List Nat}:X.N[i]?=some x->Loc X.env.scope x->(X.fn x=true\/X.env.scope.names.lookup x=some .local)->NamesAt X ts is->NamesAt X (.Name x p :: ts) (i :: is)
theorem lu (hN:X.N.Nodup)  {ts:List Expr} {is:List Nat} (h:NamesAt X ts is):PGs X ts (λvs σ H Q=>∃ μ ds ρ ρ',EnvOk X.K μ H ρ σ/\RDs X.K μ H ds vs/\ag is ds ρ=some ρ'/\∀ σ',EnvOk X.K μ H ρ' σ'->Q σ' H):=by
 induction h with
 | nil=>
  intro pins s σ H vs us Q I r ⟨μ,ds,ρ,ρ',eo,rd,e,q⟩;cases ds with
  | nil=>
   cases rd;cases e;exact kS pins s σ H [] us Q I r ⟨rfl,q σ eo⟩
  | cons d ds=>cases e
 | @cons x p i ts is h1 h2 h3 h4 ih=>
  intro pins s σ H vs us Q I r ⟨μ,ds,ρ,ρ',eo,rd,e,q⟩;cases ds with
  | nil=>cases e
  | cons d ds=>
   cases rd with
   | cons r1 r2=>exact bE (L7 (i:=i) hN h1 h2 h3) ih rfl pins s σ H _ us Q I r ⟨_,_,rfl,μ,ds,_,ρ',eo.set r1 i,r2,e,q⟩
theorem R9 {ts:List Expr} {is:List Nat} (h:NamesAt X ts is):(assignEach ts X.env).length=is.length/\(assignEach ts X.env).findIdx? (·.1)=none:=by
 induction h with
 | nil=>exact ⟨rfl,rfl⟩
 | @cons x p i ts is h1 h2 h3 h4 ih=>
  refine ⟨by show (assignEach ts X.env).length+1=_;rw [ih.1];rfl,?_⟩;show ((false,assign (.Name x p) X.env) :: assignEach ts X.env).findIdx? (·.1)=none;rw [List.findIdx?_cons];simp [ih.2]
theorem aU:∀ {b:List Nat} {ds:List D} {ρ a:Env},ag b ds ρ=some a->ds.length=b.length
 | [],[],_,_,_=>rfl
 | _ :: _,_ :: _,_,_,e=>by simp [aU (by simpa [ag] using e)]
 | [],_ :: _,_,_,e=>by cases e
 | _ :: _,[],_,_,e=>by cases e
theorem kA (hc:X.calm=true) (hN:X.N.Nodup) (h:NamesAt X ts is):PG X (.Tuple ts k pos') (vB X.K cl (p8 is)):=
 PG.imp (nF hc (lu hN h) (R9 h).1 (R9 h).2) λv σ H Q ⟨μ,S,ρ,d,ρ',eo,rp,rd,e,q⟩=>by
  cases rd with
  | tup h1 h2=>exact ⟨_,_,rfl,h1.sq,by rw [<- h2.length];exact aU e,μ,_,ρ,ρ',eo,h2,e,q⟩
  | _=>cases e
def qG:Expr->Bool
 | .Tuple ..=>false
 | _=>true
def Z5 (tg:D->Env->Option Env) (d:D) (ρ:Env):M Fl:=match tg d ρ with
 | some a=>ret (.nx a)
 | none=>bad
theorem wL (n:X.calm=true) (t:X.N.Nodup) (h:NamesAt X ts is) (o:PE X e (tD X.K cl xe f)) (s:m9 e=true) (i:qG e=true):PS X (.Assign [.Tuple ts k pos'] e pos) (sD X.K cl xe λρ=>bind (f ρ) λd=>Z5 (p8 is) d ρ):=
 PS.imp (nM o (kA n t h) (by unfold swapsWithSole;exact D6 s) (by cases e <;> first | rfl | (exact absurd i (by simp [qG]))) rfl) λD σ H ⟨μ,S,ρ,j,u,p⟩=>
  ⟨μ,S,ρ,j,u,p.bind.imp λd S1 a r q l b v m=>by
   cases c:p8 is d ρ with
   | none=>simp only [Z5,c] at b;exact b.elim
   | some g=>simp only [Z5,c] at b;exact ⟨a,S1,ρ,d,g,j.later q,l,m,c,b.ret a r (Lat.refl _ _) l⟩⟩
end
structure LatR (μ:Mp) (H:Hp) (μ':Mp) (H':Hp):Prop where
 pre:∀ (n:Nat) (a:Addr),μ.pl[n]?=some a->μ'.pl[n]?=some a
 oth:∀ a o,H a=some o->a∉μ.pl->H' a=some o
 new:∀ a,a∈μ'.pl->a∈μ.pl\/H a=none
 rsw:∀ a,a∈μ'.rs->a∈μ.rs\/H a=none
theorem Lat.r {H H':Hp} (l:Lat μ H μ' H'):LatR μ H μ' H':=⟨l.pre,l.oth,l.new,λa m=>.inl (by rw [l.rsv] at m;exact m)⟩
structure LatU (μ:Mp) (H:Hp) (μ':Mp) (H':Hp):Prop where
 pre:∀ (n:Nat) (a:Addr),μ.pl[n]?=some a->μ'.pl[n]?=some a
 oth:∀ a o,H a=some o->a∉μ.pl->a∉μ.rs->H' a=some o
 new:∀ a,a∈μ'.pl->a∈μ.pl\/H a=none
 rsw:∀ a,a∈μ'.rs->a∈μ.rs\/H a=none
theorem LatR.u {H H':Hp} (l:LatR μ H μ' H'):LatU μ H μ' H':=⟨l.pre,λa o e n _=>l.oth a o e n,l.new,l.rsw⟩
theorem LatU.out {H H':Hp} (l:LatU μ H μ' H') (a:Addr) (u:HO) (e:H a=some u) (c:a∉μ.pl) (b:a∉μ.rs):H' a=some u/\a∉μ'.pl/\a∉μ'.rs:=by
 refine ⟨l.oth a u e c b,λz=>?_,λz=>?_⟩
 ·rcases l.new a z with q | q
  ·exact c q
  ·rw [e] at q;cases q
 ·rcases l.rsw a z with q | q
  ·exact b q
  ·rw [e] at q;cases q
theorem RDs.laterU {K:PySem.W.Frag} {μ μ':Mp} {H H':Hp} (l:LatU μ H μ' H') {ds:List D} {vs:List V} (r:RDs K μ H ds vs):RDs K μ' H' ds vs:=r.move l.pre l.out
abbrev Src:=Nat->Sto->Option (Option D)
def ak (K:PySem.W.Frag) (cl:Nat->Addr) (J:It) (i:Nat) (μ2:Mp) (b:Hp) (S2:Sto) (o:Option (Option D)):Prop:=match o with
 | some (some d)=>J.go i b/\∀ x a,J.yld i b x a->Lat μ2 b μ2 a/\Rep K cl μ2 S2 a/\RD K μ2 a d x
 | some none=>J.stop i b
 | none=>True
def Yl (K:PySem.W.Frag) (cl:Nat->Addr) (J:It) (μ:Mp) (H:Hp) (src:Src):Prop:=∀ (i:Nat) (μ2:Mp) (a:Hp) (S2:Sto),LatU μ H μ2 a->Rep K cl μ2 S2 a->ak K cl J i μ2 a S2 (src i S2)
def tIt (K:PySem.W.Frag) (cl:Nat->Addr) (xe:Addr->Hp->Prop) (f:Env->M (Src×Nat)):TI:=λσ H R=>∃ μ S ρ,EnvOk K μ H ρ σ/\Rep K cl μ S H/\Post K cl xe μ H (f ρ S) λp _ μ' H'=>∀ J,Yl K cl J μ' H' p.1->R J H'
theorem PI.imp (h:PI X tg it t) (k:∀ σ H R,t' σ H R->t σ H R):PI X tg it t':=λpins s σ H R I q=>h pins s σ H R I (k σ H R q)
theorem xz {tg l:Expr} {m:TE} (r:PE X l m):PI X tg l (λσ H R=>m σ H λx d=>∃ a,x=.ref a/\(((∃ xs,SqL X.K d a xs)/\R (Itl X.K a) d)\/((∃ xs,SqT X.K d a xs)/\R (Itt X.K a) d))):=by
 intro pins s σ H R I h;refine thn (r pins s σ H _ I h) λv f ⟨x,d,c,n,j⟩=>?_;obtain ⟨a,e,j⟩:=j;subst e;cases n;rcases j with ⟨⟨xs,g⟩,q⟩ | ⟨⟨xs,g⟩,q⟩
 ·obtain ⟨k,t,p,hz⟩:=c.list g;refine JL p.isList ?_;refine ⟨f.heap.objs.size,[f.heap.objs.size],_,_,d,rfl,c.kept λb o e=>Ft _ e,lz a _,⟨_,FJ _ rfl,rfl,rfl⟩,λb i=>?_,q⟩;have e:b=f.heap.objs.size:=by simpa using i
  subst e;exact c.fpOk (FH _) (c.hok.fresh (FH _))
 ·obtain ⟨k,t,p,hz⟩:=c.tuple g;refine HL (p) ?_;refine ⟨f.heap.objs.size,[f.heap.objs.size],_,_,d,rfl,c.kept λb o e=>Ft _ e,hW a _,⟨_,FJ _ rfl,rfl,rfl⟩,λb i=>?_,q⟩;have e:b=f.heap.objs.size:=by simpa using i
  subst e;exact c.fpOk (FH _) (c.hok.fresh (FH _))
def bv (ds:List D):Src:=λi _=>some ds[i]?
def W8 (n:Nat):Src:=λi S=>match S[n]? with
 | some (.lst es)=>some es[i]?
 | _=>none
def E3 (lo:Int) (n:Nat):Src:=λi _=>some (if i<n then some (.int (lo+i)) else none)
section
variable {K:PySem.W.Frag} {cl:Nat->Addr} {μ:Mp} {H:Hp}
theorem yB (h:TupAt K μ H a xs) (r:RDs K μ H ds xs):Yl K cl (Itt K a) μ H (bv ds):=λi μ2 g S2 l y=>by
 have b:SqT K g a xs:=by
  rcases h with ⟨q,n1,n2⟩ | q
  ·rcases q with q | ⟨o,q⟩
   ·exact .inl (.inl (l.oth _ _ q n1 n2))
   ·exact .inl (.inr ⟨o,l.oth _ _ q n1 n2⟩)
  ·obtain ⟨o,c,n,u,j,w,m,t,_⟩:=q;exact .inr ⟨o,c,n,u,j,w,m,t⟩
 have k:=r.laterU l;show ak K cl (Itt K a) i μ2 g S2 (some ds[i]?);cases e:ds[i]? with
 | none=>exact ⟨xs,b,by rw [<- r.length];exact Im.mp e⟩
 | some d=>
  obtain ⟨v,f,p⟩:=k.get e;exact ⟨⟨xs,v,b,f⟩,λx z ⟨s,q⟩=>by subst s;have:=q xs b;rw [f] at this;cases this;exact ⟨Lat.refl _ _,y,p⟩⟩
theorem qC (h:LstAt μ H a xs\/ScrAt K μ H a xs) (r:RDs K μ H ds xs):Yl K cl (Itl K a) μ H (bv ds):=λi μ2 f S2 l m=>by
 have b:SqL K f a xs:=by
  rcases h with ⟨q,n1,n2⟩ | ⟨q,n1,n2⟩ | q
  ·exact .inl (.inl (l.oth _ _ q n1 n2))
  ·rcases q with q | ⟨o,q⟩
   ·exact .inl (.inl (l.oth _ _ q n1 n2))
   ·exact .inl (.inr ⟨o,l.oth _ _ q n1 n2⟩)
  ·exact .inr q
 have g:=r.laterU l;show ak K cl (Itl K a) i μ2 f S2 (some ds[i]?);cases e:ds[i]? with
 | none=>exact ⟨xs,b,by rw [<- r.length];exact Im.mp e⟩
 | some d=>
  obtain ⟨v,c,j⟩:=g.get e;exact ⟨⟨xs,v,b,c⟩,λx n ⟨k,q⟩=>by subst k;have:=q xs b;rw [c] at this;cases this;exact ⟨Lat.refl _ _,m,j⟩⟩
theorem yp {n:Nat} (h:μ.pl[n]?=some a):Yl K cl (Itl K a) μ H (W8 n):=λi μ2 H2 S2 l rp=>by
 show ak K cl (Itl K a) i μ2 H2 S2 (match S2[n]? with
  | some (.lst es)=>some es[i]?
  | _=>none)
 cases q1:S2[n]? with
 | none=>exact True.intro
 | some o=>
  cases o with
  | dct _=>exact True.intro
  | exc _ _=>exact True.intro
  | lst es=>
   obtain ⟨xs,h1,h2⟩:=rp.ats n _ a q1 (l.pre _ _ h);have hq:SqL K H2 a xs:=.inl (.inl h1);show ak K cl (Itl K a) i μ2 H2 S2 (some es[i]?);cases e:es[i]? with
   | none=>exact ⟨xs,hq,by rw [<- h2.length];exact Im.mp e⟩
   | some d=>
    obtain ⟨v,e1,r1⟩:=h2.get e;exact ⟨⟨xs,v,hq,e1⟩,λx H3 ⟨e3,q⟩=>by subst e3;have:=q xs hq;rw [e1] at this;cases this;exact ⟨Lat.refl _ _,rp,r1⟩⟩
theorem ee {lo:Int} {n:Nat}:Yl K cl (Itr lo n) μ H (E3 lo n):=λi μ2 d S2 l e=>by
 show ak K cl (Itr lo n) i μ2 d S2 (some (if i<n then some (.int (lo+i)) else none));by_cases a:i<n
 ·rw [if_pos a];exact ⟨a,λx f ⟨c,b⟩=>by subst c b;exact ⟨Lat.refl _ _,e,.int _⟩⟩
 ·rw [if_neg a];exact Ij a
end
def G9 (d:D):M (Src×Nat):=match d with
 | .tup ds=>ret (bv ds,ds.length+1)
 | .lst ds=>ret (bv ds,ds.length+1)
 | .scr ds=>ret (bv ds,ds.length+1)
 | .ref n=>λS=>match S[n]? with
  | some (.lst ds)=>.ok (W8 n,ds.length+1) S
  | _=>.bad
 | _=>bad
def j6 (ds:List D):M (Src×Nat):=match ds with
 | [.int j]=>if -(2 ^ 62)<=j/\j<2 ^ 62 then ret (E3 0 j.toNat,j.toNat+1) else bad
 | [.int i,.int j]=>if -(2 ^ 62)<=i/\i<2 ^ 62/\-(2 ^ 62)<=j/\j<2 ^ 62 then ret (E3 i (j-i).toNat,(j-i).toNat+1) else bad
 | _=>bad
section
variable {X:Cx} {cl:Nat->Addr} {xe:Addr->Hp->Prop} {e:Expr} {tg:Expr} {pos:Pos} {f:Env->M D}
theorem kP {tg e:Expr}:PI X tg e (tIt X.K cl xe λ_=>bad):=λ_ _ _ _ _ _ ⟨_,_,_,_,_,p⟩=>p.elim
theorem vN (h:PE X e (tD X.K cl xe f)):PI X tg e (tIt X.K cl xe λρ=>bind (f ρ) G9):=PI.imp (xz h) λσ H R ⟨μ,S,ρ,eo,rp,p⟩=>
 ⟨μ,S,ρ,eo,rp,p.bind.imp λd S1 μ1 H1 l1 r1 p1 v rv=>by
  cases rv with
  | tup h r=>exact ⟨_,rfl,.inr ⟨⟨_,h.sq⟩,p1.ret μ1 H1 (Lat.refl _ _) r1 _ (yB h r)⟩⟩
  | lst h r=>exact ⟨_,rfl,.inl ⟨⟨_,h.sq⟩,p1.ret μ1 H1 (Lat.refl _ _) r1 _ (qC (.inl h) r)⟩⟩
  | scr h r=>exact ⟨_,rfl,.inl ⟨⟨_,h.sq⟩,p1.ret μ1 H1 (Lat.refl _ _) r1 _ (qC (.inr h) r)⟩⟩
  | ref h=>
   rename_i n a;simp only [G9] at p1;cases q1:S1[n]? with
   | none=>rw [q1] at p1;exact p1.elim
   | some o=>
    rw [q1] at p1;cases o with
    | lst ds=>
     obtain ⟨xs,h1,h2⟩:=r1.ats n _ a q1 h;exact ⟨_,rfl,.inl ⟨⟨xs,.inl (.inl h1)⟩,p1 μ1 H1 (Lat.refl _ _) r1 _ (yp h)⟩⟩
    | dct _=>exact p1.elim
    | exc _ _=>exact p1.elim
  | _=>exact False.elim p1⟩
theorem gk (hg:Gl X "range") (hm:X.mg "range" = none) (ha:PA X [a] (tDs X.K cl xe fs)) (hs:noStar a=true):PI X tg (.Call (.Name "range" p) [a] [] pos) (tIt X.K cl xe λρ=>bind (fs ρ) λds=>if ds.length=1 then j6 ds else bad):=
 PI.imp (mE hg hm ha (c8 hs)) λσ H R ⟨μ,S,ρ,eo,rp,p⟩=>⟨μ,S,ρ,eo,rp,p.bind.imp λds S1 μ1 H1 l1 r1 p1 vs rvs=>by
  cases rvs with
  | nil=>exact False.elim p1
  | cons h t=>
   cases t with
   | cons _ t=>rw [if_neg (by simp)] at p1;exact p1.elim
   | nil=>
    rename_i d0 v0;rw [if_pos (show ([d0]:List D).length=1 from rfl)] at p1;cases h with
    | int j=>
     obtain ⟨⟨h1,h2⟩,p1⟩:=Post.guard p1;exact ⟨j,rfl,h1,h2,p1 μ1 H1 (Lat.refl _ _) r1 _ ee⟩
    | _=>exact False.elim p1⟩
theorem iL (hg:Gl X "range") (hm:X.mg "range" = none) (ha:PA X [a,b] (tDs X.K cl xe fs)) (hs:noStar a=true) (hs2:noStar b=true):PI X tg (.Call (.Name "range" p) [a,b] [] pos) (tIt X.K cl xe λρ=>bind (fs ρ) λds=>if ds.length=2 then j6 ds else bad):=
 PI.imp (kh hg hm ha (by rw [c8 hs,c8 hs2];rfl) (c8 hs2)) λσ H R ⟨μ,S,ρ,eo,rp,p⟩=>⟨μ,S,ρ,eo,rp,p.bind.imp λds S1 μ1 H1 l1 r1 p1 vs rvs=>by
  by_cases hd:ds.length=2
  ·rw [if_pos hd] at p1
   match ds,hd with
   | [d1,d2],_=>
    cases rvs with
    | cons h t=>
     cases t with
     | cons h2 t=>
      cases t;cases h with
      | int i=>
       cases h2 with
       | int j=>
        obtain ⟨hh,p1⟩:=Post.guard p1;exact ⟨i,j,rfl,hh,p1 μ1 H1 (Lat.refl _ _) r1 _ ee⟩
       | _=>exact False.elim p1
      | _=>exact False.elim p1
  ·rw [if_neg hd] at p1;exact p1.elim⟩
end
def i6 (src:Src) (tg:D->Env->Option Env) (body:Env->M Fl):Nat->Nat->Env->M Fl
 | 0,_,_=>bad
 | m+1,i,ρ=>λS=>match src i S with
  | none=>.bad
  | some none=>.ok (.nx ρ) S
  | some (some d)=>match tg d ρ with
   | none=>.bad
   | some b=>bind (body b) (λc=>match c with
    | .nx a=>i6 src tg body m (i+1) a
    | .ct a=>i6 src tg body m (i+1) a
    | .bk a=>ret (.nx a)
    | .rt d=>ret (.rt d)) S
section
variable {X:Cx} {cl:Nat->Addr} {xe:Addr->Hp->Prop} {iter tgt:Expr} {pos:Pos} {fi:Env->M (Src×Nat)} {tg:D->Env->Option Env} {g:Env->M Fl} {body:List Stmt}
theorem vC (Y:PassesOwn (model X.prog X.w) X.A X.env X.xe) (hc:X.calm=true) (hi:PI X tgt iter (tIt X.K cl xe fi)) (hg:PG X tgt (vB X.K cl tg)) (hb:PSs X body (sD X.K cl xe g)) (hn:u4 iter=true) :
  PS X (.For tgt iter body [] pos) (sD X.K cl xe λρ=>bind (fi ρ) λp=>i6 p.1 tg g p.2 0 ρ):=PS.imp (xr Y hc hi hg hb (y8 hn)) λD σ H ⟨μ,S,ρ,T,rp,p⟩=>by
 refine ⟨μ,S,ρ,T,rp,p.bind.imp λsm S1 f A l1 r1 p1 J yl=>?_⟩;obtain ⟨src,m⟩:=sm;refine ⟨λi m σ H=>∃ μ2 S2 h,LatR f A μ2 H/\EnvOk X.K μ2 H h σ/\Rep X.K cl μ2 S2 H/\Post X.K cl xe μ2 H (i6 src tg g m i h S2) (λw _ μ' H'=>FlOk X.K D w μ' H'),⟨m,f,S1,ρ,(Lat.refl _ _).r,T.later l1,r1,p1⟩,?_⟩;rintro i m F I ⟨μ2,S2,h,s,u,U,j⟩;cases m with
 | zero=>exact j.elim
 | succ m=>
  have y:ak X.K cl J i μ2 I S2 (src i S2):=yl i μ2 I S2 s.u U;simp only [i6] at j;cases O:src i S2 with
  | none=>rw [O] at j;exact j.elim
  | some o=>
   rw [O] at j y;cases o with
   | none=>exact .inl ⟨y,j μ2 I (Lat.refl _ _) U F u⟩
   | some d=>
    obtain ⟨y1,Z⟩:=y;cases L:tg d h with
    | none=>simp only [L] at j;exact j.elim
    | some t=>
     simp only [L] at j;refine .inr ⟨y1,λv H'=>∃ l P b,LatR f A l H'/\EnvOk X.K l H' b v/\Rep X.K cl l P H'/\Post X.K cl xe l H' (i6 src tg g m (i+1) b P) (λw _ μ' H'=>FlOk X.K D w μ' H'),λv H' q=>⟨m,Go _,q⟩,λx H3 hy=>?_⟩;obtain ⟨M,V,E⟩:=Z x H3 hy;refine ⟨μ2,S2,h,d,t,u.later M,V,E,L,λσ3 K=>?_⟩;refine ⟨μ2,S2,t,K,V,(Post.later j M).bind.imp λw W c N l4 B C=>?_⟩;have R:LatR f A c N:=by
      have k:=M.trans l4;refine ⟨λn a e=>k.pre n a (s.pre n a e),λa o e n=>k.oth a o (s.oth a o e n) (λz=>(s.new a z).elim n (λq=>by rw [e] at q;cases q)),λa m=>(k.new a m).elim (λz=>s.new a z) (λz=>?_),λa m=>s.rsw a (by rw [<- k.rsv];exact m)⟩;by_cases Q:a∈f.pl
      ·exact .inl Q
      ·right
       cases e:A a with
       | none=>rfl
       | some o=>rw [s.oth a o e Q] at z;cases z
     cases w with
     | nx b=>exact λG r=>⟨c,W,b,R,r,B,C⟩
     | ct b=>exact λG r=>⟨c,W,b,R,r,B,C⟩
     | bk b=>exact C.ret c N (Lat.refl _ _) B
     | rt d=>exact C.ret c N (Lat.refl _ _) B
end
structure HLat (μ:Mp) (H:Hp) (p:Addr) (μ2:Mp) (H2:Hp):Prop where
 r:LatR μ H μ2 H2
 rs:μ2.rs=p :: μ.rs
theorem HLat.lat {H c H':Hp} {p:Addr} (h:HLat μ H p μ2 c) (l:Lat μ2 c μ' H'):Lat μ H μ'.free H':=by
 refine ⟨λn a e=>l.pre n a (h.r.pre n a e),λa o e n=>?_,λa m=>?_,by show μ'.rs.tail=μ.rs;rw [l.rsv,h.rs];rfl⟩
 ·have d:=λz=>(h.r.new a z).elim n λq=>by rw [e] at q;cases q
  exact l.oth a o (h.r.oth a o e n) d
 ·rcases l.new a m with q | q
  ·exact h.r.new a q
  ·by_cases b:a∈μ.pl
   ·exact .inl b
   ·right
    cases e:H a with
    | none=>rfl
    | some o=>rw [h.r.oth a o e b] at q;cases q
theorem HLat.step {H c b:Hp} {p:Addr} (h:HLat μ H p μ2 c) (l:Lat μ2 c μ3 b):HLat μ H p μ3 b:=by
 have k:=h.lat l;refine ⟨⟨k.pre,k.oth,k.new,λa m=>h.r.rsw a (by rw [<- l.rsv];exact m)⟩,by rw [l.rsv];exact h.rs⟩
section
variable {K:PySem.W.Frag} {cl:Nat->Addr} {xe:Addr->Hp->Prop} {α β:Type} {μ μ2:Mp} {H H2:Hp} {p:Addr} {S:Sto}
theorem Post.at {k:α->M β} {G:β->Sto->Mp->Hp->Prop} (h:Post K cl xe μ H (L3.bind m k S) G) (l:HLat μ H p μ2 H2):Post K cl xe μ2 H2 (m S) (λa S' _ _=>Post K cl xe μ H (k a S') G):=by
 unfold L3.bind at h;cases e:m S with
 | ok a S1=>rw [e] at h;exact λ_ _ _ _=>h
 | exn n S1=>rw [e] at h;exact λμ' H' a k r q=>h μ'.free H' a (l.lat k) (ai r) q
 | bad=>rw [e] at h;exact h
end
def p9 (src:Src) (t:Env->M Bool) (f:Env->M D) (mk:D->Env):Nat->Nat->List D->M (List D)
 | 0,_,_=>bad
 | m+1,i,es=>λS=>match src i S with
  | none=>.bad
  | some none=>.ok es S
  | some (some d)=>bind (t (mk d)) (λb=>if b=true then bind (f (mk d)) (λy=>if es.length<sizeLine then p9 src t f mk m (i+1) (es++[y]) else bad) else p9 src t f mk m (i+1) es) S
def F8 (caps:List Nat) (ρ:Env):Env:=caps.map λi=>(ρ[i]?).join
theorem T6 {K:PySem.W.Frag} {μ:Mp} {H:Hp} {ρ:Env} {σ:L2.St} {caps:List Nat} {d:D} {x:V} (eo:EnvOk K μ H ρ σ) (r:RD K μ H d x):EnvOk K μ H (some d :: F8 caps ρ) (some x :: A2 caps σ):=by
 refine ⟨by simp [F8,A2],λi e he=>?_⟩;cases i with
 | zero=>simp at he;subst he;exact ⟨x,rfl,r⟩
 | succ j=>
  have he:(F8 caps ρ)[j]?=some (some e):=he;unfold F8 at he;rw [FY] at he;cases q:caps[j]? with
  | none=>rw [q] at he;cases he
  | some i=>
   rw [q] at he;have h':(ρ[i]?).join=some e:=Gz he;have h2:ρ[i]?=some (some e):=by
    cases q2:ρ[i]? with
    | none=>rw [q2] at h';cases h'
    | some o=>rw [q2] at h';exact congrArg some h'
   obtain ⟨v,e1,r1⟩:=eo.2 i e h2;refine ⟨v,?_,r1⟩;show (A2 caps σ)[j]?=_;unfold A2;rw [FY,q];show some (σ[i]?).join=_;rw [e1];rfl
def cH (caps:List Nat) (b:Env->M (Src×Nat)) (t:Env->M Bool) (f:Env->M D) (ρ:Env):M (List D):=bind (b ρ) λa=>p9 a.1 t f (λd=>some d :: F8 caps ρ) a.2 0 []
theorem br {K:PySem.W.Frag} {cl:Nat->Addr} {xe:Addr->Hp->Prop} {caps:List Nat} {fi:Env->M (Src×Nat)} {t:Env->M Bool} {f:Env->M D} {σ:L2.St} {H:Hp} {μ:Mp} {S:Sto} {ρ:Env} {Q:VK} (eo:EnvOk K μ H ρ σ) (rp:Rep K cl μ S H)
  (p:Post K cl xe μ H (cH caps fi t f ρ S) λds _ μ' H'=>∀ c ys,LstAt μ' H' c ys->RDs K μ' H' ds ys->Q (.ref c) H'):jz caps (tIt K cl xe fi) (tBo K cl xe t) (tD K cl xe f) σ H Q:=by
 refine ⟨μ,S,ρ,eo,rp,p.bind.imp λsm S1 u H1 l1 P p1 J yl c g=>?_⟩;obtain ⟨src,m0⟩:=sm;have V:=P.notrs g;refine ⟨λi m ys l=>∃ μ2 S2 es,HLat u H1 c μ2 l/\c∉μ2.pl/\l c=some (.lst ys)/\EnvOk K μ2 l ρ σ/\Rep K cl μ2 S2 l/\RDs K μ2 l es ys/\Post K cl xe u H1 (p9 src t f (λd=>some d :: F8 caps ρ) m i es S2) (λds _ μ' H'=>∀ c ys,LstAt μ' H' c ys->RDs K μ' H' ds ys->Q (.ref c) H'),⟨m0,u.hold c,S1,[],?_,P.notin g,b6,T7 P g (eo.later l1),U5 P g,.nil,p1⟩,?_⟩
 ·refine ⟨⟨λ_ _ e=>e,λa o e _=>by rw [a8 (b9 e g)];exact e,λa m=>.inl m,λa m=>?_⟩,rfl⟩;rcases FP.mp (m) with rfl | m
  ·exact .inr g
  ·exact .inl m
 rintro i m ys l ⟨μ2,S2,es,R,z,I,s,r2,h,A⟩;refine ⟨I,?_⟩;cases m with
 | zero=>exact A.elim
 | succ m=>
  have y:ak K cl J i μ2 l S2 (src i S2):=yl i μ2 l S2 R.r.u r2;simp only [p9] at A;cases e1:src i S2 with
  | none=>rw [e1] at A;exact A.elim
  | some o=>
   rw [e1] at A y;cases o with
   | none=>
    refine .inl ⟨y,A μ2.free l (R.lat (Lat.refl _ _)) (ai r2) c ys ⟨I,z,?_⟩ (fI h)⟩;show c∉μ2.rs.tail;rw [R.rs];exact V
   | some d=>
    obtain ⟨y1,y2⟩:=y;refine .inr ⟨y1,λx H3 hy=>?_⟩;obtain ⟨L,r3,C⟩:=y2 x H3 hy;have h3:=R.step L;refine ⟨μ2,S2,_,T6 (s.later L) C,r3,(Post.at A h3).imp λb S5 F H5 Y r5 U=>?_⟩;have X:=h3.step Y;have k:=L.trans Y;have Z:=k.oth _ _ I z;have W:=k.out I z;cases b with
    | false=>exact ⟨m,Go _,F,S5,es,X,W,Z,s.later k,r5,h.later k,U⟩
    | true=>
     refine si ?_;rw [if_pos rfl] at U;refine ⟨F,S5,_,(T6 (s.later L) C).later Y,r5,(Post.at U X).imp λyv S6 μ6 H6 O r6 T v rv=>?_⟩;have B:=X.step O;have G:=k.trans O;have a6:=O.oth _ _ Z W;have n6:=O.out Z W;by_cases hz:es.length<sizeLine
     ·rw [if_pos hz] at T;have N:=B.rs;refine ⟨a6,by rw [<- h.length];exact hz,m,Go _,μ6,S6,es++[yv],?_,n6,b6,?_,V5 N a6 r6,V2 N ((h.later G).append (.cons rv .nil)),T⟩
      ·refine ⟨⟨B.r.pre,λa o e n=>?_,B.r.new,B.r.rsw⟩,N⟩;rw [a8 (b9 e g)];exact B.r.oth a o e n
      ·have E:=s.later G;exact ⟨E.1,λj e he=>let ⟨w,q,r⟩:=E.2 j e he;⟨w,q,aa N r⟩⟩
     ·rw [if_neg hz] at T;exact T.elim
section
variable {X:Cx} {cl:Nat->Addr} {xe:Addr->Hp->Prop} {elt iter:Expr} {x:Str} {px pos:Pos} {ifs:List Expr} {scope:Scope} {N':List Str} {caps:List Nat} {fi:Env->M (Src×Nat)} {t:Env->M Bool} {f:Env->M D}
theorem lO {X:Cx}:PTL X [] (tBo X.K cl xe λ_=>ret true):=λpins s σ H Q I ⟨μ,S,ρ,b,a,p⟩=>wO pins s σ H Q I (p μ H (Lat.refl _ _) a)
theorem fv (T:CompText X.N X.env N' 1 caps scope) (k:X.calm=true) (i:N'.Nodup) (b:N'[0]?=some x) (d:scope.names.lookup x=some .local) (h:PI X (.Name x px) iter (tIt X.K cl xe fi))
  (l:∀ pins C c s H,PTL (c7 X pins N' scope C c s H) ifs (tBo X.K cl xe t)) (e:∀ pins C c s H,PE (c7 X pins N' scope C c s H) elt (tD X.K cl xe f)) (g:u4 iter=true) :
  PE X (.ListComp elt [⟨.Name x px,iter,ifs,0⟩] scope pos) (λσ H Q=>∃ μ S ρ,EnvOk X.K μ H ρ σ/\Rep X.K cl μ S H/\Post X.K cl xe μ H (cH caps fi t f ρ S) λds _ μ' H'=>∀ a ys,LstAt μ' H' a ys->RDs X.K μ' H' ds ys->Q (.ref a) H'):=
 PE.imp (jS T k i b d h l e (y8 g)) λσ H Q ⟨μ,S,ρ,m,j,p⟩=>br m j p
end
def pe (K:PySem.W.Frag) (cl:Nat->Addr) (xe:Addr->Hp->Prop) (fs:Env->M (List D)):TE:=λσ H Q=>∃ μ S ρ,EnvOk K μ H ρ σ/\Rep K cl μ S H/\Post K cl xe μ H (fs ρ S) λds _ μ' H'=>∀ a ys,LstAt μ' H' a ys->RDs K μ' H' ds ys->Q (.ref a) H'
end L3
namespace L2
open PySem PySem.Spec PyProof.Rows
section
variable {prog:Program} {w:World} {A:Around} {E:Value->Shared->Prop} {s:Shared}
theorem T9 {items} {x:Value} {Q:Value->Shared->Prop} (a:s.heap.IsTupleIter it l i)
  (h:s.heap.IsTuple l items) (e:items[i]?=some x)
  (g:∀ h',h'.IsTupleIter it l (i+1)->Heap.SameBut it s.heap h'->Q x { s with heap:=h' }) :
  wpAny (model prog w) A (Builtin.SmallTypes.nextOf (.ref it)) Q E s:=by
 obtain ⟨o,b,f,hd⟩:=id a;obtain ⟨j,c,_,k,d⟩:=h;refine Fq (Gx a.typeIs F.slot_tuple_iterator_next
  (GA F.slot_tuple_iterator_next a.typeIs F.entry_tuple_iterator_next ?_ (F.args_tuple_iterator_next_1 _)))
 show wpAny _ _ (field (.ref it) 0 >>= _) _ _ s;refine Fq (GP b hd (x:=.ref l) rfl ?_);rw [if_neg (show ¬ ((Value.ref l==Value.none)=true) from Fz)];refine Fq (GP b hd rfl ?_);refine Fq (JB c d ?_);simp only [GX,e];refine Fq (GW b hd (by simp) (Fs ⟨x,rfl,Fs (g _ ?_ (GJ ..))⟩));exact ⟨_,Gp _ b (Obj.isFreed_of_fields (Obj.data_mapFields hd _)),(Obj.cls_mapFields ..).trans f,by
  rw [Obj.data_mapFields hd];simp [rawInt]⟩
theorem V9 {items} {Q:Value->Shared->Prop} (f:A.handled=none)
  (a:s.heap.IsTupleIter it l i) (j:s.heap.IsTuple l items) (g:items[i]?=none)
  (h:∀ h' e,Heap.ExtBut it s.heap h'->(∃ o,h'.get? e=some o/\o.cls=.type "StopIteration")->E (.ref e) { s with heap:=h' }) :
  wpAny (model prog w) A (Builtin.SmallTypes.nextOf (.ref it)) Q E s:=by
 obtain ⟨o,c,k,hd⟩:=id a;obtain ⟨m,b,_,n,d⟩:=j;refine Fq (Gx a.typeIs F.slot_tuple_iterator_next
  (GA F.slot_tuple_iterator_next a.typeIs F.entry_tuple_iterator_next ?_ (F.args_tuple_iterator_next_1 _)))
 show wpAny _ _ (field (.ref it) 0 >>= _) _ _ s;refine Fq (GP c hd (x:=.ref l) rfl ?_);rw [if_neg (show ¬ ((Value.ref l==Value.none)=true) from Fz)];refine Fq (GP c hd rfl ?_);refine Fq (JB b d ?_);simp only [GX,g];refine Fq (IY (Fq (GW c hd (by simp) ?_)));refine Fq ?_;refine Fq (Gi ?_ (by size_fits));refine Fq (Ko (by first | rfl | (simp;rfl)) ?_);refine Gi ?_ (by size_fits);refine Fq (wpAny_handled ?_);first | rw [f] | rw [f]
 refine Fq (Fs (wpAny_throw ?_));exact h _ _ (((GJ ..).extBut.push _).push _) ⟨_,FJ _ rfl,rfl⟩
end
theorem pZ {h h':Heap} {a:Addr} {items:Array Value} (x:h.IsTuple a items) (k:∀ o,h.get? a=some o->h'.get? a=some o):h'.IsTuple a items:=let ⟨o,b,r⟩:=x;⟨o,k o b,r⟩
theorem rN (k:A.handled=none) (it l:Addr) (c:l≠it) (items:Array Value) :
  Draws prog w A it [it,l] items.size (λi v=>items[i]?=some v) (λi h=>h.IsTupleIter it l i/\h.IsTuple l items) where
 live:=λ_ _ st=>let ⟨o,b,_⟩:=st.1;⟨o,b⟩
 frame:=λ_ _ _ st f=>⟨(let ⟨o,b,r⟩:=st.1;⟨o,f it (by simp) o b,r⟩),pZ st.2 λo e=>f l (by simp) o e⟩
 item:=λi s Q E d st g=>by
  refine T9 st.1 st.2 (x:=items[i]) (by simp [d]) λh' a hs'=>?_;exact g _ h' s.toks (by simp [d]) ⟨a,st.2.extBut hs'.extBut c⟩ hs'
 done:=λs Q E st j=>V9 k st.1 st.2 (by simp) j
theorem fF (l:Addr) (items:Array Value) (n:Nat) (b:Option Addr) (i:Array (Option Value)) :
  Meets (Builtin.«enumerate.__new__» ⟨[.type "enumerate",.ref l],[]⟩) (λ_ R s=>s.heap.get? l=some { cls:=.type "tuple",dict:=b,data:=.seq items n,slots:=i } /\
   R (.ok (.ret (.ref (s.heap.push { cls:=.type "tuple_iterator",data:=.fields #[.ref l,.int 0 0] }).objs.size)))
    { s with heap:=(s.heap.push { cls:=.type "tuple_iterator",data:=.fields #[.ref l,.int 0 0] }).push { cls:=.type "enumerate",data:=.fields #[.none,.bool false,.ref s.heap.objs.size,rawInt 0,.none,.none] } }):=
 .of_wp λprog w A R s h=>by
  obtain ⟨j,g,d,k,m⟩:=s;obtain ⟨a,h⟩:=h;have f:=sub_enumerate;have e:Heap.IsTuple (Shared.heap ⟨j,g,d,k,m⟩) l items:=⟨_,a,rfl,n,rfl⟩
  wp_walk using AutoSeq1.wpAny_loadPart' a
  refine wpAny_stack_any λst=>Fs ?_;split
  ·rename_i c _ _ _ _ _;cases (c==Value.type "enumerate")
   ·wp_walk using AutoSeq1.wpAny_loadPart' a,HL e
    exact ⟨_,rfl,h⟩
   ·wp_walk using AutoSeq1.wpAny_loadPart' a,HL e
    exact ⟨_,rfl,h⟩
  ·wp_walk using AutoSeq1.wpAny_loadPart' a,HL e
   exact ⟨_,rfl,h⟩
section
variable {prog:Program} {w:World} {A:Around} {E:Value->Shared->Prop} {s:Shared}
theorem iM (i:s.heap.IsTuple l items)
  (h:∀ h',IsEnum h' (s.heap.objs.size+1) s.heap.objs.size 0 .none->h'.IsTupleIter s.heap.objs.size l 0->h'.objs.size=s.heap.objs.size+2 ->
   (∀ b o,s.heap.get? b=some o->h'.get? b=some o)->Q (.ref (s.heap.objs.size+1)) { s with heap:=h' }) :
  wpAny (model prog w) A (call (.type "enumerate") [.ref l]) Q E s:=by
 obtain ⟨⟨c,d,j,g⟩,k,a,n,hd⟩:=i
 replace a:c=.type "tuple":=a
 replace hd:j=.seq items n:=hd
 subst a hd;refine callType_new F.called_enumerate (by decide) (F.typeCall_enumerate_1 _) (F.newCall_enumerate_1 _) (λe=>F.args_object_init_2 e _) F.entry_enumerate_new
  (fF l items n d g) ⟨k,?_⟩
 have hz:(s.heap.push { cls:=.type "tuple_iterator",data:=.fields #[.ref l,.int 0 0] }).objs.size=s.heap.objs.size+1:=GL ..;rw [hz];have f:IsEnum ((s.heap.push { cls:=.type "tuple_iterator",data:=.fields #[.ref l,.int 0 0] }).push
   { cls:=.type "enumerate",data:=.fields #[.none,.bool false,.ref s.heap.objs.size,rawInt 0,.none,.none] }) (s.heap.objs.size+1) s.heap.objs.size 0 .none:=by
  have:=FJ (s.heap.push { cls:=.type "tuple_iterator",data:=.fields #[.ref l,.int 0 0] })
   (o:={ cls:=.type "enumerate",data:=.fields #[.none,.bool false,.ref s.heap.objs.size,rawInt 0,.none,.none] }) rfl
  rw [hz] at this;exact this
 refine ⟨⟨_,f,rfl⟩,h _ f ⟨_,Ft _ (FJ _ rfl),rfl,rfl⟩ (by rw [GL,hz]) λb o x=>Ft _ (Ft _ x)⟩
end
section
variable {X:Cx} {pins:List (Addr×Obj)} {σ:St} {H:Hp} {s:Shared} {h':Heap}
theorem Inv.turned2 {t':Nat} {e it:Addr} (I:Inv X pins σ H s) (k:∀ b o,b≠e->b≠it->s.heap.get? b=some o->h'.get? b=some o) (f:L6 X pins H e) (g:L6 X pins H it):Inv X pins σ H { s with heap:=h',toks:=t' }:=by
 obtain ⟨a0,a1,a2,a3,a4,a5⟩:=f;obtain ⟨b0,b1,b2,b3,b4,b5⟩:=g;have nit:∀ b u,H b=some u->b≠e/\b≠it:=λb u q=>⟨λz=>(by rw [z,a0] at q;cases q),λz=>(by rw [z,b0] at q;cases q)⟩;have kk:∀ b o,b∉[e,it]->s.heap.get? b=some o->h'.get? b=some o:=λb o hb q=>k b o (λz=>hb (by simp [z])) (λz=>hb (by simp [z])) q;refine I.step (g':=s.gens) (d':=s.drawn) (ch:=[e,it]) (λb hb=>?_) (λb o _ _ hc q _=>kk b o hc q) (λb o _ _ hc q _=>⟨o.slots,kk b o hc q⟩) (λ_ _ _ _ n=>n)
  (λb o hc q=>⟨o,kk b o hc q⟩) (λ_ _ q=>q) (λ_ _ _ q=>q) (λb ps q=>⟨#[],by rw [q];simp⟩) (λm hm=>?_) (λb u q=>?_) I.bare
 ·have z:b=e\/b=it:=by simpa using hb
  rcases z with rfl | rfl
  ·exact ⟨a3,a1,a4,a5⟩
  ·exact ⟨b3,b1,b4,b5⟩
 ·obtain ⟨o,es,ep,ho,r⟩:=hm;exact ⟨o,es,ep,k _ o (Ne.symm a1) (Ne.symm b1) ho,r⟩
 ·refine (I.hok b u q).stay (λc v hc r=>?_) (λ_ r=>r) λ_ _ r=>r;rcases hc with z | z
  ·rw [z] at r ⊢;exact k b v (nit b u q).1 (nit b u q).2 r
  ·exact k c v (nit c _ z).1 (nit c _ z).2 r
end
def O0 (a:Hp->List V->Prop):It:=
 ⟨λi H=>∃ xs x,a H xs/\xs[i]?=some x,λi H x H'=>∃ p y,x=.ref p/\H p=none/\H'=upd H p (.tup [.int (i:Int),y])/\∀ xs,a H xs->xs[i]?=some y,λi H=>∃ xs,a H xs/\xs.length=i⟩
section
variable {P:Program} {w:World} {K:PySem.W.Frag} {elts:List Expr} {x1:Nat} {tp:Pos}
theorem cv {σ:St} {H:Hp} {s:Shared} {E:Value->Shared->Prop} {e it:Addr} {G:List Addr} {n i:Nat} {A:Nat->Value->Prop} {m:Nat->Heap->Prop} {j:Value} {y:V} {J:It} {tn:Nat->Heap->Prop}
  (I:Inv X pins σ H s) (g:∀ b∈[e,it],L6 X pins H b) (D:Draws X.prog X.w X.A.in1 it G n A m) (B:IsEnum s.heap e it i j) (c:m i s.heap) (k:i<n) (v:e≠it) (f:e∉G)
  (R:∀ u,A i u->RelV y u) (S:∀ h',(∃ o,IsEnum h' e it ((i:Int)+1) o)->m (i+1) h'->tn (i+1) h') (M:∀ p,H p=none->J.yld i H (.ref p) (upd H p (.tup [.int (i:Int),y]))) :
  wpAny (model X.prog X.w) X.A (pyNext (.ref e)) (λr Z=>∃ u,r=some u /\
   wpAny (model X.prog X.w) X.A (letOwnedTupleGo (.Tuple elts x1 tp) (.ref e) u) (λ_ F=>∃ x H',Inv X pins σ H' F/\RelV x u/\J.yld i H x H'/\tn (i+1) F.heap/\∀ b∈[e,it],H' b=none) E Z) E s:=by
 refine wpAny_pyNext_enum_itemD D B c k v f λu h' d O T hs' Q hsz hk=>?_;have C:=FK B;have w:it<s.heap.objs.size:=by obtain ⟨_,z⟩:=D.live _ _ c;exact FK z
 refine ⟨_,rfl,wpAny_letOwnedTupleGo_enum T λh2 t a=>?_⟩;have fr:=I.hok.fresh (FH _);have I1:Inv X pins σ (upd H s.heap.objs.size (.tup [.int (i:Int),y])) { s with heap:=s.heap.push { cls:=.type "tuple",data:=.seq #[.int i d,u] },toks:=d }:=
  I.laid (λb q z=>Ft _ z) (FH _) ⟨by rw [Gf];show 2<=16777216;omega,[.int i d,u],.cons ⟨d,rfl⟩ (.cons (R u O) .nil),⟨_,FJ _ rfl,rfl,_,rfl,rfl⟩⟩
 have K:∀ b,L6 X pins H b->b<s.heap.objs.size->L6 X pins (upd H s.heap.objs.size (.tup [.int (i:Int),y])) b:=λb ⟨c0,Y,W,c3,U,c5⟩ N=>⟨by rw [a8 (FN N)];exact c0,Y,W,c3,U,c5⟩;have P:=I1.turned2 (t':=d+1) (λb o h L z=>by
  have:=Heap.get?_push_cases z;rcases this with ⟨rfl,rfl⟩ | z1
  ·exact (a.2 _ h).trans Q
  ·exact (a.2 b h).trans (hk b o h L z1)) (K e (g e (by simp)) C) (K it (g it (by simp)) w)
 refine ⟨.ref s.heap.objs.size,_,P,rfl,M _ fr,S _ ⟨_,t⟩ (D.frame _ _ _ hs' λb l o z=>(a.2 b λq=>f (q▸l)).trans z),λb l=>?_⟩;have z:b=e\/b=it:=by simpa using l
 rcases z with rfl | rfl
 ·rw [a8 (FN C)];exact (g _ (by simp)).1
 ·rw [a8 (FN w)];exact (g _ (by simp)).1
end
section
variable {P:Program} {w:World} {K:PySem.W.Frag} {elts:List Expr} {x1:Nat} {tp:Pos}
theorem lW {h:Heap} {e it:Addr} {i:Int} {a:Value} (z:IsEnum h e it i a):∃ o,h.get? e=some o/\∀ v,o.data≠.cell v:=by grind
theorem jY {H:Hp} {p:Addr} {y:V} (h:H p=none) (k:∀ xs,Sq H xs->xs[i]?=some y):(O0 Sq).yld i H (.ref p) (upd H p (.tup [.int (i:Int),y])):=by
 show ∃ a b,V.ref p=.ref a/\H a=none/\upd H p (.tup [.int (i:Int),y])=upd H a (.tup [.int (i:Int),b])/\∀ xs,Sq H xs->xs[i]?=some b;grind
theorem hJ (a e it:Addr) (hne:e≠it):Turn P w K (.Tuple elts x1 tp) (O0 λH xs=>SqL K H a xs) [e,it] e (λi h=>(∃ old,IsEnum h e it ((i:Nat):Int) old)/\h.IsListIter it a i) where
 mem:=by simp
 obj:=λi h st b hb=>by
  have z:b=e\/b=it:=by simpa using hb
  rcases z with rfl | rfl
  ·obtain ⟨old,q⟩:=st.1;exact lW q
  ·obtain ⟨o,q,c,d⟩:=st.2;exact ⟨o,q,λv z=>by rw [d] at z;cases z⟩
 keep:=λi h h' st k=>⟨(let ⟨old,q⟩:=st.1;⟨old,k e (by simp) _ q⟩),st.2.at λo q=>k it (by simp) o q⟩
 item:=by
  intro X hP hw hK hc i pins s σ H E I hf st hg;subst hP hw hK;obtain ⟨xs,x,hq,hx⟩:=hg;obtain ⟨its,rv,p,hz⟩:=I.list hq;obtain ⟨u,hu,ru⟩:=rv.get hx;obtain ⟨⟨old,he⟩,hit⟩:=st;have nit:a≠it:=λz=>by
   obtain ⟨o,q,c,_⟩:=hit;obtain ⟨o2,q2,c2,_⟩:=p.isList;rw [z,q] at q2;cases q2;rw [c] at c2;exact absurd c2 (by decide)
  have nea:e≠a:=λz=>by
   obtain ⟨o2,q2,c2,_⟩:=p.isList;rw [<- z,he] at q2;cases q2;exact absurd (show Value.type "enumerate" = Value.type "list" from c2) (by decide)
  have hlt:i<its.toArray.size:=by
   have:=(Fv.mp hu).1;simpa using this
  refine cv (y:=x) (J:=O0 λH xs=>SqL X.K H a xs) (tn:=λi h=>(∃ old,IsEnum h e it ((i:Nat):Int) old)/\h.IsListIter it a i) I hf (Draws.list (show X.A.in1.handled=none from I.ok.hd hc) it a nit its.toArray) he ⟨hit,p.isList⟩ hlt hne (by simp [hne,nea]) (λv hv=>?_) (λh' ho hs=>⟨?_,hs.1⟩) λq hq2=>jY hq2 (λys hy=>by rw [I.list_inj hy hq];exact hx)
  ·have hv':its[i]?=some v:=by simpa using hv
   rw [hu] at hv';cases hv';exact ru
  ·obtain ⟨o,q⟩:=ho;exact ⟨o,by rw [show ((i+1:Nat):Int)=(i:Int)+1 from rfl];exact q⟩
 done:=by
  intro X hP hw hK hc i pins s σ H E I hf st hg;subst hP hw hK;obtain ⟨xs,hq,hx⟩:=hg;obtain ⟨its,rv,p,hz⟩:=I.list hq;obtain ⟨⟨old,he⟩,hit⟩:=st;have hl:=rv.length;have nit:a≠it:=λz=>by
   obtain ⟨o,q,c,_⟩:=hit;obtain ⟨o2,q2,c2,_⟩:=p.isList;rw [z,q] at q2;cases q2;rw [c] at c2;exact absurd c2 (by decide)
  have en:i=its.toArray.size:=by simp;omega
  obtain ⟨f0,f1,f2,f3,f4,f5⟩:=hf it (by simp);exact wpAny_pyNext_enum_endD (Draws.list (show X.A.in1.handled=none from I.ok.hd hc) it a nit its.toArray) he ⟨en▸hit,p.isList⟩ λh' eb=>⟨rfl,I.turned (t':=s.toks) (λb o hb q=>eb b o hb q) f0 f1 f3 f4 f5⟩
 self:=λ_ _ _ _ _ st h=>by
  obtain ⟨⟨old,he⟩,_⟩:=st;exact IQ he h
theorem hV (a e it:Addr) (t:e≠it):Turn P w K (.Tuple elts x1 tp) (O0 λH xs=>SqT K H a xs) [e,it] e (λi h=>(∃ f,IsEnum h e it ((i:Nat):Int) f)/\h.IsTupleIter it a i) where
 mem:=by simp
 obj:=λi h st b J=>by
  have z:b=e\/b=it:=by simpa using J
  rcases z with rfl | rfl
  ·grind
  ·obtain ⟨o,q,c,d⟩:=st.2;exact ⟨o,q,λv z=>by rw [d] at z;cases z⟩
 keep:=λi h h' st k=>⟨(let ⟨f,q⟩:=st.1;⟨f,k e (by simp) _ q⟩),st.2.at λo q=>k it (by simp) o q⟩
 item:=by
  intro X L F O N i pins s σ H E I C st B;subst L F O;obtain ⟨xs,x,y,D⟩:=B;obtain ⟨j,G,p,hz⟩:=I.tuple y;have pt:=p;obtain ⟨u,Y,ru⟩:=G.get D;obtain ⟨⟨f,r⟩,g⟩:=st;have n:a≠it:=λz=>by
   obtain ⟨o,q,c,_⟩:=g;obtain ⟨R,l,m,_⟩:=pt;rw [z,q] at l;cases l;rw [c] at m;exact absurd m (by decide)
  have Q:e≠a:=λz=>by
   obtain ⟨R,l,m,_⟩:=pt;rw [<- z,r] at l;cases l;exact absurd (show Value.type "enumerate" = Value.type "tuple" from m) (by decide)
  have M:i<j.toArray.size:=by
   have:=(Fv.mp Y).1;simpa using this
  refine cv (tn:=λi h=>(∃ f,IsEnum h e it ((i:Nat):Int) f)/\h.IsTupleIter it a i) I C (rN (show X.A.in1.handled=none from I.ok.hd N) it a n j.toArray) r ⟨g,pt⟩ M t (by simp [t,Q]) (λv hv=>?_) (λh' ho hs=>⟨?_,hs.1⟩) λq A=>jY A (λys V=>by rw [I.tuple_inj V y];exact D)
  ·grind
  ·grind
 done:=by
  intro X L F O N i pins s σ H E I C st B;subst L F O;obtain ⟨xs,y,D⟩:=B;obtain ⟨j,G,p,hz⟩:=I.tuple y;have pt:=p;obtain ⟨⟨f,r⟩,g⟩:=st;have hl:=G.length;have n:a≠it:=λz=>by
   obtain ⟨o,q,c,_⟩:=g;obtain ⟨R,l,m,_⟩:=pt;rw [z,q] at l;cases l;rw [c] at m;exact absurd m (by decide)
  have S:i=j.toArray.size:=by simp;omega
  obtain ⟨T,U,f2,f3,f4,W⟩:=C it (by simp);exact wpAny_pyNext_enum_endD (rN (show X.A.in1.handled=none from I.ok.hd N) it a n j.toArray) r ⟨S▸g,pt⟩ λh' Z=>⟨rfl,I.turned (λb o J q=>Z b o J q) T U f3 f4 W⟩
 self:=λ_ _ _ _ _ st h=>by
  obtain ⟨⟨f,r⟩,_⟩:=st;exact IQ r h
end
section
variable {X:Cx} {elts:List Expr} {x1:Nat} {tp:Pos}
theorem lL:bootBuiltins "enumerate" = some (.type "enumerate"):=by decide +kernel
theorem uM (u:Gl X "enumerate") (x:X.mg "enumerate" = none) (w:PA X [l] ta) (hs:starEach [l] X.env=[(false,eval l X.env)]) :
  PI X (.Tuple elts x1 tp) (.Call (.Name "enumerate" p) [l] [] pos) (λσ H R=>ta σ H λvs f=>∃ a,vs=[.ref a]/\(((∃ xs,SqL X.K f a xs)/\R (O0 λH xs=>SqL X.K H a xs) f)\/((∃ xs,SqT X.K f a xs)/\R (O0 λH xs=>SqT X.K H a xs) f))):=by
 intro pins s σ H R I h;refine Call_ (G0 I u x lL (GT (thn (w pos pins s σ H _ I h) λus c ⟨vs,f,d,A,n⟩=>?_) hs rfl));obtain ⟨a,e,n⟩:=n;subst e;cases A with
 | cons r y=>
  cases y;cases r;have o:∀ h':Heap,h'.objs.size=c.heap.objs.size+2->∀ b∈[c.heap.objs.size+1,c.heap.objs.size],L6 X pins f b:=λh' _ b v=>by
   have z:b=c.heap.objs.size+1\/b=c.heap.objs.size:=by simpa using v
   rcases z with rfl | rfl
   ·exact d.fpOk (GK _) (d.hok.fresh (GK _))
   ·exact d.fpOk (FH _) (d.hok.fresh (FH _))
  rcases n with ⟨⟨xs,k⟩,q⟩ | ⟨⟨xs,k⟩,q⟩
  ·obtain ⟨m,t,p,hz⟩:=d.list k;refine call_enumerate_list p.isList λh' g j hsz i=>?_;exact IQ g ⟨_,[c.heap.objs.size+1,c.heap.objs.size],_,_,f,rfl,d.kept i,hJ a _ _ (JX _),⟨⟨_,g⟩,j⟩,o h' hsz,q⟩
  ·obtain ⟨m,t,p,hz⟩:=d.tuple k;refine iM (p) λh' g j hsz i=>?_;exact IQ g ⟨_,[c.heap.objs.size+1,c.heap.objs.size],_,_,f,rfl,d.kept i,hV a _ _ (JX _),⟨⟨_,g⟩,j⟩,o h' hsz,q⟩
end
end L2
namespace L3
open PySem PySem.Spec PyProof.Rows L2
def y0 (ds:List D):Src:=λi _=>match ds[i]? with
 | some d=>some (some (.tup [.int (i:Int),d]))
 | none=>if i=ds.length then some none else none
def X6 (d:D):M (Src×Nat):=match d with
 | .tup ds=>ret (y0 ds,ds.length+1)
 | .lst ds=>ret (y0 ds,ds.length+1)
 | .scr ds=>ret (y0 ds,ds.length+1)
 | _=>bad
section
variable {K:PySem.W.Frag} {cl:Nat->Addr} {μ:Mp} {H:Hp}
theorem xO {ds:List D} (j:∀ μ2 a S2,LatU μ H μ2 a->Rep K cl μ2 S2 a->Sq a xs) (r:RDs K μ H ds xs):Yl K cl (O0 Sq) μ H (y0 ds):=λi μ2 a S2 l f=>by
 have b:=j μ2 a S2 l f;have h:=r.laterU l;show ak K cl (O0 Sq) i μ2 a S2 (match ds[i]? with
  | some d=>some (some (.tup [.int (i:Int),d]))
  | none=>if i=ds.length then some none else none)
 cases e:ds[i]? with
 | none=>
  by_cases q:i=ds.length
  ·rw [if_pos q];exact ⟨xs,b,by rw [<- r.length];exact q.symm⟩
  ·rw [if_neg q];exact trivial
 | some d=>
  obtain ⟨v,c,k⟩:=h.get e;refine ⟨⟨xs,v,b,c⟩,λx m z=>?_⟩;obtain ⟨p,y,rfl,g,rfl,q⟩:=z;have:=q xs b;rw [c] at this;cases this;exact F7 f (.cons (.int _) (.cons k .nil)) g
theorem ya (h:TupAt K μ H a xs) (r:RDs K μ H ds xs):Yl K cl (O0 λH xs=>SqT K H a xs) μ H (y0 ds):=xO (λμ2 i S2 l j=>by
 rcases h with ⟨q,n1,n2⟩ | q
 ·rcases q with q | ⟨o,q⟩
  ·exact .inl (.inl (l.oth _ _ q n1 n2))
  ·exact .inl (.inr ⟨o,l.oth _ _ q n1 n2⟩)
 ·obtain ⟨o,b,n,f,g,c,d,e,_⟩:=q;exact .inr ⟨o,b,n,f,g,c,d,e⟩) r
theorem ny (h:LstAt μ H a xs\/ScrAt K μ H a xs) (r:RDs K μ H ds xs):Yl K cl (O0 λH xs=>SqL K H a xs) μ H (y0 ds):=xO (λμ2 c S2 l b=>by
 rcases h with ⟨q,n1,n2⟩ | ⟨q,n1,n2⟩ | q
 ·exact .inl (.inl (l.oth _ _ q n1 n2))
 ·rcases q with q | ⟨o,q⟩
  ·exact .inl (.inl (l.oth _ _ q n1 n2))
  ·exact .inl (.inr ⟨o,l.oth _ _ q n1 n2⟩)
 ·exact .inr q) r
end
section
variable {X:Cx} {cl:Nat->Addr} {xe:Addr->Hp->Prop} {elts:List Expr} {x1:Nat} {tp p pos:Pos}
theorem oF (hg:Gl X "enumerate") (hm:X.mg "enumerate" = none) (ha:PA X [a] (tDs X.K cl xe fs)) (hs:noStar a=true) :
  PI X (.Tuple elts x1 tp) (.Call (.Name "enumerate" p) [a] [] pos) (tIt X.K cl xe λρ=>bind (fs ρ) λds=>match ds with
   | [d]=>X6 d
   | _=>bad):=
 PI.imp (uM hg hm ha (c8 hs)) λσ H R ⟨μ,S,ρ,eo,rp,P⟩=>⟨μ,S,ρ,eo,rp,P.bind.imp λds S1 μ1 H1 l1 r1 p1 vs rvs=>by
  cases rvs with
  | nil=>exact False.elim p1
  | cons h t=>
   cases t with
   | cons _ _=>exact False.elim p1
   | nil=>
    cases h with
    | tup h r=>exact ⟨_,rfl,.inr ⟨⟨_,h.sq⟩,p1.ret μ1 H1 (Lat.refl _ _) r1 _ (ya h r)⟩⟩
    | lst h r=>exact ⟨_,rfl,.inl ⟨⟨_,h.sq⟩,p1.ret μ1 H1 (Lat.refl _ _) r1 _ (ny (.inl h) r)⟩⟩
    | scr h r=>exact ⟨_,rfl,.inl ⟨⟨_,h.sq⟩,p1.ret μ1 H1 (Lat.refl _ _) r1 _ (ny (.inr h) r)⟩⟩
    | _=>exact False.elim p1⟩
end
end L3
namespace L2
open PySem PySem.Spec PyProof.Rows
section
variable {prog:Program} {w:World} {A:Around} {s:Shared} {R:Result->Shared->Prop}
theorem dw {B b y:Expr} {ifs:List Expr} {p:Scope} {pos:Pos} {it C:Value} {a:PySem.Env} (I:Nat->Shared->Prop)
  (D:∀ n s,I n s->wpAny (model prog w) A (pyNext it) (λr f=>match r with
   | none=>R (.ok .next) f
   | some v=>wpAny (model prog w) A (letOwnedTupleGo b it v) (λ_ g=>wpAny (model prog w) A (assign b a v) (λ_ j=>
     wpAny (model prog w) A (forIn ifs true λc r=>if r=true then do let t <- isTrue c a (eval c a);pure (ForInStep.yield t) else pure (ForInStep.yield r)) (λt d=>
      if t=true then wpAny (model prog w) A (eval B a) (λx i=>
       wpAny (model prog w) A (call (.builtin "list.append") [C,x]) (λ_ l=>∃ m,m<n/\I m l) (notedBy (model prog w) A a λe s'=>R (.error e) s') i) (notedBy (model prog w) A a λe s'=>R (.error e) s') d
      else ∃ m,m<n/\I m d) (notedBy (model prog w) A a λe s'=>R (.error e) s') j) (notedBy (model prog w) A a λe s'=>R (.error e) s') g) (notedBy (model prog w) A a λe s'=>R (.error e) s') f) (notedBy (model prog w) A a λe s'=>R (.error e) s') s)
  (n:Nat) (h:I n s):codeAny (model prog w) A (.compLoop (.ListComp B [⟨b,y,ifs,0⟩] p pos) 0 it C a) R s:=by
 refine codeAny_loop rfl I (λn s E=>?_) n h;refine wpAny_noted ?_;rw [compTurn_list];refine Fq (Iv (Fq (Gs (D n s E) (λr f o=>?_) λ_ _ h'=>h')));cases r with
 | none=>exact Fs o
 | some v=>
  refine Fq (Gs o (λ_ g h₀=>?_) λ_ _ h'=>h');refine Fq (Gs h₀ (λ_ j u=>Fq (Gs u (λt d k=>?_) λ_ _ h'=>h')) λ_ _ h'=>h');cases t with
  | false=>exact Fs ⟨rfl,k⟩
  | true=>
   exact Fq (Fq (Gs k (λx i q=>Fq (Gs q (λ_ l z=>Fs (Fs ⟨rfl,z⟩)) λ_ _ h'=>h')) λ_ _ h'=>h'))
end
def sF (k:Nat) (caps:List Nat) (n:TI) (f:TG) (p:TT) (te:TE):TE:=λσ H Q=>n σ H λJ g=>∀ a,g a=none->∃ W:Nat->Nat->List V->Hp->Prop,(∃ m,W 0 m [] (upd g a (.lst []))) /\
 ∀ i m ys e,W i m ys e->e a=some (.lst ys)/\((J.stop i e/\Q (.ref a) e)\/(J.go i e/\∀ x l,J.yld i e x l->f x (List.replicate k none++A2 caps σ) l λd o=>∃ c:List (Option V),c.length=k/\d=c++A2 caps σ/\p d o λb h=>
  if b=true then te d h λy j=>j a=some (.lst ys)/\ys.length<sizeLine/\∃ m',m'<m/\W (i+1) m' (ys++[y]) (upd j a (.lst (ys++[y])))
  else ∃ m',m'<m/\W (i+1) m' ys h))
theorem nO {X:Cx} {elt iter tg:Expr} {k:Nat} {tgp:TG} {ifs:List Expr} {scope:Scope} {pos:Pos} {N':List Str} {caps:List Nat} {wi:TI} {tc:TT} {te:TE}
  (T:CompText X.N X.env N' k caps scope) (hc:X.calm=true) (hg:∀ pins C fp s H,PG (c7 X pins N' scope C fp s H) tg tgp) (hi:PI X tg iter wi)
  (ht:∀ pins C fp s H,PTL (c7 X pins N' scope C fp s H) ifs tc) (he:∀ pins C fp s H,PE (c7 X pins N' scope C fp s H) elt te)
  (hs:∀ x,foldedSetIterable iter X.env x=pure x:=by intro _;rfl):PE X (.ListComp elt [⟨tg,iter,ifs,0⟩] scope pos) (sF k caps wi tgp tc te):=by
 intro pins s σ H Q I h;have fr:∀ x∈scope.names,x.2=NameKind.free->∃ c,X.env.cells.lookup x.1=some c:=λx hx hk=>I.ok.has x.1 (T.free x hx hk).2;rw [eval_ListComp];refine Ix (use:=none) rfl hs (D1 fr) T.kind T.loc ?_;refine thn (hi pins s σ H _ I h) λv s1 h1=>thn h1 λitv s2 h2=>?_;obtain ⟨it,fp,tn,J,H2,rfl,I2,Tn,st2,f2,h2⟩:=h2;obtain ⟨W,⟨m0,w0⟩,turn⟩:=h2 s2.heap.objs.size (I2.hok.fresh (FH _));have hlt:∀ b∈fp,b<s2.heap.objs.size:=λb hb=>let ⟨o,e,_⟩:=Tn.obj _ _ st2 b hb;FK e
 refine Gi (Jb T.cell (by intro y hy;simp at hy) (λh₁ hns₁ hsb₁=>?_) T.kind);dsimp only at hns₁ hsb₁ ⊢;have hC:(s2.heap.push { cls:=.type "list",dict:=none,data:=.seq ([]:List Value).toArray }).objs.size=s2.heap.objs.size+1:=GL ..;rw [hC] at hns₁ hsb₁;have old:∀ b o,s2.heap.get? b=some o->h₁.get? b=some o:=λb o e=>hsb₁.extBut b o (FN (Gw (FK e))) (Ft _ (Ft _ e));have hacc:h₁.get? s2.heap.objs.size=some { cls:=.type "list",data:=.seq #[] }:=hsb₁.extBut _ _ (FN (Go _)) (Ft _ (FJ _ rfl));have hst₁:tn 0 h₁:=Tn.keep _ _ _ st2 λb _ o e=>old b o e;have I3:=P6 (t:=s2.toks+([]:List (Str×Value)).length) T I2 f2 hlt hns₁ old hacc;have stat:∀ {H':Hp},(∀ b∈fp,H' b=none)->∀ b∈fp,L6 (c7 X pins N' scope (s2.heap.objs.size+1) fp s2 H2) [] H' b:=λhn b hb=>by
  refine ⟨hn b hb,(I3.ok.exf b hb).1,I3.ok.exfs b hb,.inl hb,(I3.ok.exf b hb).2,λp hp=>?_⟩;have hp':p∈X.pn++pins:=by
   have:p∈(X.pn++pins)++[]:=hp;rwa [Gv] at this
  exact (f2 b hb).2.2.2.2.2 p hp'
 have loop:∀ s3:Shared,s3={ s2 with heap:=h₁,toks:=s2.toks+([]:List (Str×Value)).length } ->
   codeAny (model X.prog X.w) X.A (.compLoop (.ListComp elt [⟨tg,iter,ifs,0⟩] scope pos) 0 (.ref it) (.ref s2.heap.objs.size) (compEnvC scope (V4 X.env.cells scope.names) (s2.heap.objs.size+1) X.env))
    (compPost (model X.prog X.w) X.A X.xe none (EP X pins σ Q) (.ref s2.heap.objs.size) (s2.heap.objs.size+1)) s3:=by
  rintro s3 rfl;refine dw (λn s'=>∃ i ys H',Inv (c7 X pins N' scope (s2.heap.objs.size+1) fp s2 H2) [] (List.replicate k none++A2 caps σ) H' s'/\tn i s'.heap/\(∀ b∈fp,H' b=none)/\W i n ys H') ?_ m0
   ⟨0,[],_,I3,hst₁,λb hb=>by rw [a8 (FN (hlt b hb))];exact (f2 b hb).1,w0⟩
  rintro n s4 ⟨i,ys,H4,I4,st4,fr4,w4⟩;obtain ⟨hacc4,turn4⟩:=turn i n ys H4 w4;refine d9 ?_;rcases turn4 with ⟨stop,q⟩ | ⟨go,step⟩
  ·refine thn (Tn.done (c7 X pins N' scope (s2.heap.objs.size+1) fp s2 H2) rfl rfl rfl hc i [] s4 _ H4 (λ_ _=>False) I4 (stat fr4) st4 stop) λr s5 ⟨hr,I5⟩=>?_;subst hr;obtain ⟨m5,hn5,_⟩:=id I5.loc;refine ⟨m5,hn5,λh' hs'=>?_⟩;refine ⟨.ref s2.heap.objs.size,H4,?_,rfl,q⟩;refine I2.call' (ch:=fp) (s':={ s5 with heap:=h' }) I5.os (Un.sameBut I5.base hs' (GK _)) (I5.hok.sameBut I5.free hs') I5.bare λb hb=>?_;have:=f2 b hb;exact ⟨this.2.2.2.1,this.2.1,this.2.2.2.2.1,this.2.2.2.2.2⟩
  ·refine thn (Tn.item (c7 X pins N' scope (s2.heap.objs.size+1) fp s2 H2) rfl rfl rfl hc i [] s4 _ H4 (λ_ _=>False) I4 (stat fr4) st4 go) λr s5 ⟨u,hr,h5⟩=>?_;subst hr;dsimp only;refine d9 (thn h5 λ_ s6 ⟨xv,H6,I6,r6,y6,st6,fr6⟩=>?_);have I6':=I6.pinned (stat fr6) (Tn.obj _ _ st6);refine d9 (thn (hg pins _ fp s2 H2 _ s6 _ H6 xv u _ I6' r6 (step xv _ y6)) λ_ s7 ⟨σ7,H7,I7,vals,hv,e7,q7⟩=>?_);subst e7;have back:∀ {σ8:St} {H8:Hp} {s8:Shared},Inv (c7 X pins N' scope (s2.heap.objs.size+1) fp s2 H2) ([]++C8 fp s6.heap) σ8 H8 s8->tn (i+1) s8.heap/\∀ b∈fp,H8 b=none:=λ{σ8 H8 s8} I8=>by
    refine ⟨Tn.keep _ _ _ st6 λb hb o e=>(I8.pin (b,o) (FZ _ (FZ _ (m7 hb e)))).1,λb hb=>?_⟩;obtain ⟨o,e,d⟩:=Tn.obj _ _ st6 b hb;exact (I8.pin (b,o) (FZ _ (FZ _ (m7 hb e)))).2.1
   refine d9 (thn (ht pins _ fp s2 H2 _ s7 _ _ _ I7 q7) λb s8 ⟨H8,I8,q8⟩=>?_);have wk:∀ {H9:Hp} {s9:Shared},Inv (c7 X pins N' scope (s2.heap.objs.size+1) fp s2 H2) ([]++C8 fp s6.heap) (vals++A2 caps σ) H9 s9->Inv (c7 X pins N' scope (s2.heap.objs.size+1) fp s2 H2) [] (List.replicate k none++A2 caps σ) H9 s9:=λ{H9 s9} I9=>
    I9.unpinned.weak (by simp [hv]) λj v e=>by
     by_cases hj:j<k
     ·rw [FI (by simpa using hj),HH,if_pos hj] at e;cases e
     ·rw [Gq (by simpa using hj)] at e;rw [Gq (by omega),hv];simpa using e
   cases b with
   | false=>
    obtain ⟨m',hm,w'⟩:=q8;exact ⟨m',hm,i+1,ys,H8,wk I8,(back I8).1,(back I8).2,w'⟩
   | true=>
    refine d9 (thn (he pins _ fp s2 H2 _ s8 _ H8 _ I8 q8) λz s9 ⟨y,H9,I9,r9,hacc9,hl9,m',hm,w'⟩=>?_);refine d9 (thn (M8 (X:=c7 X pins N' scope (s2.heap.objs.size+1) fp s2 H2) _ s9 _ H9 (.ref s2.heap.objs.size) [y] (.ref s2.heap.objs.size) [z] (λ_ H'=>H'=upd H9 s2.heap.objs.size (.lst (ys++[y]))) I9 rfl (.cons r9 .nil) ⟨_,ys,y,rfl,rfl,hacc9,hl9,rfl⟩) λ_ s10 ⟨_,H10,I10,_,e10⟩=>?_);subst e10;exact ⟨m',hm,i+1,ys++[y],_,wk I10,(back I10).1,(back I10).2,w'⟩
 have fin:=IL (loop _ rfl) (Tn.self _ 0 _ _ _ hst₁ (loop _ rfl));rw [<- hC] at fin;exact fin
end L2
namespace L3
open PySem PySem.Spec PyProof.Rows L2
def mk2 (c:Env) (d:D):Env:=match d with
 | .tup [a,b]=>some a :: some b :: c
 | _=>[]
def pS (t:Env->M Bool) (ρ:Env):M Bool:=match ρ with
 | []=>bad
 | o :: ρ=>t (o :: ρ)
def dI (caps:List Nat) (b:Env->M (Src×Nat)) (t:Env->M Bool) (f:Env->M D) (ρ:Env):M (List D):=bind (b ρ) λa=>p9 a.1 (pS t) f (mk2 (F8 caps ρ)) a.2 0 []
theorem rK {K:PySem.W.Frag} {μ:Mp} {H:Hp} {ρ:Env} {σ:L2.St} {d:D} {x:V} (a:EnvOk K μ H ρ σ) (r:RD K μ H d x):EnvOk K μ H (some d :: ρ) (some x :: σ):=by
 refine ⟨by simp [a.1],λi e b=>?_⟩;cases i with
 | zero=>grind
 | succ j=>exact a.2 j e b
def Ep:TGs:=ni (ax 0) (ni (ax 1) gNil)
theorem fj {K:PySem.W.Frag} {cl:Nat->Addr} {xe:Addr->Hp->Prop} {caps:List Nat} {fi:Env->M (Src×Nat)} {t:Env->M Bool} {f:Env->M D} {σ:L2.St} {H:Hp} {μ:Mp} {S:Sto} {ρ:Env} {Q:VK} (eo:EnvOk K μ H ρ σ) (rp:Rep K cl μ S H)
  (p:Post K cl xe μ H (dI caps fi t f ρ S) λds _ μ' H'=>∀ c ys,LstAt μ' H' c ys->RDs K μ' H' ds ys->Q (.ref c) H'):sF 2 caps (tIt K cl xe fi) (DP K 2 Ep) (tBo K cl xe t) (tD K cl xe f) σ H Q:=by
 refine ⟨μ,S,ρ,eo,rp,p.bind.imp λsm S1 u H1 l1 L p1 J yl c g=>?_⟩;obtain ⟨src,m0⟩:=sm;have W:=L.notrs g;refine ⟨λi m ys s=>∃ μ2 S2 es,HLat u H1 c μ2 s/\c∉μ2.pl/\s c=some (.lst ys)/\EnvOk K μ2 s ρ σ/\Rep K cl μ2 S2 s/\RDs K μ2 s es ys/\Post K cl xe u H1 (p9 src (pS t) f (mk2 (F8 caps ρ)) m i es S2) (λds _ μ' H'=>∀ c ys,LstAt μ' H' c ys->RDs K μ' H' ds ys->Q (.ref c) H'),⟨m0,u.hold c,S1,[],?_,L.notin g,b6,T7 L g (eo.later l1),U5 L g,.nil,p1⟩,?_⟩
 ·refine ⟨⟨λ_ _ e=>e,λa o e _=>by rw [a8 (b9 e g)];exact e,λa m=>.inl m,λa m=>?_⟩,rfl⟩;rcases FP.mp (m) with rfl | m
  ·exact .inr g
  ·exact .inl m
 rintro i m ys s ⟨μ2,S2,es,P,A,G,z,r2,h,k⟩;refine ⟨G,?_⟩;cases m with
 | zero=>exact k.elim
 | succ m=>
  have y:ak K cl J i μ2 s S2 (src i S2):=yl i μ2 s S2 P.r.u r2;simp only [p9] at k;cases e1:src i S2 with
  | none=>rw [e1] at k;exact k.elim
  | some o=>
   rw [e1] at k y;cases o with
   | none=>
    refine .inl ⟨y,k μ2.free s (P.lat (Lat.refl _ _)) (ai r2) c ys ⟨G,A,?_⟩ (fI h)⟩;show c∉μ2.rs.tail;rw [P.rs];exact W
   | some d=>
    obtain ⟨y1,y2⟩:=y;refine .inr ⟨y1,λx H3 hy=>?_⟩;obtain ⟨l3,r3,R⟩:=y2 x H3 hy;have h3:=P.step l3;cases R with
    | tup ht rs=>
     cases rs with
     | nil=>exact False.elim k
     | cons ra rs=>
      cases rs with
      | nil=>exact False.elim k
      | cons rb rs=>
       cases rs with
       | cons _ _=>exact False.elim k
       | nil=>
        rename_i da va db V;refine ⟨_,_,rfl,ht.sq,rfl,va,[V],rfl,V,[],rfl,rfl,[some va,some V],rfl,rfl,?_⟩;have ev:=rK (T6 (caps:=caps) (z.later l3) rb) ra;refine ⟨μ2,S2,some da :: some db :: F8 caps ρ,ev,r3,(Post.at k h3).imp λb S5 B H5 U r5 Z=>?_⟩;have h5:=h3.step U;have l:=l3.trans U;have T:=l.oth _ _ G A;have X:=l.out G A;cases b with
        | false=>exact ⟨m,Go _,B,S5,es,h5,X,T,z.later l,r5,h.later l,Z⟩
        | true=>
         refine si ?_;rw [if_pos rfl] at Z;refine ⟨B,S5,some da :: some db :: F8 caps ρ,ev.later U,r5,(Post.at Z h5).imp λyv S6 Y H6 N r6 I v rv=>?_⟩;have C:=h5.step N;have E:=l.trans N;have a6:=N.oth _ _ T X;have n6:=N.out T X;by_cases hz:es.length<sizeLine
         ·rw [if_pos hz] at I;have O:=C.rs;refine ⟨a6,by rw [<- h.length];exact hz,m,Go _,Y,S6,es++[yv],?_,n6,b6,?_,V5 O a6 r6,V2 O ((h.later E).append (.cons rv .nil)),I⟩
          ·refine ⟨⟨C.r.pre,λa o e n=>?_,C.r.new,C.r.rsw⟩,O⟩;rw [a8 (b9 e g)];exact C.r.oth a o e n
          ·have F:=z.later E;exact ⟨F.1,λj e he=>let ⟨w,q,r⟩:=F.2 j e he;⟨w,q,aa O r⟩⟩
         ·rw [if_neg hz] at I;exact I.elim
    | _=>exact False.elim k
section
variable {X:Cx} {cl:Nat->Addr} {xe:Addr->Hp->Prop} {elt iter:Expr} {x y:Str} {px py tp pos:Pos} {kk:Nat} {ifs:List Expr} {scope:Scope} {N':List Str} {caps:List Nat} {fi:Env->M (Src×Nat)} {t:Env->M Bool} {f:Env->M D}
theorem ke (T:CompText X.N X.env N' 2 caps scope) (h:X.calm=true) (g:N'.Nodup) (d:N'[0]?=some x) (e:N'[1]?=some y) (c:scope.names.lookup x=some .local) (a:scope.names.lookup y=some .local) (j:PI X (.Tuple [.Name x px,.Name y py] kk tp) iter (tIt X.K cl xe fi))
  (n:∀ pins C b s H,PTL (c7 X pins N' scope C b s H) ifs (tBo X.K cl xe t)) (m:∀ pins C b s H,PE (c7 X pins N' scope C b s H) elt (tD X.K cl xe f)) (i:u4 iter=true) :
  PE X (.ListComp elt [⟨.Tuple [.Name x px,.Name y py] kk tp,iter,ifs,0⟩] scope pos) (pe X.K cl xe (dI caps fi t f)):=
 PE.imp (nO T h (λpins C b s H=>nF (X:=c7 X pins N' scope C b s H) h (bE (L7 g d (.inl (GM c)) (.inr (GM c))) (bE (L7 g e (.inl (GM a)) (.inr (GM a))) kS))) j n m (y8 i)) λσ H Q ⟨μ,S,ρ,l,k,p⟩=>fj l k p
end
def e9 (d:D):M Bool:=match d with
 | .non=>ret false
 | .bl b=>ret b
 | .int i=>ret (i != 0)
 | .str x=>if x.length<=sizeLine then ret ((x.length:Int) != 0) else bad
 | .ref n=>λS=>match S[n]? with
  | some (.lst ds)=>.ok (!ds.isEmpty) S
  | some (.dct a)=>.ok (!a.isEmpty) S
  | _=>.bad
 | d=>bind (G5 d) λds=>ret (!ds.isEmpty)
section
variable {K:PySem.W.Frag} {cl:Nat->Addr} {xe:Addr->Hp->Prop} {μ:Mp} {H:Hp} {S:Sto}
theorem M4 (r:RDs K μ H ds vs):ds.isEmpty=vs.isEmpty:=by cases r <;> rfl
theorem aP (rd:RD K μ H d v) (rp:Rep K cl μ S H) (p:Post K cl xe μ H (e9 d S) G):∃ k,lB K v H k/\G k S μ H:=by
 cases rd with
 | non=>exact ⟨_,rfl,p μ H (Lat.refl _ _) rp⟩
 | bl b=>exact ⟨_,rfl,p μ H (Lat.refl _ _) rp⟩
 | int i=>exact ⟨_,rfl,p μ H (Lat.refl _ _) rp⟩
 | str x=>
  obtain ⟨hl,p⟩:=Post.guard p;exact ⟨_,⟨hl,rfl⟩,p μ H (Lat.refl _ _) rp⟩
 | tup h r=>exact ⟨_,.inr (.inl ⟨_,h.sq,by rw [<- M4 r]⟩),p μ H (Lat.refl _ _) rp⟩
 | lst h r=>exact ⟨_,.inl ⟨_,h.sq,by rw [<- M4 r]⟩,p μ H (Lat.refl _ _) rp⟩
 | scr h r=>exact ⟨_,.inl ⟨_,h.sq,by rw [<- M4 r]⟩,p μ H (Lat.refl _ _) rp⟩
 | ref h=>
  rename_i n a;simp only [e9] at p;cases q1:S[n]? with
  | none=>rw [q1] at p;exact p.elim
  | some o=>
   rw [q1] at p;cases o with
   | lst ds=>
    obtain ⟨xs,h1,h2⟩:=rp.ats n _ a q1 h;exact ⟨_,.inl ⟨xs,.inl (.inl h1),by rw [<- M4 h2]⟩,p μ H (Lat.refl _ _) rp⟩
   | dct kvs=>
    obtain ⟨ks,h1,h2⟩:=rp.ats n _ a q1 h;refine ⟨_,.inr (.inr ⟨ks,h1,rfl⟩),?_⟩;have e:kvs.isEmpty=ks.isEmpty:=by cases h2 <;> rfl
    rw [<- e];exact p μ H (Lat.refl _ _) rp
   | exc _ _=>exact p.elim
end
section
variable {X:Cx} {cl:Nat->Addr} {xe:Addr->Hp->Prop} {a b e:Expr} {es rest:List Expr} {pos:Pos} {f g:Env->M D}
theorem mw (h:PE X a (tD X.K cl xe f)) (i:D2 a=true):PT X a (tBo X.K cl xe λρ=>bind (f ρ) e9):=PT.imp (nL h (test_of i)) λσ H Q ⟨μ,S,ρ,b,k,p⟩=>
 ⟨μ,S,ρ,b,k,p.bind.imp λd S1 j l m e g v c=>aP c e g⟩
theorem zG (h:PE X a (tD X.K cl xe f)):PE X (.UnaryOp .Not a pos) (tD X.K cl xe λρ=>bind (f ρ) λd=>bind (e9 d) λk=>ret (.bl (!k))):=by
 intro pins s σ H Q I ⟨μ,S,ρ,j,t,p⟩;refine UnaryOp_ (thn (h pins s σ H (λv b=>∃ k,lB X.K v b k/\Q (.bl (!k)) b) I ⟨μ,S,ρ,j,t,p.bind.imp λd S1 e b B i r v m=>let ⟨k,g,q⟩:=aP m i r.bind;⟨k,g,q e b (Lat.refl _ _) i _ (.bl _)⟩⟩) λv z ⟨x,b,y,l,k,g,q⟩=>?_);exact not_of (thn (dB pins z σ b x v (λo H'=>o=k/\H'=b) y l ⟨k,g,rfl,rfl⟩) λc C ⟨A,w,u,n⟩=>by
  subst u n;exact ⟨.bl (!c),A,w,rfl,q⟩)
theorem qQ (h:PE X a (tD X.K cl xe f)):PE X (.BoolOp op [a] pos) (tD X.K cl xe f):=AI h
theorem zD (h:PE X a (tD X.K cl xe f)) (k:PE X (.BoolOp .And (b :: rest) pos) (tD X.K cl xe g)):PE X (.BoolOp .And (a :: b :: rest) pos) (tD X.K cl xe λρ=>bind (f ρ) λd=>bind (e9 d) λq=>if q=true then g ρ else ret d):=by
 intro pins s σ H Q I ⟨μ,S,ρ,m,A,p⟩;refine BoolOp_and (thn (h pins s σ H (λv e=>∃ c,lB X.K v e c/\if c=true then tD X.K cl xe g σ e Q else Q v e) I ⟨μ,S,ρ,m,A,p.bind.imp λd S1 i e F j w v n=>?_⟩) λv z ⟨x,e,E,t,c,l,q⟩=>?_)
 ·obtain ⟨c,l,q⟩:=aP n j w.bind;refine ⟨c,l,?_⟩;cases c with
  | true=>exact ⟨i,S1,ρ,m.later F,j,q⟩
  | false=>exact q i e (Lat.refl _ _) j _ n
 ·refine thn (dB pins z σ e x v (λB H'=>B=c/\H'=e) E t ⟨c,l,rfl,rfl⟩) λC D ⟨r,o,y,u⟩=>?_;subst y u;cases C with
  | true=>exact k pins D σ r Q o q
  | false=>exact ⟨x,r,o,t,q⟩
theorem Bh (h:PE X a (tD X.K cl xe f)) (k:PE X (.BoolOp .Or (b :: rest) pos) (tD X.K cl xe g)):PE X (.BoolOp .Or (a :: b :: rest) pos) (tD X.K cl xe λρ=>bind (f ρ) λd=>bind (e9 d) λq=>if q=true then ret d else g ρ):=by
 intro pins s σ H Q I ⟨μ,S,ρ,m,A,p⟩;refine BoolOp_or (thn (h pins s σ H (λv e=>∃ c,lB X.K v e c/\if c=true then Q v e else tD X.K cl xe g σ e Q) I ⟨μ,S,ρ,m,A,p.bind.imp λd S1 i e F j w v n=>?_⟩) λv z ⟨x,e,E,t,c,l,q⟩=>?_)
 ·obtain ⟨c,l,q⟩:=aP n j w.bind;refine ⟨c,l,?_⟩;cases c with
  | true=>exact q i e (Lat.refl _ _) j _ n
  | false=>exact ⟨i,S1,ρ,m.later F,j,q⟩
 ·refine thn (dB pins z σ e x v (λB H'=>B=c/\H'=e) E t ⟨c,l,rfl,rfl⟩) λC D ⟨r,o,y,u⟩=>?_;subst y u;cases C with
  | true=>exact ⟨x,r,o,t,q⟩
  | false=>exact k pins D σ r Q o q
def tPt (K:PySem.W.Frag) (cl:Nat->Addr) (xe:Addr->Hp->Prop) (a:Env->M (Option Int)):TO:=λσ H Q=>∃ μ S ρ,EnvOk K μ H ρ σ/\Rep K cl μ S H/\Post K cl xe μ H (a ρ S) λo _ _ H'=>Q o H'
def Z0 (d:D):M (Option Int):=match d with
 | .int i=>ret (some i)
 | _=>bad
theorem PO.imp {e:Option Expr} {t t':TO} (h:PO X e t) (k:∀ σ H Q,t' σ H Q->t σ H Q):PO X e t':=λpins s σ H Q I q=>h pins s σ H Q I (k σ H Q q)
theorem sW:PO X none (tPt X.K cl xe λ_=>ret none):=PO.imp vW λσ H Q ⟨μ,S,ρ,b,a,p⟩=>p μ H (Lat.refl _ _) a
theorem uK (h:PE X e (tD X.K cl xe f)):PO X (some e) (tPt X.K cl xe λρ=>bind (f ρ) Z0):=PO.imp (tM h) λσ H Q ⟨μ,S,ρ,eo,rp,p⟩=>
 ⟨μ,S,ρ,eo,rp,p.bind.imp λd S1 μ1 H1 l1 r1 p1 v rv=>by
  cases rv with
  | int i=>exact ⟨i,rfl,p1 μ1 H1 (Lat.refl _ _) r1⟩
  | _=>exact False.elim p1⟩
theorem N3 {s:Shared} {t e:Addr} {items:Array Value} {k i:Value} {lo c:Option Int} {Q:Value->Shared->Prop} (a:IsTup s.heap t items) (hs:s.heap.IsSliceOf e k i .none) (pl:IsPart k lo) (l:IsPart i c)
  (j:HT.sIx items.size 0 lo=0/\HT.sIx items.size items.size c=items.size) (h:Q (.ref t) s):wpAny (model prog w) A (getItem (.ref t) (.ref e)) Q E s:=by
 obtain ⟨m,g,d,hds⟩:=id hs;have f:s.TypeIs (.ref e) "slice":=⟨m,g,d⟩;unfold getItem;try with_reducible refine GD ?_
 first | refine Fq (Fs ?_) | skip
 refine Fq (JK a.typeIs (by decide) ?_);refine Fq (Gx a.typeIs GE
  (GA GE a.typeIs Jl ?_ (Jv _ _)))
 show wpAny _ _ (Builtin.Tuple.tupleItemsOf (.ref t) >>= _) _ _ s;refine Fq (JP a ?_);refine Fq (Ii f ?_);rw [if_pos (by decide)];refine Fq (HT.sliceApplied_gen hs pl l ?_);have b:(((HT.sIx items.size 0 lo:Nat):Int)==0&&(1:Int)==1&&(HT.sIx items.size items.size c-HT.sIx items.size 0 lo)==items.size)=true:=by
  rw [j.1,j.2];simp
 show wpAny _ _ (if (((HT.sIx items.size 0 lo:Nat):Int)==0&&(1:Int)==1&&(HT.sIx items.size items.size c-HT.sIx items.size 0 lo)==items.size)=true then _ else _) _ _ s;rw [if_pos b];refine Fq ?_;refine Fq (Ii a.typeIs (Fs ?_));rw [if_pos (by decide)];refine Fq (IY ?_);exact Fs ⟨_,rfl,Fs h⟩
theorem wA:SlR X (λx lo e H Q=>∃ a xs,x=.ref a/\SqT X.K H a xs/\(HT.sIx xs.length 0 lo=0/\HT.sIx xs.length xs.length e=xs.length)/\Q (.ref a) H):=by
 intro pins s σ H x v m k lo e l Q I f hs pl j h;obtain ⟨a,xs,rfl,g,i,q⟩:=h;cases f;obtain ⟨c,r,d,hz⟩:=I.tuple g;have b:c.toArray.size=xs.length:=by rw [FR];exact r.length.symm
 exact ⟨"tuple",_,PyProof.Rows.slot_tuple_getitem.lookup,d.typeIs,N3 d hs pl j (by rw [b];exact i) ⟨.ref a,H,I,rfl,q⟩⟩
theorem Ea:SlR X (λx lo hi H Q=>∃ μ S d,RD X.K μ H d x/\Rep X.K cl μ S H/\Post X.K cl xe μ H (slD d lo hi S) λr _ μ' H'=>∀ v,RD X.K μ' H' r v->Q v H'):=by
 intro pins s σ H x v vl vu lo hi sl Q I rx hs pl pu ⟨μ,S,d,rd,rp,p⟩;have sq:∀ {a:Addr} {xs:List V} {ds:List D},SqL X.K H a xs->RDs X.K μ H ds xs->x=.ref a->(∀ μ' H',Lat μ H μ' H'->Rep X.K cl μ' S H'->∀ w,RD X.K μ' H' (.lst (u6 ds lo hi)) w->Q w H') ->
   ∃ T id,typeLookup (.type T) "__getitem__" = pure (some (.builtin id))/\s.TypeIs v T/\wpAny (model X.prog X.w) X.A (getItem v (.ref sl)) (EP X pins σ Q) X.xe s:=λ{a xs ds} hq r2 hv q=>by
  subst hv;refine vR pins s σ H _ v vl vu lo hi sl Q I rx hs pl pu ⟨a,xs,rfl,hq,λz hz=>?_⟩;obtain ⟨l,rp2,rd2⟩:=B6 rp (oH r2 lo hi) hz;exact q μ _ l rp2 _ rd2
 cases rd with
 | tup h r=>
  rename_i a xs ds;by_cases hw:HT.sIx xs.length 0 lo=0/\HT.sIx xs.length xs.length hi=xs.length
  ·refine wA pins s σ H _ v vl vu lo hi sl Q I rx hs pl pu ⟨a,xs,rfl,h.sq,hw,?_⟩;have e:u6 ds lo hi=ds:=by
    unfold u6;rw [r.length,hw.1,hw.2,List.drop_zero,Nat.sub_zero];exact HM (by rw [r.length];exact FH _)
   exact p μ H (Lat.refl _ _) rp _ (by rw [e];exact .tup h r)
  ·refine xq pins s σ H _ v vl vu lo hi sl Q I rx hs pl pu ⟨a,xs,rfl,h.sq,hw,λz hz=>?_⟩;obtain ⟨l,rp2,rd2⟩:=F7 rp (oH r lo hi) hz;exact p μ _ l rp2 _ rd2
 | lst h r=>exact sq h.sq r rfl p
 | scr h r=>exact sq h.sq r rfl p
 | ref h=>
  rename_i n a0;have p2:=p;obtain ⟨a,xs,ds,e1,h1,h2,e2⟩:=p6 (.ref h) rp p2.bind;exact sq (.inl (.inl h1)) h2 e1 (p2.ok_bind e2)
 | _=>exact False.elim p
theorem Am {lo k:Option Expr} {c:Pos} {j m:Env->M (Option Int)} (h:PE X e (tD X.K cl xe f)) (t:PO X lo (tPt X.K cl xe j)) (B:PO X k (tPt X.K cl xe m)) :
  PE X (.Subscript e (.Slice lo k none c) pos) (tD X.K cl xe λρ=>bind (f ρ) λd=>bind (j ρ) λl=>bind (m ρ) λu=>slD d l u):=PE.imp (nZ Ea h t B) λσ H Q ⟨μ,S,ρ,a,s,p⟩=>
 ⟨μ,S,ρ,a,s,p.bind.imp λd S1 g C n o q v x=>⟨g,S1,ρ,a.later n,o,q.bind.imp λl S2 μ2 E i A c=>⟨μ2,S2,ρ,(a.later n).later i,A,c.bind.imp λu z b D y r w=>⟨b,z,d,(x.later i).later y,r,w⟩⟩⟩⟩
end
def K3 (x k v:D):M D:=match x with
 | .ref n=>λS=>match S[n]? with
  | some (.lst ds)=>match k with
   | .int i=>match ixN ds.length i with
    | some j=>.ok .non (S.set n (.lst (ds.set j v)))
    | none=>.bad
   | _=>.bad
  | some (.dct a)=>match O1 k with
   | some b=>if a.length<sizeLine then .ok .non (S.set n (.dct (ki a b v))) else .bad
   | none=>.bad
  | _=>.bad
 | _=>bad
theorem jR {K:PySem.W.Frag} {μ:Mp} {H:Hp} {k:Key}:∀ {a:List (Key×D)} {c:List (Key×V)},KvsAt K μ H a c->(a.any λb=>decide (b.1=k))=c.any λb=>decide (b.1=k)
 | _,_,.nil=>rfl
 | _,_,.cons ⟨d,e⟩ t=>by simp only [Hq,d,jR t]
theorem jI {K:PySem.W.Frag} {μ:Mp} {H:Hp} {k:Key} {d:D} {v:V} (r:RD K μ H d v):∀ {c:List (Key×D)} {e:List (Key×V)},KvsAt K μ H c e->KvsAt K μ H (c.map λa=>if a.1=k then (a.1,d) else a) (e.map λa=>if a.1=k then (a.1,v) else a)
 | _,_,.nil=>.nil
 | _,_,.cons (b:=b) ⟨h1,h2⟩ t=>by
  refine .cons ?_ (jI r t);by_cases f:b.1=k
  ·grind
  ·grind
theorem Paired.app:∀ {xs a:List α} {ys b:List β},Paired P xs ys->Paired P a b->Paired P (xs++a) (ys++b)
 | _,_,_,_,.nil,s=>s
 | _,_,_,_,.cons r t,s=>.cons r (Paired.app t s)
theorem iX {K:PySem.W.Frag} {μ:Mp} {H:Hp} {k:Key} {d:D} {v:V} {a:List (Key×D)} {b:List (Key×V)} (h:KvsAt K μ H a b) (r:RD K μ H d v):KvsAt K μ H (ki a k d) (u9 b k v):=by
 unfold ki u9;rw [jR h];split
 ·exact jI r h
 ·exact Paired.app h (.cons ⟨rfl,r⟩ .nil)
theorem KvsAt.later {K:PySem.W.Frag} {μ μ':Mp} {H H':Hp} {a:List (Key×D)} {b:List (Key×V)} (h:KvsAt K μ H a b) (l:Lat μ H μ' H'):KvsAt K μ' H' a b:=Paired.mono (λ_ _ ⟨z,w⟩=>⟨z,w.later l⟩) h
section
variable {X:Cx} {cl:Nat->Addr} {xe:Addr->Hp->Prop} {a b e:Expr} {es rest:List Expr} {pos:Pos} {f g k:Env->M D}
theorem BH (hu:X.A.units+1<cLine):AH X (λo i v H Q=>∃ μ S x y z,RD X.K μ H x o/\RD X.K μ H y i/\RD X.K μ H z v/\Rep X.K cl μ S H/\Post X.K cl xe μ H (K3 x y z S) λ_ _ _ H'=>Q H'):=by
 intro pins s σ H o i v ov iv u Q I ro ri rv ⟨μ,S,x,y,z,rx,ry,rz,rp,p⟩;cases rx with
 | ref h=>
  rename_i n a;have m:=FT h;simp only [K3] at p;cases q1:S[n]? with
  | none=>rw [q1] at p;exact p.elim
  | some ob=>
   rw [q1] at p;cases ob with
   | lst ds=>
    obtain ⟨xs,h1,h2⟩:=rp.ats n _ a q1 h;cases ry with
    | int j=>
     simp only at p;cases q2:ixN ds.length j with
     | none=>rw [q2] at p;exact p.elim
     | some t=>
      rw [q2] at p;refine nU pins s σ H _ _ v ov iv u Q I ro ri rv ⟨a,xs,j,t,rfl,rfl,h1,by rw [<- h2.length];exact q2,?_⟩;exact p μ _ (Lat.wrote m) (rp.wrote h ⟨_,b6,(h2.set rz t).later (Lat.wrote m)⟩)
    | _=>exact False.elim p
   | dct kvs=>
    obtain ⟨ks,h1,h2⟩:=rp.ats n _ a q1 h;cases q2:O1 y with
    | none=>rw [q2] at p;exact p.elim
    | some key=>
     rw [q2] at p;by_cases hl:kvs.length<sizeLine
     ·simp only [if_pos hl] at p;have hy:=bA ry q2;subst hy;cases ro;have hl2:ks.length<sizeLine:=by rw [<- Paired.length h2];exact hl
      refine mP hu I (DPut.k h1 hl2) ri rv λs' I'=>⟨_,I',?_⟩;exact p μ _ (Lat.wrote m) (rp.wrote h ⟨_,b6,(iX h2 rz).later (Lat.wrote m)⟩)
     ·simp only [if_neg hl] at p;exact p.elim
   | exc _ _=>exact p.elim
 | _=>exact False.elim p
theorem lP (h:E8 b=true):∀ v,assign (.Subscript a b p2) env v=(do
   let c <- holding [v] (eval a env)
   let d <- holding [v,c] (eval b env)
   standAt p2
   holding [v,c,d] (setItem c d v)
   release [v,c,d] []):=by
 intro v;cases b <;> first | rfl | (exact absurd h (by simp [E8]))
theorem nu (o:X.A.units+1<cLine) (L:PE X e (tD X.K cl xe f)) (J:PE X a (tD X.K cl xe g)) (I:PE X b (tD X.K cl xe k)) (s:m9 e=true) (u:E8 b=true) :
  PS X (.Assign [.Subscript a b n] e pos) (sD X.K cl xe λρ=>bind (f ρ) λv=>bind (g ρ) λx=>bind (k ρ) λy=>bind (K3 x y v) λ_=>ret (.nx ρ)):=
 PS.imp (nM L (xy J I (BH o) (lP u)) (by unfold swapsWithSole;exact D6 s) rfl rfl) λD σ H ⟨μ,S,ρ,c,z,p⟩=>
  ⟨μ,S,ρ,c,z,p.bind.imp λv S1 j P m r t vv F=>⟨j,S1,ρ,c.later m,r,t.bind.imp λx S2 μ2 T d N n R K=>⟨μ2,S2,ρ,(c.later m).later d,N,n.bind.imp λy M i Q l w E O q=>
   ⟨i,M,x,y,v,K.later l,q,(F.later d).later l,w,E.bind.imp λ_ U h B G C A=>A.ret h B (Lat.refl _ _) C σ ((((c.later m).later d).later l).later G)⟩⟩⟩⟩
def E5 (x:D) (ds:List D):M D:=match x,ds with
 | .ref n,[d]=>λS=>match S[n]? with
  | some (.lst es)=>if es.length<sizeLine then .ok .non (S.set n (.lst (es++[d]))) else .bad
  | _=>.bad
 | _,_=>bad
def M7 (es:List Expr):Bool:=decide (es.length<30)
theorem nj (b:es.all noStar=true) (a:M7 es=true):((backTo cpos (starEach es X.env)).all (λx=>!x.1)&&(backToKw cpos (keywordEach [] X.env)).all (λx=>x.1.isSome)&&decide (es.length+([]:List Keyword).length+(if ([]:List Keyword).isEmpty then 0 else 1)<30))=true:=by
 rw [bc b];simpa [keywordEach,backToKw] using Gg a
theorem mC (ho:PE X a (tD X.K cl xe f)) (ha:PA X (e :: es) (tDs X.K cl xe fs)) (hb:v8 a=true) (hs:(e :: es).all noStar=true) (hf:M7 (e :: es)=true) (hl:(apos.endLine==cpos.line)=true) :
  PE X (.Call (.Attribute a "append" apos) (e :: es) [] cpos) (tD X.K cl xe λρ=>bind (f ρ) λx=>bind (lstOf x) λ_=>bind (fs ρ) λds=>E5 x ds):=by
 have hs2:=hs;rw [Gy,FG] at hs2;refine PE.imp (wm JY PySem.F.slot_list_append PySem.F.type_list_append M8 ho ha (M5 hb) (nj hs hf) hl (c8 hs2.1) (i8 hs2.2)) λσ H Q ⟨μ,S,ρ,eo,rp,p⟩=>?_;refine ⟨μ,S,ρ,eo,rp,p.bind.imp λx S1 μ1 H1 l1 r1 p1 xv rx=>?_⟩;obtain ⟨a0,xs0,ds0,e0,h0,r0,q0⟩:=p6 rx r1 p1.bind;have p1:=p1.ok_bind q0;subst e0;refine ⟨.inl ⟨rfl,_,.inl (.inl h0)⟩,μ1,S1,ρ,eo.later l1,r1,p1.bind.imp λds S2 μ2 H2 l2 r2 p2 vs rvs=>?_⟩;have rx2:=rx.later l2;clear p1;cases rx2 with
 | ref h=>
  rename_i n
  match ds,rvs with
  | [],_=>exact False.elim p2
  | _ :: _ :: _,_=>exact False.elim p2
  | [d],rvs=>
   obtain ⟨v,rfl,rv⟩:=lT rvs;simp only [E5] at p2;cases q1:S2[n]? with
   | none=>rw [q1] at p2;exact p2.elim
   | some o=>
    rw [q1] at p2;cases o with
    | lst es=>
     obtain ⟨xs,h1,h2⟩:=r2.ats n _ _ q1 h;by_cases hl:es.length<sizeLine
     ·simp only [if_pos hl] at p2;have m:=FT h;refine ⟨_,xs,v,rfl,rfl,h1,by rw [<- h2.length];exact hl,?_⟩;exact p2 μ2 _ (Lat.wrote m) (r2.wrote h ⟨_,b6,(h2.append (.cons rv .nil)).later (Lat.wrote m)⟩) _ .non
     ·simp only [if_neg hl] at p2;exact p2.elim
    | dct _=>exact p2.elim
    | exc _ _=>exact p2.elim
 | _=>exact False.elim p2
end
def D0:List ((Env->M D)×(Env->M D))->Env->M (List (D×D))
 | [],_=>ret []
 | (f,g) :: r,ρ=>bind (f ρ) λx=>bind (g ρ) λy=>bind (D0 r ρ) λps=>ret ((x,y) :: ps)
def hD (c a:List (Key×D)):List (Key×D):=a.foldl (λb d=>ki b d.1 d.2) c
def cQ (p:D×D):Option (Key×D):=(O1 p.1).map λk=>(k,p.2)
def pg (ps:List (D×D)):M D:=λS=>match e6 cQ ps with
 | some a=>if a.length<=15 then .ok (.ref S.length) (S++[.dct (hD [] a)]) else .bad
 | none=>.bad
section
variable {K:PySem.W.Frag} {cl:Nat->Addr} {xe:Addr->Hp->Prop} {μ:Mp} {H:Hp} {S:Sto} {β:Type}
theorem cK:∀ {d:List (Key×D)} {ms:List (Key×V)} {c:List (Key×D)} {e:List (Key×V)},KvsAt K μ H d ms->KvsAt K μ H c e->KvsAt K μ H (hD c d) (O9 e ms)
 | _,_,_,_,.nil,h=>h
 | _,_,c,e,.cons (a:=a) (b:=b) ⟨h1,h2⟩ t,h=>by
  show KvsAt K μ H (hD (ki c a.1 a.2) _) (O9 (u9 e b.1 b.2) _);rw [h1];exact cK t (iX h h2)
abbrev RPs (K:PySem.W.Frag) (μ:Mp) (H:Hp):List (D×D)->List (V×V)->Prop:=Paired λx y=>RD K μ H x.1 y.1/\RD K μ H x.2 y.2
theorem bind_assoc (m:M α) (k:α->M β) (j:β->M γ):bind (bind m k) j=bind m λa=>bind (k a) j:=by
 funext S;unfold bind;grind
theorem h9 (a:α) (k:α->M β):bind (ret a) k=k a:=rfl
theorem X0 {ρ:Env} {σ:L2.St}:∀ {fks:List ((Env->M D)×(Env->M D))} {k:List (D×D)->M β} {G:β->Sto->Mp->Hp->Prop} {R:List (V×V)->Hp->Prop} {μ2:Mp} {c:Hp} {S2:Sto},Post K cl xe μ H (bind (D0 fks ρ) k S2) G->HLat μ H p μ2 c->p∉μ2.pl->c p=some o->EnvOk K μ2 c ρ σ->Rep K cl μ2 S2 c ->
  (∀ ps d a j ds,HLat μ H p a d->p∉a.pl->d p=some o->Rep K cl a j d->Lat μ2 c a d->RPs K a d ds ps->Post K cl xe μ H (k ds j) G->R ps d)->dn (fks.map λz=>(tD K cl xe z.1,tD K cl xe z.2)) σ c R
 | [],k,G,R,μ2,c,S2,h,l,n,e,i,s,q=>q [] c μ2 S2 [] l n e s (Lat.refl _ _) .nil h
 | (f,g) :: r,k,G,R,μ2,c,S2,h,l,n,e,i,s,q=>by
  have S:Post K cl xe μ H (bind (f ρ) (λx=>bind (g ρ) λy=>bind (D0 r ρ) λps=>k ((x,y) :: ps)) S2) G:=by
   have:bind (D0 ((f,g) :: r) ρ) k=bind (f ρ) (λx=>bind (g ρ) λy=>bind (D0 r ρ) λps=>k ((x,y) :: ps)):=by
    show bind (bind (f ρ) λx=>bind (g ρ) λy=>bind (D0 r ρ) λps=>ret ((x,y) :: ps)) k=_;simp only [bind_assoc,h9]
   rw [<- this];exact h
  refine ⟨μ2,S2,ρ,i,s,(S.at l).imp λx j a d t T C N I=>?_⟩;refine ⟨a,j,ρ,i.later t,T,(C.at (l.step t)).imp λy S4 Y Z A P L U F=>?_⟩;have b:=t.trans A;have O:=b.oth _ _ e n;refine X0 L (l.step b) (b.out e n) O (i.later b) P λps E m B ds w W X J u v Q=>?_;exact q ((N,U) :: ps) E m B ((x,y) :: ds) w W X J (b.trans u) (.cons ⟨(I.later A).later u,F.later u⟩ v) Q
theorem gG {p:Addr} {u:HO} {ob:O} {rs:List Addr} {kz:List (Key×V)} (er:μ.rs=p :: rs) (nr:p∉rs) (hp:H p=some (.dK kz)) (rp:Rep K cl μ S H) (ho:OAt K cl ⟨μ.pl++[p],rs⟩ (upd H p u) p ob):Rep K cl ⟨μ.pl++[p],rs⟩ (S++[ob]) (upd H p u):=by
 have np:p∉μ.pl:=(rp.res p (by rw [er];exact FO)).1;have hp':∀ (n:Nat) (a:Addr),μ.pl[n]?=some a->(μ.pl++[p])[n]?=some a:=λn a e=>by rw [FI (Fv.mp e).1];exact e
 have ho':∀ a w,H a=some w->a∉μ.pl->a∉μ.rs->upd H p u a=some w/\a∉(⟨μ.pl++[p],rs⟩:Mp).pl/\a∉(⟨μ.pl++[p],rs⟩:Mp).rs:=λa w e n1 n2=>by
  have ne:a≠p:=λz=>n2 (by rw [er,z];exact FO);refine ⟨by rw [a8 ne];exact e,λz=>?_,λz=>n2 (by rw [er];exact FQ _ z)⟩;rcases Gh.mp z with z | z
  ·exact n1 z
  ·exact ne (Gb.mp z)
 refine ⟨by simp [rp.len],?_,λn o a e1 e2=>?_,λa m=>?_⟩
 ·show (μ.pl++[p]).Nodup;rw [IP];exact ⟨rp.nd,by simp,λa m b m2=>by rw [Gb.mp m2];rintro rfl;exact np m⟩
 ·have e2:(μ.pl++[p])[n]?=some a:=e2;by_cases hn:n<S.length
  ·rw [FI hn] at e1;rw [FI (by rw [rp.len];exact hn)] at e2;have h:=rp.ats n o a e1 e2;have ka:upd H p u a=H a:=a8 λz=>np (z▸FT e2);cases o with
   | lst ds=>obtain ⟨xs,e,q⟩:=h;exact ⟨xs,by rw [ka];exact e,q.move hp' ho'⟩
   | dct kvs=>obtain ⟨xs,e,q⟩:=h;exact ⟨xs,by rw [ka];exact e,Paired.mono (λ_ _ ⟨z,w⟩=>⟨z,w.move hp' ho'⟩) q⟩
   | exc c fs=>
    obtain ⟨xc,gs,q,fr,h⟩:=h;refine ⟨xc,gs,Paired.mono (λ_ _ ⟨z,w⟩=>⟨z,w.move hp' ho'⟩) q,fr,?_⟩;rcases h with ⟨z,e⟩ | ⟨d,h1,h2,e,e3⟩
    ·exact .inl ⟨z,by rw [ka];exact e⟩
    ·have ne:d≠p:=jc e3 hp (by intro z;cases z);refine .inr ⟨d,h1,λz=>?_,by rw [ka];exact e,by rw [a8 ne];exact e3⟩;rcases Gh.mp z with z | z
     ·exact h2 z
     ·exact ne (Gb.mp z)
  ·have hn2:n=S.length:=by
    have:=(Fv.mp e1).1;simp at this;omega
   subst hn2;rw [<- rp.len] at e2;simp at e1 e2;subst e1;subst e2;exact ho
 ·have m:a∈rs:=m;obtain ⟨h1,w,h2⟩:=rp.res a (by rw [er];exact FQ _ m);have ne:a≠p:=λz=>nr (z▸m);refine ⟨λz=>?_,w,by rw [a8 ne];exact h2⟩;rcases Gh.mp z with z | z
  ·exact h1 z
  ·exact ne (Gb.mp z)
theorem bK:∀ {ds:List (D×D)} {ps:List (V×V)} {c:List (Key×D)},RPs K μ H ds ps->e6 cQ ds=some c->∃ f:List (Key×V),KvsAt K μ H c f/\ps=f.map (λg=>(kV g.1,g.2))
 | _,_,c,.nil,e=>by cases e;exact ⟨[],.nil,rfl⟩
 | _,_,c,.cons (a:=a) (b:=b) ⟨h1,h2⟩ t,e=>by
  simp only [e6] at e;cases d:cQ a with
  | none=>rw [d] at e;cases e
  | some g=>
   rename_i m q;cases h:e6 cQ m with
   | none=>rw [d,h] at e;cases e
   | some j=>
    rw [d,h] at e;cases e;obtain ⟨f,o,n⟩:=bK t h;unfold cQ at d;cases i:O1 a.1 with
    | none=>grind
    | some k=>
     rw [i] at d;cases d;have:=bA h1 i;obtain ⟨p,l⟩:=b;subst this;exact ⟨(k,l) :: f,.cons ⟨rfl,h2⟩ o,by rw [n];rfl⟩
end
section
variable {X:Cx} {cl:Nat->Addr} {xe:Addr->Hp->Prop} {pos:Pos}
theorem tz (h:PPs X pos keys values (fks.map λy=>(tD X.K cl xe y.1,tD X.K cl xe y.2))) (j:keys.all (·.isSome)=true) (I:keys.length=values.length) (O:keys≠[]) (f:keys.length<=15) :
  PE X (.Dict keys values pos) (tD X.K cl xe λρ=>bind (D0 fks ρ) pg):=PE.imp (ve h j I O f) λσ H Q ⟨μ,S,ρ,M,l,P⟩=>by
 intro p i;have q:=l.notrs i;refine X0 (μ2:=μ.hold p) P ?_ (l.notin i) b6 (T7 l i M) (U5 l i) λps A c R ds b L C E U t g=>?_
 ·refine ⟨⟨λ_ _ e=>e,λa o e _=>by rw [a8 (b9 e i)];exact e,λa m=>.inl m,λa m=>?_⟩,rfl⟩;rcases FP.mp (m) with rfl | m
  ·exact .inr i
  ·exact .inl m
 ·simp only [pg] at g;cases s:e6 cQ ds with
  | none=>rw [s] at g;exact g.elim
  | some x=>
   rw [s] at g;by_cases f:x.length<=15
   ·simp only [if_pos f] at g;obtain ⟨K,B,G⟩:=bK t s;refine ⟨C,K,G,by rw [<- Paired.length B];exact f,?_⟩;have W:=L;have k:∀ (n:Nat) (a:Addr),c.pl[n]?=some a->(c.pl++[p])[n]?=some a:=λn a e=>by rw [FI (Fv.mp e).1];exact e
    have N:∀ {u:HO} {d:D} {v:V},RD X.K c A d v->RD X.K ⟨c.pl++[p],μ.rs⟩ (upd A p u) d v:=λr=>r.move k λa w e J F=>by
     have T:a≠p:=λz=>F (by rw [b.rs,z];exact FO);refine ⟨by rw [a8 T];exact e,λz=>?_,λz=>F (by rw [b.rs];exact FQ _ z)⟩;rcases Gh.mp z with z | z
     ·exact J z
     ·grind
    refine g ⟨c.pl++[p],μ.rs⟩ _ ?_ (gG b.rs q C E ⟨_,b6,cK (Paired.mono (λ_ _ ⟨z,w⟩=>⟨z,N w⟩) B) .nil⟩) _ (.ref ?_)
    ·refine ⟨λn a e=>k n a (b.r.pre n a e),λa o e n=>?_,λa m=>?_,rfl⟩
     ·rw [a8 (b9 e i)];exact b.r.oth a o e n
     ·rcases Gh.mp (m) with m | m
      ·exact b.r.new a m
      ·grind
    ·show (c.pl++[p])[R.length]?=some p;rw [<- E.len];simp
   ·simp only [if_neg f] at g;exact g.elim
end
def A9 (S:Sto) (d:D):Bool:=match d8 64 S d with
 | some p=>decide (Shows p)&&decide (p.shown.length<=4000)&&(match d with
  | .str x=>decide (x.length<=4000)
  | _=>true)
 | none=>false
def N7 (c:Nat) (fs:List Str) (ds:List D):M D:=λS=>if ds.length=fs.length/\ds.all (A9 S)=true then .ok (.ref S.length) (S++[.exc c (fs.zip ds)]) else .bad
def qP (c:Nat) (ds:List D):M D:=λS=>match ds with
 | [_]=>.ok (.ref S.length) (S++[.exc c []])
 | _=>.bad
theorem iE {K:PySem.W.Frag} {cl:Nat->Addr} {μ:Mp} {H:Hp} {S:Sto} {d:D} {v:V} (rp:Rep K cl μ S H) (r:RD K μ H d v) (h:A9 S d=true):∃ p,Hn.Fmt K H v p:=by
 unfold A9 at h;cases e:d8 64 S d with
 | none=>rw [e] at h;cases h
 | some p=>
  rw [e] at h;simp at h;refine ⟨p,q5 rp 64 e r,h.1.1,h.1.2,λx ex=>?_⟩;subst ex;cases r with
  | str _=>grind
def Db (K:PySem.W.Frag) (H:Hp) (v:V):Prop:=∃ x C d,v=.ref x/\XC K C/\H x=some (P5 x C d)
def tDf (K:PySem.W.Frag) (cl:Nat->Addr) (xe:Addr->Hp->Prop) (f:Env->M D):TE:=λσ H Q=>∃ μ S ρ,EnvOk K μ H ρ σ/\Rep K cl μ S H/\Post K cl xe μ H (f ρ S) λd _ μ' H'=>∀ v,RD K μ' H' d v->Db K H' v->Q v H'
theorem PE.unf {e:Expr} {f:Env->M D} (h:PE X e (tDf X.K cl xe f)):PE X e (tD X.K cl xe f):=PE.imp h λσ H Q ⟨μ,S,ρ,g,b,P⟩=>⟨μ,S,ρ,g,b,P.imp λd S1 a k l j c v i _=>c v i⟩
section
variable {X:Cx} {cl:Nat->Addr} {xe:Addr->Hp->Prop} {e:Expr} {es:List Expr} {pos:Pos} {fs:Env->M (List D)}
theorem iz {K:PySem.W.Frag} {μ:Mp} {H H':Hp} {S:Sto} {c:Nat} {x:Addr} {gs:List (Str×V)} {ds:List (Str×D)} (b:Rep K cl μ S H) (f:H x=none) (M:XC K (cl c)) (g:Hn.Got (upd H x (P5 x (cl c) none)) x (cl c) gs H') (r:∀ {μ':Mp} {H':Hp},Lat μ H μ' H'->iA K μ' H' ds gs) :
  Lat μ H (μ.push x) H'/\Rep K cl (μ.push x) (S++[.exc c ds]) H'/\RD K (μ.push x) H' (.ref S.length) (.ref x):=by
 obtain ⟨d,hd,h,n,j,m⟩:=g;rw [a8 h] at hd;have k:∀ a u,H a=some u->H' a=some u:=λa u e=>by
  have i:=b9 e f;have o:=b9 e hd;rw [m a i o,a8 i];exact e
 have l:=Lat.pushed (μ:=μ) f k;refine ⟨l,b.pushed f k ⟨M,gs,r l,none,.inr ⟨d,h,λz=>?_,n,j⟩⟩,.ref ?_⟩
 ·rcases Gh.mp (z) with z | z
  ·exact b.notin hd z
  ·grind
 ·show (μ.pl++[x])[S.length]?=some x;rw [<- b.len];simp
theorem pw {k:Nat} {f:Addr} {fd:FuncData} {ps:List Str} {E:XK} {CX:CXT} {nm g:Str} {p:Pos} {c:Nat} (M:XC X.K (cl c)) (na:t8 X.K (cl c) g) (hi:PySem.W.findIn X.K (.ref (cl c)) "__init__" = some (some (.ref f))) (hf:PySem.W.isFn X.K (.ref f)=true) (F:FnOk X.prog X.w X.K X.mg X.base CX k f fd ps (Hn.sp1 X.K g)) (hr:Room CX.q (k+1) X.A) (hg:Gl X nm) (hm:X.mg nm=some (.ref (cl c))) (hb:Binds X.K fd ps []) (hx:v3 CX X E)
  (ha:PA X (e :: es) (tDs X.K cl xe fs)) (hdb:(nm==("__debug__" : Str))=false) (hs:(e :: es).all noStar=true):PE X (.Call (.Name nm p) (e :: es) [] pos) (tDf X.K cl xe λρ=>bind (fs ρ) (N7 c [g])):=by
 rw [Gy,FG] at hs;refine PE.imp (aV M hi hf F hr hg hm hb hx ha hdb (c8 hs.1) (i8 hs.2)) λσ H Q ⟨μ,S,ρ,eo,rp,P⟩=>?_;refine ⟨μ,S,ρ,eo,rp,P.bind.imp λds S1 μ1 H1 l1 r1 p1 vs rvs=>?_⟩;unfold N7 at p1;by_cases hc:ds.length=[g].length/\ds.all (A9 S1)=true
 ·rw [if_pos hc] at p1
  match ds,hc,rvs,p1 with
  | [d],hc,rvs,p1=>
   obtain ⟨v,rfl,rv⟩:=lT rvs;obtain ⟨q,ft⟩:=iE r1 rv (by simpa using hc.2);refine ⟨by show 1<=1000;decide,λx hx=>⟨x,v,cl c,q,rfl,M,na,b6,ft.laid hx,λH' got=>⟨rfl,?_⟩⟩⟩;obtain ⟨l2,r2,rd2⟩:=iz (c:=c) (ds:=[(g,d)]) r1 hx M got λl=>.cons ⟨rfl,rv.later l⟩ .nil;obtain ⟨d0,_,_,g1,_⟩:=id got;exact p1 _ _ l2 r2 _ rd2 ⟨x,cl c,_,rfl,M,g1⟩
  | [],hc,_,_=>exact absurd hc.1 (by simp)
  | _ :: _ :: _,hc,_,_=>exact absurd hc.1 (by simp)
 ·rw [if_neg hc] at p1;exact p1.elim
theorem pK {k:Nat} {f:Addr} {fd:FuncData} {ps:List Str} {E:XK} {CX:CXT} {nm g g2:Str} {p:Pos} {c:Nat} (M:XC X.K (cl c)) (na:t8 X.K (cl c) g) (nb:t8 X.K (cl c) g2) (hi:PySem.W.findIn X.K (.ref (cl c)) "__init__" = some (some (.ref f))) (hf:PySem.W.isFn X.K (.ref f)=true) (F:FnOk X.prog X.w X.K X.mg X.base CX k f fd ps (Hn.sp2 X.K g g2)) (hr:Room CX.q (k+1) X.A) (hg:Gl X nm) (hm:X.mg nm=some (.ref (cl c))) (hb:Binds X.K fd ps []) (hx:v3 CX X E)
  (ha:PA X (e :: es) (tDs X.K cl xe fs)) (hdb:(nm==("__debug__" : Str))=false) (hs:(e :: es).all noStar=true):PE X (.Call (.Name nm p) (e :: es) [] pos) (tDf X.K cl xe λρ=>bind (fs ρ) (N7 c [g,g2])):=by
 rw [Gy,FG] at hs;refine PE.imp (aV M hi hf F hr hg hm hb hx ha hdb (c8 hs.1) (i8 hs.2)) λσ H Q ⟨μ,S,ρ,eo,rp,P⟩=>?_;refine ⟨μ,S,ρ,eo,rp,P.bind.imp λds S1 μ1 H1 l1 r1 p1 vs rvs=>?_⟩;unfold N7 at p1;by_cases hc:ds.length=[g,g2].length/\ds.all (A9 S1)=true
 ·rw [if_pos hc] at p1
  match ds,hc,rvs,p1 with
  | [d,d2],hc,rvs,p1=>
   cases rvs with
   | cons rv t=>
    obtain ⟨v2,rfl,rv2⟩:=lT t;rename_i v;have hc2:A9 S1 d=true/\A9 S1 d2=true:=by simpa using hc.2
    obtain ⟨q,ft⟩:=iE r1 rv hc2.1;obtain ⟨q2,ft2⟩:=iE r1 rv2 hc2.2;refine ⟨by show 2<=1000;decide,λx hx=>⟨x,v,v2,cl c,q,q2,rfl,M,na,nb,b6,ft.laid hx,ft2.laid hx,λH' got=>⟨rfl,?_⟩⟩⟩;obtain ⟨l2,r2,rd2⟩:=iz (c:=c) (ds:=[(g,d),(g2,d2)]) r1 hx M got λl=>.cons ⟨rfl,rv.later l⟩ (.cons ⟨rfl,rv2.later l⟩ .nil);obtain ⟨d0,_,_,g1,_⟩:=id got;exact p1 _ _ l2 r2 _ rd2 ⟨x,cl c,_,rfl,M,g1⟩
  | [],hc,_,_=>exact absurd hc.1 (by simp)
  | [_],hc,_,_=>exact absurd hc.1 (by simp)
  | _ :: _ :: _ :: _,hc,_,_=>exact absurd hc.1 (by simp)
 ·rw [if_neg hc] at p1;exact p1.elim
theorem qK {f:Addr} {fd:FuncData} {ps:List Str} {E:XK} {CX:CXT} {j:Str} {p:Pos} {c:Nat} (M:XC X.K (cl c)) (B:PySem.W.findIn X.K (.ref (cl c)) "__init__" = some (some (.ref f))) (A:PySem.W.isFn X.K (.ref f)=true) (F:FnOk X.prog X.w X.K X.mg X.base CX k f fd ps (Hn.spHE X.K)) (y:Room CX.q (k+1) X.A) (w:Gl X j) (s:X.mg j=some (.ref (cl c))) (t:Binds X.K fd ps []) (i:v3 CX X E)
  (r:PA X (e :: es) (tDs X.K cl xe fs)) (m:(j==("__debug__" : Str))=false) (hs:(e :: es).all noStar=true):PE X (.Call (.Name j p) (e :: es) [] pos) (tDf X.K cl xe λρ=>bind (fs ρ) (qP c)):=by
 rw [Gy,FG] at hs;refine PE.imp (aV M B A F y w s t i r m (c8 hs.1) (i8 hs.2)) λσ H Q ⟨μ,S,ρ,z,q,P⟩=>?_;refine ⟨μ,S,ρ,z,q,P.bind.imp λds S1 h o D n b vs g=>?_⟩
 match ds,g,b with
 | [d],g,b=>
  obtain ⟨v,rfl,C⟩:=lT g;refine ⟨by show 1<=1000;decide,λx i=>⟨x,v,cl c,none,rfl,M,b6,rfl,?_⟩⟩;have k:∀ a u,o a=some u->upd o x (P5 x (cl c) none) a=some u:=λa u e=>by rw [a8 (b9 e i)];exact e
  have l:=Lat.pushed (μ:=h) i k;refine b _ _ l (n.pushed i k ⟨M,[],.nil,none,.inl ⟨rfl,b6⟩⟩) _ (.ref ?_) ⟨x,cl c,_,rfl,M,b6⟩;show (h.pl++[x])[S1.length]?=some x;rw [<- n.len];simp
 | [],_,b=>exact b.elim
 | _ :: _ :: _,_,b=>exact b.elim
def bI (g:Str) (d:D):M D:=match d with
 | .ref n=>λS=>match S[n]? with
  | some (.exc _ fs)=>match fs.lookup g with
   | some v=>.ok v S
   | none=>.bad
  | _=>.bad
 | _=>bad
theorem cT {K:PySem.W.Frag} {μ:Mp} {H:Hp} {g:Str} {d:D}:∀ {fs:List (Str×D)} {gs:List (Str×V)},iA K μ H fs gs->fs.lookup g=some d->∃ v,gs.lookup g=some v/\RD K μ H d v
 | _,_,.nil,e=>by cases e
 | _,_,.cons (a:=a) (b:=b) ⟨c,h2⟩ t,e=>by
  obtain ⟨h,k⟩:=a;obtain ⟨i,j⟩:=b;have c:=c;subst c;rw [HJ] at e ⊢;cases f:g==h with
  | true=>grind
  | false=>rw [f] at e;exact cT t e
theorem yL (hn:∀ c,XC X.K (cl c)->t8 X.K (cl c) g) (h:PE X e (tD X.K cl xe f)) (hb:v8 e=true):PE X (.Attribute e g pos) (tD X.K cl xe λρ=>bind (f ρ) (bI g)):=PE.imp (vO h (M5 hb)) λσ H Q ⟨μ,S,ρ,eo,rp,p⟩=>
 ⟨μ,S,ρ,eo,rp,p.bind.imp λd S1 μ1 H1 l1 r1 p1 v rv=>by
  cases rv with
  | ref h=>
   rename_i n a;simp only [bI] at p1;cases q1:S1[n]? with
   | none=>rw [q1] at p1;exact p1.elim
   | some o=>
    rw [q1] at p1;cases o with
    | exc c fs=>
     simp only at p1;obtain ⟨xc,gs,r,fr,h2⟩:=r1.ats n _ a q1 h;cases q2:fs.lookup g with
     | none=>rw [q2] at p1;exact p1.elim
     | some w=>
      rw [q2] at p1;obtain ⟨v,e1,r3⟩:=cT r q2;rcases h2 with ⟨z,e⟩ | ⟨d,n1,n2,e,e2⟩
      ·subst z;cases e1
      ·exact ⟨fr,a,cl c,d,gs,v,rfl,xc,hn c xc,e,e2,e1,p1 μ1 H1 (Lat.refl _ _) r1 _ r3⟩
    | lst _=>exact p1.elim
    | dct _=>exact p1.elim
  | _=>exact False.elim p1⟩
end
def tys:List String:=["NoneType","bool","int","str","tuple","list","dict"]
def subT (t T:String):Bool:=t==T||(t == "bool" && T == "int")
theorem tY (K:PySem.W.Frag):∀ t∈tys,∀ T∈tys,PySem.W.kitOne K (.type t) (.type T)=some (subT t T):=by
 intro t a T b;simp only [tys,FP,Hc,JC] at a b;rcases a with rfl | rfl | rfl | rfl | rfl | rfl | rfl <;> rcases b with rfl | rfl | rfl | rfl | rfl | rfl | rfl <;> kernel_rfl
def tyD (S:Sto) (d:D):Option String:=match d with
 | .non=>some "NoneType"
 | .bl _=>some "bool"
 | .int _=>some "int"
 | .str _=>some "str"
 | .tup _=>some "tuple"
 | .lst _=>some "list"
 | .scr _=>some "list"
 | .ref n=>match S[n]? with
  | some (.lst _)=>some "list"
  | some (.dct _)=>some "dict"
  | _=>none
def G8 (T:String) (sx:Nat->Bool) (d:D):M D:=λS=>match tyD S d with
 | some t=>.ok (.bl (subT t T)) S
 | none=>match d with
  | .ref n=>match S[n]? with
   | some (.exc c _)=>.ok (.bl (sx c)) S
   | _=>.bad
  | _=>.bad
def t7 (sx:Nat->Bool) (d:D):M D:=λS=>match d with
 | .ref n=>match S[n]? with
  | some (.exc c _)=>.ok (.bl (sx c)) S
  | _=>.bad
 | _=>.bad
section
variable {X:Cx} {cl:Nat->Addr} {xe:Addr->Hp->Prop} {a:Expr} {pos p q:Pos} {f:Env->M D}
theorem jw {sx:Nat->Bool} (j:DV T=some c0) (g:∀ c,XC X.K (cl c)->PySem.W.kitOne X.K (.ref (cl c)) c0=some (sx c)) {pins:List (Addr×Obj)} {s:Shared} {σ:L2.St} {H:Hp} {us:List Value} {Q:VK} {μ:Mp} {S:Sto} {n:Nat} {b:Addr} {c:Nat} {fs:List (Str×D)} (I:L2.Inv X pins σ H s) (r:Vals [.ref b,T] us)
  (l:Rep X.K cl μ S H) (e:S[n]?=some (.exc c fs)) (h:μ.pl[n]?=some b) (q:Q (.bl (sx c)) H):wpAny (model X.prog X.w) X.A (call (.builtin "isinstance") us) (EP X pins σ Q) X.xe s:=by
 obtain ⟨a,gs,p,i,k⟩:=l.ats n _ b e h;rcases k with ⟨z,f⟩ | ⟨d,o,t,f,m⟩
 ·exact ck pins s σ H _ us Q I r ⟨i,b,cl c,none,T,c0,sx c,rfl,a,f,λ_ z=>(nomatch z),j,g c a,q⟩
 ·exact ck pins s σ H _ us Q I r ⟨i,b,cl c,some d,T,c0,sx c,rfl,a,f,λd' z=>by cases z;exact ⟨gs,m⟩,j,g c a,q⟩
theorem lK (hT:T∈tys) {pins:List (Addr×Obj)} {s:Shared} {σ:L2.St} {H:Hp} {us:List Value} {Q:VK} {μ:Mp} {S:Sto} {d:D} {v:V} {t:String} (I:L2.Inv X pins σ H s) (r:Vals [v,.ty T] us) (rd:RD X.K μ H d v) (rp:Rep X.K cl μ S H) (e:tyD S d=some t)
  (q:Q (.bl (subT t T)) H):wpAny (model X.prog X.w) X.A (call (.builtin "isinstance") us) (EP X pins σ Q) X.xe s:=by
 obtain ⟨u,u2,rfl,ru,ru2⟩:=iZ r;cases (ru2);have ht:t∈tys:=by
  cases d <;> simp only [tyD] at e <;> first
   | (cases e;decide)
   | (split at e <;> first | (cases e;decide) | cases e)
 have hk:=tY X.K t ht T hT;have fin:∀ tk,EP X pins σ Q (.bool (subT t T)) { s with toks:=tk }:=λtk=>⟨.bl _,H,I.tok _,rfl,q⟩;have tupT:∀ {b:Addr} {xs:List V},SqT X.K H b xs->u=.ref b->t = "tuple"->wpAny (model X.prog X.w) X.A (call (.builtin "isinstance") [u,.type T]) (EP X pins σ Q) X.xe s:=λ{b xs} h eu et=>by
  subst eu et;obtain ⟨its,_,⟨o,h1,h2,_⟩,_⟩:=I.tuple h;exact Hg PySem.W.kitx_tuple I.kIn ⟨o,h1,h2⟩ hk (λz=>nomatch z) fin
 have lstT:∀ {b:Addr} {xs:List V},SqL X.K H b xs->u=.ref b->t = "list"->wpAny (model X.prog X.w) X.A (call (.builtin "isinstance") [u,.type T]) (EP X pins σ Q) X.xe s:=λ{b xs} h eu et=>by
  subst eu et;obtain ⟨its,_,⟨o,n,h1,h2,_⟩,_⟩:=I.list h;exact Hg PySem.W.kitx_list I.kIn ⟨o,h1,h2⟩ hk (λz=>nomatch z) fin
 cases rd with
 | non=>cases (ru);cases e;exact Hg PySem.W.kitx_none I.kIn True.intro hk (λz=>nomatch z) fin
 | bl b=>cases (ru);cases e;exact Hg PySem.W.kitx_bool I.kIn True.intro hk (λz=>nomatch z) fin
 | int i=>obtain ⟨tk,q⟩:=(ru);cases q;cases e;exact Hg PySem.W.kitx_int I.kIn True.intro hk (λz=>nomatch z) fin
 | str x=>obtain ⟨tk,q⟩:=(ru);cases q;cases e;exact Hg PySem.W.kitx_str I.kIn True.intro hk (λz=>nomatch z) fin
 | tup h r=>cases e;exact tupT h.sq ru rfl
 | lst h r=>cases e;exact lstT h.sq ru rfl
 | scr h r=>cases e;exact lstT h.sq ru rfl
 | ref h=>
  rename_i n b;simp only [tyD] at e;cases q1:S[n]? with
  | none=>rw [q1] at e;cases e
  | some o=>
   rw [q1] at e;cases o with
   | lst ds=>
    cases e;obtain ⟨xs,h1,h2⟩:=rp.ats n _ b q1 h;exact lstT (.inl (.inl h1)) ru rfl
   | dct kvs=>
    cases e;obtain ⟨ks,h1,h2⟩:=rp.ats n _ b q1 h;cases (ru);obtain ⟨_,_,vs,_,pp⟩:=(I.hok b _ h1);obtain ⟨o,es,ep,g1,g2,_⟩:=pp;exact Hg PySem.W.kitx_dict I.kIn ⟨o,g1,g2.1⟩ hk (λz=>nomatch z) fin
   | exc _ _=>cases e
theorem jt {T:String} {sx:Nat->Bool} (hT:T∈tys\/T = "ValueError") (hk:∀ c,XC X.K (cl c)->PySem.W.kitOne X.K (.ref (cl c)) (.type T)=some (sx c)) (h:PE X a (tD X.K cl xe f)) (hg:Gl X "isinstance") (hm:X.mg "isinstance" = none) (hg2:Gl X x) (hm2:X.mg x=none) (hv:bootBuiltins x=some (.type T)) (hn:x ≠ "__name__") (hd:(x==("__debug__" : Str))=false) (hs:noStar a=true) :
  PE X (.Call (.Name "isinstance" p) [a,.Name x q] [] pos) (tD X.K cl xe λρ=>bind (f ρ) λd=>if T∈tys then G8 T sx d else t7 sx d):=by
 have key:i5 X (.builtin "isinstance") (λvs H Q=>∃ μ S d v,vs=[v,.ty T]/\RD X.K μ H d v/\Rep X.K cl μ S H/\Post X.K cl xe μ H ((if T∈tys then G8 T sx d else t7 sx d) S) λr _ μ' H'=>∀ v,RD X.K μ' H' r v->Q v H'):=by
  intro pins s σ H xs us Q I r ⟨μ,S,d,v,ev,rd,rp,P⟩;subst ev;have ex:∀ {n:Nat} {b:Addr} {c:Nat} {fs:List (Str×D)},v=.ref b->S[n]?=some (.exc c fs)->μ.pl[n]?=some b->Q (.bl (sx c)) H->wpAny (model X.prog X.w) X.A (call (.builtin "isinstance") us) (EP X pins σ Q) X.xe s:=λ{n b c fs} ev e h q=>by
   subst ev;exact jw rfl hk I r rp e h q
  by_cases ht:T∈tys
  ·rw [if_pos ht] at P;unfold G8 at P;cases e:tyD S d with
   | some t=>rw [e] at P;exact lK ht I r rd rp e (P μ H (Lat.refl _ _) rp _ (.bl _))
   | none=>
    rw [e] at P;cases rd with
    | ref h=>
     rename_i n b;simp only at P;cases q1:S[n]? with
     | none=>rw [q1] at P;exact P.elim
     | some o=>
      rw [q1] at P;cases o with
      | exc c fs=>exact ex rfl q1 h (P μ H (Lat.refl _ _) rp _ (.bl _))
      | lst _=>exact P.elim
      | dct _=>exact P.elim
    | _=>exact False.elim P
  ·rw [if_neg ht] at P;unfold t7 at P;cases rd with
   | ref h=>
    rename_i n b;simp only at P;cases q1:S[n]? with
    | none=>rw [q1] at P;exact P.elim
    | some o=>
     rw [q1] at P;cases o with
     | exc c fs=>exact ex rfl q1 h (P μ H (Lat.refl _ _) rp _ (.bl _))
     | lst _=>exact P.elim
     | dct _=>exact P.elim
   | _=>exact False.elim P
 have hb:PE X (.Name x q) (tC (.ty T)):=sY hg2 hm2 hv rfl hn hd;refine PE.imp (Q8 key hg hm (by rfl) (f7 h (f7 hb A1 (c8 rfl)) (c8 hs)) (by decide) (by decide) (c8 hs) (i8 rfl)) λσ H Q ⟨μ,S,ρ,eo,rp,P⟩=>?_;exact ⟨μ,S,ρ,eo,rp,P.bind.imp λd S1 μ1 H1 l1 r1 p1 v rv=>⟨μ1,S1,d,v,rfl,rv,r1,p1⟩⟩
theorem vK {c0:Nat} {sx:Nat->Bool} (hk:∀ c,XC X.K (cl c)->PySem.W.kitOne X.K (.ref (cl c)) (.ref (cl c0))=some (sx c)) (h:PE X a (tD X.K cl xe f)) (hg:Gl X "isinstance") (hm:X.mg "isinstance" = none) (hg2:Gl X x) (hm2:X.mg x=some (.ref (cl c0))) (hd:(x==("__debug__" : Str))=false) (hs:noStar a=true) :
  PE X (.Call (.Name "isinstance" p) [a,.Name x q] [] pos) (tD X.K cl xe λρ=>bind (f ρ) λd=>t7 sx d):=by
 have key:i5 X (.builtin "isinstance") (λvs H Q=>∃ μ S d v,vs=[v,.ref (cl c0)]/\RD X.K μ H d v/\Rep X.K cl μ S H/\Post X.K cl xe μ H (t7 sx d S) λr _ μ' H'=>∀ v,RD X.K μ' H' r v->Q v H'):=by
  intro pins s σ H xs us Q I r ⟨μ,S,d,v,ev,rd,rp,P⟩;subst ev;unfold t7 at P;cases rd with
  | ref h=>
   rename_i n b;simp only at P;cases q1:S[n]? with
   | none=>rw [q1] at P;exact P.elim
   | some o=>
    rw [q1] at P;cases o with
    | exc c fs=>exact jw rfl hk I r rp q1 h (P μ H (Lat.refl _ _) rp _ (.bl _))
    | lst _=>exact P.elim
    | dct _=>exact P.elim
  | _=>exact False.elim P
 have hb:PE X (.Name x q) (tC (.ref (cl c0))):=dk hg2 hm2 rfl hd;refine PE.imp (Q8 key hg hm (by rfl) (f7 h (f7 hb A1 (c8 rfl)) (c8 hs)) (by decide) (by decide) (c8 hs) (i8 rfl)) λσ H Q ⟨μ,S,ρ,eo,rp,P⟩=>?_;exact ⟨μ,S,ρ,eo,rp,P.bind.imp λd S1 μ1 H1 l1 r1 p1 v rv=>⟨μ1,S1,d,v,rfl,rv,r1,p1⟩⟩
end
theorem gU (a:List Bool):(List.range a.length).map (λi=>a.getD i false)=a:=by
 apply IZ
 ·simp
 ·grind
theorem ku (a:List Bool):(List.range a.length).all (λi=>a.getD i false)=a.all id:=by
 conv=>rhs;rw [<- gU a,List.all_map]
 rfl
section
variable {X:Cx}
theorem ek {c:List Bool} {d:List Value} (r:Vals (c.map V.bl) d):TruthOf X.prog X.w A (λi v=>d.toArray[i]?=some v) (λi=>c.getD i false):=by
 intro i v s Q E e h;rw [HW] at e;have g:i<c.length:=by
  have a:=r.length;rw [Fu] at a;have b:=(Fv.mp e).1;omega
 obtain ⟨u,f,j⟩:=Vals.get r (by rw [FY,Fy g];rfl);rw [e] at f;cases f;cases j;have:c.getD i false=c[i]:=by simp [g]
 exact HX (this▸h)
theorem fy (g:X.calm=true):i5 X (.builtin "all") (λxs H Q=>∃ (p:Addr) (a:List Bool),xs=[.ref p]/\SqL X.K H p (a.map V.bl)/\Q (.bl (a.all id)) H):=by
 intro pins s σ H xs us Q I r h;obtain ⟨p,a,rfl,w,q⟩:=h;obtain ⟨u,rfl,l⟩:=K8 r;cases l;obtain ⟨c,d,pl,hz⟩:=I.list w;have t:=I.ok.hd g;have m:p<s.heap.objs.size:=by
  obtain ⟨o,v,_⟩:=pl.isList;exact FK v
 have j:c.length=a.length:=by rw [<- d.length,Fu]
 refine call_all_walk (JL pl.isList ⟨s.heap.objs.size,[s.heap.objs.size,p],[s.heap.objs.size],c.toArray.size,_,_,λi=>a.getD i false,rfl,Walks.list (A:=X.A.in1) (t) _ _ (FN m) c.toArray,⟨?_,?_⟩,ek d,λh' x k=>?_⟩)
 ·exact ⟨_,FJ _ rfl,rfl,rfl⟩
 ·exact pl.isList.push _
 ·have e:(List.range c.toArray.size).all (λi=>a.getD i false)=a.all id:=by
   rw [FR,j];exact ku a
  rw [e];refine ⟨.bl (a.all id),H,I.kept λb o f=>?_,rfl,q⟩;have n:=FK f;exact k b o (by simp;exact FN n) (Ft _ f)
variable {cl:Nat->Addr} {xe:Addr->Hp->Prop}
def U3:List D->Option (List Bool)
 | []=>some []
 | .bl b :: ds=>(U3 ds).map (b :: ·)
 | _=>none
theorem sE {K:PySem.W.Frag} {μ:Mp} {H:Hp}:∀ {ds:List D} {vs:List V} {a:List Bool},U3 ds=some a->RDs K μ H ds vs->vs=a.map V.bl
 | [],_,a,e,r=>by cases r;cases e;rfl
 | d :: ds,_,a,e,r=>by
  cases r with
  | cons h t=>
   cases d <;> try (simp [U3] at e;done)
   case bl b=>
    simp only [U3] at e;cases c:U3 ds with
    | none=>rw [c] at e;cases e
    | some f=>
     rw [c] at e;cases e;cases h;rw [sE c t];rfl
def mh (d:D):M D:=bind (lstOf d) λds=>match U3 ds with
 | some a=>ret (.bl (a.all id))
 | none=>bad
theorem Ax (c:X.calm=true):i5 X (.builtin "all") (rPs X.K cl xe (one mh)):=J8 λpins s σ H μ S d v us Q I r j b p=>by
 obtain ⟨a,xs,ds,rfl,f,g,i⟩:=p6 j b p.bind;have p:=p.ok_bind i;cases e:U3 ds with
 | none=>rw [e] at p;exact p.elim
 | some h=>
  rw [e] at p;have:=sE e g;subst this;exact fy c pins s σ H _ us Q I r ⟨a,h,rfl,.inl (.inl f),p μ H (Lat.refl _ _) b _ (.bl _)⟩
def z0:List D->Option (List Int)
 | []=>some []
 | .int i :: ds=>(z0 ds).map (i :: ·)
 | _=>none
theorem dU {K:PySem.W.Frag} {μ:Mp} {H:Hp}:∀ {ds:List D} {vs:List V} {ns:List Int},z0 ds=some ns->RDs K μ H ds vs->vs=ns.map V.int
 | [],_,ns,e,r=>by cases r;cases e;rfl
 | d :: ds,_,ns,e,r=>by
  cases r with
  | cons h t=>
   cases d <;> try (simp [z0] at e;done)
   case int i=>
    simp only [z0] at e;cases a:z0 ds with
    | none=>rw [a] at e;cases e
    | some b=>
     rw [a] at e;cases e;cases h;rw [dU a t];rfl
def qV (d:D):M D:=match d with
 | .int i=>ret (.int i)
 | .bl b=>ret (.int (if b then 1 else 0))
 | _=>bad
theorem Bm:i5 X (.type "int") (rPs X.K cl xe (one qV)):=J8 λpins s σ H μ S d v us Q I r rd rp p=>by
 cases rd with
 | int i=>exact cf pins s σ H _ us Q I r (.inl ⟨i,rfl,p μ H (Lat.refl _ _) rp _ (.int _)⟩)
 | bl b=>exact cf pins s σ H _ us Q I r (.inr ⟨b,rfl,p μ H (Lat.refl _ _) rp _ (.int _)⟩)
 | _=>exact False.elim p
def tN (d:D):M D:=match d with
 | .int i=>if i.natAbs.log2<1920 then ret (.str (toString i)) else bad
 | _=>bad
theorem DM:i5 X (.type "str") (rPs X.K cl xe (one tN)):=J8 λpins s σ H μ S d v us Q I r rd rp p=>by
 cases rd with
 | int i=>
  obtain ⟨h,p⟩:=Post.guard p;exact eC pins s σ H _ us Q I r ⟨i,rfl,h,p μ H (Lat.refl _ _) rp _ (.str _)⟩
 | _=>exact False.elim p
def su (d:D):M D:=match d with
 | .int i=>ret (.int (-i))
 | _=>bad
theorem nV:UnR X (unaryOp .USub) (λx H Q=>∃ μ S d,RD X.K μ H d x/\Rep X.K cl μ S H/\Post X.K cl xe μ H (su d S) λr _ μ' H'=>∀ v,RD X.K μ' H' r v->Q v H'):=by
 intro pins s σ H x v Q I rx ⟨μ,S,d,rd,rp,p⟩;cases rd with
 | int i=>exact zU pins s σ H _ v Q I rx ⟨i,rfl,p μ H (Lat.refl _ _) rp _ (.int _)⟩
 | _=>exact False.elim p
theorem yM (h:PE X a (tD X.K cl xe f)):PE X (.UnaryOp .USub a pos) (tD X.K cl xe λρ=>bind (f ρ) su):=
 PE.imp (CS nV h) λσ H Q ⟨μ,S,ρ,c,e,p⟩=>⟨μ,S,ρ,c,e,p.bind.imp λd S1 b k l i g v j=>⟨b,S1,d,j,i,g⟩⟩
def dN (h h':D->D->M D) (x y:D) (z:M D):M D:=bind (h x y) λd=>bind (asB d) λk=>if k=true then bind z λw=>h' y w else ret (.bl false)
theorem rX {q:TE} {i:Env->M D} {ρ:Env} {σ:L2.St} {μ:Mp} {S:Sto} {H:Hp} {x y:D} {v u:V} {Q:VK} (e:q=tD X.K cl xe i) (t:EnvOk X.K μ H ρ σ) (F:RD X.K μ H x v) (l:RD X.K μ H y u) (B:Rep X.K cl μ S H)
  (p:Post X.K cl xe μ H (dN h h' x y (i ρ) S) λd _ μ' H'=>∀ v,RD X.K μ' H' d v->Q v H') :
  rP2 X.K cl xe h v u H λz c=>∃ k,z=.bl k/\(if k=true then q σ c λw' o=>rP2 X.K cl xe h' u w' o Q else Q (.bl false) c):=by
 subst e;refine ⟨μ,S,x,y,F,l,B,p.bind.imp λd j b c n m a z C=>?_⟩;cases C with
 | bl k=>
  refine ⟨k,rfl,?_⟩;have a:Post X.K cl xe b c ((if k=true then bind (i ρ) (λw=>h' y w) else ret (.bl false)) j) λd _ μ' H'=>∀ v,RD X.K μ' H' d v->Q v H':=a;cases k with
  | true=>
   rw [if_pos rfl] at a ⊢;exact ⟨b,j,ρ,t.later n,m,a.bind.imp λw s f o E r A w' g=>⟨f,s,y,w,(l.later n).later E,g,r,A⟩⟩
  | false=>
   rw [if_neg Fz] at a ⊢;exact a b c (Lat.refl _ _) m _ (.bl _)
 | _=>exact False.elim a
theorem DZ {op a:CmpOp} {b c:Expr} (h:behindInMarks a c=false):lastMarks [op,a] [b,c]=false:=h
theorem mj {h h':D->D->M D} {a b c:Expr} {f g l:Env->M D} {pos:Pos} (r:PE X a (tD X.K cl xe f)) (A:PE X b (tD X.K cl xe g)) (q:PE X c (tD X.K cl xe l)) (o:OpR X (compareOp op) (rP2 X.K cl xe h)) (e:OpR X (compareOp op') (rP2 X.K cl xe h')) (z:behindInMarks op' c=false) :
  PE X (.Compare a [op,op'] [b,c] pos) (tD X.K cl xe λρ=>bind (f ρ) λx=>bind (g ρ) λy=>dN h h' x y (l ρ)):=PE.imp (rT o e r A q (DZ z)) λσ H Q ⟨μ,S,ρ,i,w,p⟩=>
 ⟨μ,S,ρ,i,w,p.bind.imp λx S1 d E k B n v C=>⟨d,S1,ρ,i.later k,B,n.bind.imp λy S2 μ2 F j s m u t=>rX rfl ((i.later k).later j) (C.later j) t s m⟩⟩
end
theorem ba:∀ {xs:List V} {us:List Value},Vals xs us->Vals xs.reverse us.reverse
 | _,_,.nil=>.nil
 | _,_,.cons r t=>by
  rw [HZ,HZ];exact (ba t).append (.cons r .nil)
theorem dJ {K:PySem.W.Frag} {μ:Mp} {H:Hp}:∀ {ds:List D} {vs:List V},RDs K μ H ds vs->RDs K μ H ds.reverse vs.reverse
 | _,_,.nil=>.nil
 | _,_,.cons r t=>by
  rw [HZ,HZ];exact (dJ t).append (.cons r .nil)
theorem fm_congr {a c:Type} {f g:a->Option c}:∀ {l:List a},(∀ x∈l,f x=g x)->l.filterMap f=l.filterMap g
 | [],_=>rfl
 | x :: l,h=>by
  rw [HE,HE,h x (FO ..),fm_congr λy b=>h y (FQ _ b)]
theorem rL (a:List Value):slicePick a.toArray none none (some (-1))=a.reverse.toArray:=by
 have f:sliceBounds none none (some (-1)) a.toArray.size=((a.length:Int)-1,-1,-1):=by
  simp [sliceBounds]
 unfold slicePick;rw [f];have g:sliceRange ((a.length:Int)-1) (-1) (-1)=(List.range a.length).map λk=>a.length-1-k:=by
  have e:(if (-1:Int) > 0 then (if (a.length:Int)-1 < -1 then (-1-((a.length:Int)-1) + -1-1) / -1 else 0) else (if (a.length:Int)-1 > -1 then ((a.length:Int)-1 - -1 - -1-1) / (- -1) else 0)).toNat=a.length:=by
   rw [if_neg (by decide)];by_cases h:(a.length:Int)-1 > -1
   ·rw [if_pos h];simp
   ·rw [if_neg h];omega
  show (List.range (if (-1:Int) > 0 then (if (a.length:Int)-1 < -1 then (-1-((a.length:Int)-1) + -1-1) / -1 else 0) else (if (a.length:Int)-1 > -1 then ((a.length:Int)-1 - -1 - -1-1) / (- -1) else 0)).toNat).map (λ(k:Nat)=>((a.length:Int)-1 + -1 * (k:Int)).toNat)=_;rw [e];apply Jm;intro k b;omega
 simp only [g];congr 1;rw [ID];have c:(List.range a.length).filterMap ((λx=>a.toArray[x]?) ∘ λk=>a.length-1-k)=(List.range a.length).filterMap (λk=>a.reverse.toArray[0+k]?):=by
  apply fm_congr;intro k b;have b:=Gc.mp b;simp;rw [List.getElem?_reverse b]
 rw [c];have:=pick_run a.reverse.toArray 0 a.length;rw [ID] at this;have d:((λx=>a.reverse.toArray[x]?) ∘ λx=>0+x)=λm=>a.reverse.toArray[0+m]?:=rfl;rw [d] at this;rw [this];simp;rw [HM (by simp)]
end L3
namespace HT
open PySem PySem.Spec PyProof.Rows
section
variable {prog:Program} {w:World} {A:Around} {E:Value->Shared->Prop} {s:Shared}
theorem V1 {n:Nat} {Q:Int×Int×Nat->Shared->Prop} (hs:s.heap.IsSliceOf sl .none .none (.int (-1) t))
  (h:Q ((n:Int)-1,-1,n) s):wpAny (model prog w) A (Builtin.Slice.sliceApplied (.ref sl) (pure (n:Int))) Q E s:=by
 obtain ⟨d,a,c,hds⟩:=id hs;refine Fq (Fq (GP a hds rfl (Fq (GP a hds rfl (Fq (GP a hds rfl (Fs ?_)))))));refine Fq (slicePart_int ?_);rw [if_neg (by decide)];refine Fq (Ju (Fq (Ju (Fq (Fs ?_)))));show wpAny _ _ (pure ((n:Int)-1,(-1:Int),Builtin.Slice.slicePlaces ((n:Int)-1) (-1) (-1))) _ _ s;have e:Builtin.Slice.slicePlaces ((n:Int)-1) (-1) (-1)=n:=by
  unfold Builtin.Slice.slicePlaces;rw [if_neg (by decide)];by_cases b:(n:Int)-1 > -1
  ·rw [if_pos b];simp
  ·rw [if_neg b];omega
 rw [e];exact Fs h
theorem ll (xs:List Value):((List.range xs.length).filterMap λ(m:Nat)=>xs.toArray[((xs.length:Int)-1+(m:Int) * -1).toNat]?).toArray=xs.reverse.toArray:=by
 congr 1;have c:(List.range xs.length).filterMap (λ(m:Nat)=>xs.toArray[((xs.length:Int)-1+(m:Int) * -1).toNat]?)=(List.range xs.length).filterMap (λk=>xs.reverse.toArray[0+k]?):=by
  apply L3.fm_congr;intro k a;have a:=Gc.mp a;have e:((xs.length:Int)-1+(k:Int) * -1).toNat=xs.length-1-k:=by omega
  rw [e];simp;rw [List.getElem?_reverse a]
 rw [c];have:=pick_run xs.reverse.toArray 0 xs.length;rw [ID] at this;have b:((λx=>xs.reverse.toArray[x]?) ∘ λx=>0+x)=λm=>xs.reverse.toArray[0+m]?:=rfl;rw [b] at this;rw [this];simp;rw [HM (by simp)]
theorem getItem_tuple_rev {a:List Value} {i:Tok} {Q:Value->Shared->Prop} (c:IsTup s.heap t a.toArray) (hs:s.heap.IsSliceOf sl .none .none (.int (-1) i))
  (h:Q (.ref s.heap.objs.size) { s with heap:=s.heap.push { cls:=.type "tuple",data:=.seq a.reverse.toArray } })
  (hsz:a.length<=sizeLine):wpAny (model prog w) A (getItem (.ref t) (.ref sl)) Q E s:=by
 have b:sizeOk (.seq a.reverse.toArray):=by
  show a.reverse.toArray.size<=sizeLine;rw [FR,Jn];exact hsz
 obtain ⟨j,g,d,hds⟩:=id hs;have e:s.TypeIs (.ref sl) "slice":=⟨j,g,d⟩;unfold getItem;try with_reducible refine GD ?_
 first | refine Fq (Fs ?_) | skip
 refine Fq (JK c.typeIs (by decide) ?_);refine Fq (Gx c.typeIs GE
  (GA GE c.typeIs Jl ?_ (Jv _ _)))
 show wpAny _ _ (Builtin.Tuple.tupleItemsOf (.ref t) >>= _) _ _ s;refine Fq (JP c ?_);refine Fq (Ii e ?_);rw [if_pos (by decide)];refine Fq (V1 (n:=a.length) hs ?_);have f:¬ ((((a.length:Int)-1)==0&&(-1:Int)==1&&a.length==a.toArray.size)=true):=by
  intro q;rw [FG,FG] at q;exact absurd q.1.2 (by decide)
 show wpAny _ _ (if (((a.length:Int)-1)==0&&(-1:Int)==1&&a.length==a.toArray.size)=true then _ else _) _ _ s;rw [if_neg f,ll];first
  | exact Fq (Gi (Fs ⟨_,rfl,Fs h⟩) b)
  | exact Fq (Gi (Fq (Fs (Fs ⟨_,rfl,Fs h⟩))) b)
  | exact Fq (Fq (Gi (Fs (Fs ⟨_,rfl,Fs h⟩)) b))
  | exact Fq (Fq (Gi (Fs ⟨_,rfl,Fs h⟩) b))
end
end HT
namespace L3
open PySem PySem.Spec PyProof.Rows L2
section
variable {X:Cx} {e st:Expr} {te ts:TE} {pos p2:Pos} {cl:Nat->Addr} {xe:Addr->Hp->Prop}
def Bg (K:PySem.W.Frag) (te d:TE):TE:=λσ H Q=>te σ H λx c=>d σ c λy b=>y=.int (-1)/\∃ a xs,x=.ref a/\((SqL K b a xs/\∀ p,b p=none->Q (.ref p) (upd b p (.lst xs.reverse)))\/(SqT K b a xs/\∀ p,b p=none->Q (.ref p) (upd b p (.tup xs.reverse))))
theorem uH (p:PE X e te) (hs:PE X st ts):PE X (.Subscript e (.Slice none none (some st) p2) pos) (Bg X.K te ts):=by
 intro pins s σ H Q I h;refine Subscript_ (thn (p pins s σ H _ I h) λv l ⟨x,z,w,A,C⟩=>?_);refine wpAny_Slice ?_;rw [Kv];refine Fs (Fs ?_);rw [evalPart_some];refine thn (hs pins l σ z _ w C) λu d ⟨y,B,n,m,o,a,xs,D,i⟩=>?_;subst o D;obtain ⟨t,rfl⟩:=m;cases A;have f:Inv X pins σ B { d with heap:=d.heap.push { cls:=.type "slice",data:=.fields #[.none,.none,.int (-1) t] } }:=n.kept λb ob q=>Ft _ q;rcases i with ⟨i,q⟩ | ⟨i,q⟩
 ·obtain ⟨j,r,g,hz⟩:=f.list i;have c:=r.length;have k:wpAny (model X.prog X.w) X.A (getItem (.ref a) (.ref d.heap.objs.size)) (EP X pins σ Q) X.xe { d with heap:=d.heap.push { cls:=.type "slice",data:=.fields #[.none,.none,.int (-1) t] } }:=by
   refine JQ g.isList (Jw ..) .none .none (.int (-1) t) (by simp) ?_ (by rw [FR] <;> omega);rw [rL];refine ⟨.ref _,_,f.laid (λb ob q=>Ft _ q) (FH _) ?_,rfl,q _ (f.hok.fresh (FH _))⟩;exact ⟨by rw [Jn];exact hz,_,0,ba r,FJ _ rfl⟩
  exact tail_any g.isList.typeIs slot_list_getitem.lookup k (by with_unfolding_all rfl)
 ·obtain ⟨j,r,g,hz⟩:=f.tuple i;have c:=r.length;have k:wpAny (model X.prog X.w) X.A (getItem (.ref a) (.ref d.heap.objs.size)) (EP X pins σ Q) X.xe { d with heap:=d.heap.push { cls:=.type "slice",data:=.fields #[.none,.none,.int (-1) t] } }:=by
   refine HT.getItem_tuple_rev g (Jw ..) ?_ (by rw [<- c];exact hz);refine ⟨.ref _,_,f.laid (λb ob q=>Ft _ q) (FH _) ?_,rfl,q _ (f.hok.fresh (FH _))⟩;exact ⟨by rw [Jn];exact hz,_,ba r,TupN.new _ _⟩
  exact tail_any g.typeIs PyProof.Rows.slot_tuple_getitem.lookup k (by with_unfolding_all rfl)
def tX (d s:D):M D:=match s with
 | .int (-1)=>(match d with
  | .tup ds=>ret (.tup ds.reverse)
  | d=>bind (lstOf d) λds=>ret (.lst ds.reverse))
 | _=>bad
theorem zz (he:PE X e (tD X.K cl xe f)) (hs:PE X st (tD X.K cl xe g)):PE X (.Subscript e (.Slice none none (some st) p2) pos) (tD X.K cl xe λρ=>bind (f ρ) λx=>bind (g ρ) λy=>tX x y):=
 PE.imp (uH he hs) λσ H Q ⟨μ,S,ρ,eo,rp,p⟩=>⟨μ,S,ρ,eo,rp,p.bind.imp λx S1 μ1 H1 l1 r1 p1 v rv=>⟨μ1,S1,ρ,eo.later l1,r1,p1.bind.imp λy S2 μ2 H2 l2 r2 p2 u ru=>by
  unfold tX at p2;split at p2
  ·cases ru;refine ⟨rfl,?_⟩;have L:Post X.K cl xe μ2 H2 (bind (lstOf x) (λds=>ret (.lst ds.reverse)) S2) (λd _ μ' H'=>∀ v,RD X.K μ' H' d v->Q v H')->∃ a xs,v=.ref a/\((SqL X.K H2 a xs/\∀ p,H2 p=none->Q (.ref p) (upd H2 p (.lst xs.reverse)))\/(SqT X.K H2 a xs/\∀ p,H2 p=none->Q (.ref p) (upd H2 p (.tup xs.reverse)))):=λp2=>by
    obtain ⟨a,xs,ds,rfl,h1,h2,e2⟩:=p6 (rv.later l2) r2 p2.bind;refine ⟨a,xs,rfl,.inl ⟨.inl (.inl h1),λz hz=>?_⟩⟩;obtain ⟨l,rp2,rd2⟩:=B6 r2 (dJ h2) hz;exact (p2.ok_bind e2) μ2 _ l rp2 _ rd2
   cases rv.later l2 with
   | tup h1 h2=>
    rename_i a xs ds;refine ⟨a,xs,rfl,.inr ⟨h1.sq,λz hz=>?_⟩⟩;obtain ⟨l,rp2,rd2⟩:=F7 r2 (dJ h2) hz;exact p2 μ2 _ l rp2 _ rd2
   | _=>exact L p2
  ·exact p2.elim⟩⟩
end
section
variable {X:Cx} {e:Expr} {te:TE} {p p2 pos pos2:Pos} {cl:Nat->Addr} {xe:Addr->Hp->Prop}
theorem Q4:∀ {ns:List Int} {us:List Value},Vals (ns.map V.int) us->IntsAre us ns
 | [],_,r=>by cases r;exact .nil
 | n :: ns,_,r=>by
  cases r with
  | cons h t=>
   obtain ⟨k,rfl⟩:=(h);exact .cons n k (Q4 t)
end
section
variable {X:Cx} {cl:Nat->Addr} {xe:Addr->Hp->Prop} {o e:Expr} {es:List Expr} {f:Env->M D} {fs:Env->M (List D)} {apos cpos:Pos}
def tupOf (x:D):M (List D):=match x with
 | .tup ds=>ret ds
 | _=>bad
end
end L3
namespace HT
open PySem PySem.Spec PyProof.Rows
section
variable {prog:Program} {w:World} {A:Around} {E:Value->Shared->Prop} {s:Shared}
theorem Ah {ob:Obj} {k:Nat} {T:String} {Q:List Value->Shared->Prop} (f:T = "list"\/T = "tuple") (g:s.heap.get? a=some ob) (d:ob.cls=.type T) (h:ob.data=.seq us.toArray k) (hz:us.length<=sizeLine)
  (q:Q us { s with heap:=(s.heap.push (seqObj "list" #[] 0)).update s.heap.objs.size (Obj.mapSeq (·++us.toArray)) }):wpAny (model prog w) A (collect (.ref a)) Q E s:=by
 have b:(s.heap.push (seqObj "list" #[] 0)).get? a=some ob:=Ft _ g;have c:(s.heap.push (seqObj "list" #[] 0)).get? s.heap.objs.size=some (seqObj "list" #[] 0):=FJ _ rfl;refine Fq (Kq (Hh PyProof.Rows.entry_proto_collect' (?_:wpAny _ _ (do again (.builtin "list.__iadd__" ⟨[<- newList [],.ref a],[]⟩)) _ _ s)));refine Fq (Kw (Fs ⟨Code.quiet_builtin _ (by decide +kernel),Hh PyProof.Rows.entry_list_iadd' (?_:wpAny _ _ (Builtin.List.listExtendWith (.ref s.heap.objs.size) (.ref a) (.ref s.heap.objs.size)) _ _ { s with heap:=s.heap.push (seqObj "list" #[] 0) })⟩));refine Fq (Ii ⟨ob,b,d⟩ ?_);rw [if_pos (by rcases f with rfl | rfl <;> simp)];refine Fq (JE b h (Fq (JE c rfl ?_)));rw [if_neg (by simp)];refine Fq (PyProof.Rows.listUpdate_at c rfl (Fs ?_) (Gu _) (by rw [Array.size_append];show 0+us.toArray.size<=_;rw [FR];omega));refine Fq (Kx (PyProof.Rows.get?_update_seq c _) ?_);show wpAny _ _ (pure ((#[]:Array Value)++us.toArray).toList) Q E _;have e:((#[]:Array Value)++us.toArray).toList=us:=by simp
 rw [e];exact Fs q
theorem sorted_seq {ob:Obj} {k:Nat} {T:String} {ns:List Int} {Q:Value->Shared->Prop} (f:T = "list"\/T = "tuple") (g:s.heap.get? a=some ob) (c:ob.cls=.type T) (l:ob.data=.seq us.toArray k) (h:IntsAre us ns) (d:us.length<64)
  (q:∀ (out:Array Value) (ms:List Int),IntsAre out.toList ms->ms.Perm ns->ms.Pairwise (·<=·)->Q (.ref (s.heap.objs.size+1)) { s with heap:=sortedAll s.heap us out }):wpAny (model prog w) A (call (.builtin "sorted") [.ref a]) Q E s:=by
 refine JF JS JG JH (JI _) ?_;refine Fq (Fs (Fq (Ah f g c l (by rw [Gf];omega) (Fq (Kw ?_)))));have e:((s.heap.push (seqObj "list" #[] 0)).update s.heap.objs.size (Obj.mapSeq (·++us.toArray))).objs.size=s.heap.objs.size+1:=by
  rw [Heap.size_update,JZ]
 have b:(((s.heap.push (seqObj "list" #[] 0)).update s.heap.objs.size (Obj.mapSeq (·++us.toArray))).push (seqObj "list" us.toArray 0)).get? (s.heap.objs.size+1)=some (seqObj "list" us.toArray 0):=e▸FJ _ rfl;rw [e];refine Fq (GD (GA Jp ⟨_,b,rfl⟩ Jg (Jq b h d λout ms m i j=>⟨_,rfl,Fs ⟨_,rfl,q out ms m i j⟩⟩) (Jr _)))
end
end HT
namespace L3
open PySem PySem.Spec PyProof.Rows L2
def iH (x:Int):List Int->List Int
 | []=>[x]
 | y :: ys=>if x<=y then x :: y :: ys else y :: iH x ys
def srt:List Int->List Int
 | []=>[]
 | x :: xs=>iH x (srt xs)
theorem bh (x:Int):∀ l:List Int,(iH x l).Perm (x :: l)
 | []=>.refl _
 | y :: ys=>by
  unfold iH;split
  ·exact .refl _
  ·exact ((bh x ys).cons y).trans (.swap x y ys)
theorem u5:∀ l:List Int,(srt l).Perm l
 | []=>.refl _
 | x :: xs=>(bh x (srt xs)).trans ((u5 xs).cons x)
theorem nT (x:Int):∀ l:List Int,l.Pairwise (·<=·)->(iH x l).Pairwise (·<=·)
 | [],_=>by simp [iH]
 | y :: ys,h=>by
  unfold iH;rw [Ht] at h;split
  ·rename_i c;rw [Ht];refine ⟨λz hz=>?_,Ht.mpr h⟩;rcases FP.mp hz with e | e
   ·omega
   ·have:=h.1 z e;omega
  ·rename_i c;rw [Ht];refine ⟨λz hz=>?_,nT x ys h.2⟩;rcases FP.mp ((bh x ys).mem_iff.mp hz) with e | e
   ·omega
   ·exact h.1 z e
theorem ap:∀ l:List Int,(srt l).Pairwise (·<=·)
 | []=>.nil
 | x :: xs=>nT x _ (ap xs)
theorem dj:∀ {a b:List Int},a.Perm b->a.Pairwise (·<=·)->b.Pairwise (·<=·)->a=b
 | [],b,p,_,_=>by
  have:=p.length_eq;cases b with
  | nil=>rfl
  | cons _ _=>simp at this
 | x :: a,[],p,_,_=>by have:=p.length_eq;simp at this
 | x :: a,y :: b,p,c,d=>by
  rw [Ht] at c d;have f:=p.mem_iff.mp (FO ..);have g:=p.mem_iff.mpr (FO ..);have e:x=y:=by
   rcases FP.mp f with e | e
   ·exact e
   ·grind
  subst e;rw [dj (List.Perm.cons_inv p) c.2 d.2]
theorem W5:∀ {us:List Value} {ns:List Int},IntsAre us ns->Vals (ns.map V.int) us
 | _,_,.nil=>.nil
 | _,_,.cons n t h=>.cons ⟨t,rfl⟩ (W5 h)
section
variable {X:Cx} {cl:Nat->Addr} {xe:Addr->Hp->Prop}
theorem dO:i5 X (.builtin "sorted") (λxs H Q=>∃ (a:Addr) (ns:List Int),xs=[.ref a]/\(SqL X.K H a (ns.map V.int)\/SqT X.K H a (ns.map V.int))/\ns.length<64/\∀ p,H p=none->Q (.ref p) (upd H p (.lst ((srt ns).map V.int)))):=by
 intro pins s σ H xs us Q I r h;obtain ⟨a,ns,rfl,hs,D,q⟩:=h;obtain ⟨u,rfl,z⟩:=K8 r;cases z;have i:∀ (ob:Obj) (k:Nat) (T:String) (f:List Value),(T = "list"\/T = "tuple")->s.heap.get? a=some ob->ob.cls=.type T->ob.data=.seq f.toArray k->Vals (ns.map V.int) f->wpAny (model X.prog X.w) X.A (call (.builtin "sorted") [.ref a]) (EP X pins σ Q) X.xe s:=λob k T f l t m A g=>by
  have j:f.length=ns.length:=by rw [<- g.length,Fu]
  refine HT.sorted_seq l t m A (Q4 g) (by omega) λout ms C x y=>?_;have e:=dj (x.trans (u5 ns).symm) y (ap ns);subst e;obtain ⟨v,w⟩:=sortedAll_at s.heap f out;have B:=I.hok.fresh (GK _);refine ⟨.ref (s.heap.objs.size+1),_,I.laid (λb ob q=>sortedAll_old q) (GK _) ?_,rfl,q _ B⟩;refine ⟨by rw [Fu,(u5 ns).length_eq,Gf];omega,out.toList,v,W5 C,?_⟩;rw [Array.toArray_toList];exact w
 rcases hs with hs | hs
 ·obtain ⟨f,g,⟨o,n,e,c,E,d⟩,_⟩:=I.list hs;exact i o n "list" f (.inl rfl) e c d g
 ·obtain ⟨f,g,⟨o,e,c,n,d⟩,_⟩:=I.tuple hs;exact i o n "tuple" f (.inr rfl) e c d g
def M0 (d:D):M D:=bind (G5 d) λds=>match z0 ds with
 | some ns=>if ns.length<64 then ret (.lst ((srt ns).map D.int)) else bad
 | none=>bad
theorem nB:i5 X (.builtin "sorted") (rPs X.K cl xe (one M0)):=J8 λpins s σ H μ S d v us Q I r j f p=>by
 obtain ⟨a,xs,ds,rfl,i,h,g⟩:=bP j f p.bind;have p:=p.ok_bind g;cases e:z0 ds with
 | none=>rw [e] at p;exact p.elim
 | some ns=>
  rw [e] at p;obtain ⟨hz,p⟩:=Post.guard p;have:=dU e h;subst this;refine dO pins s σ H _ us Q I r ⟨a,ns,rfl,i,hz,λz hz=>?_⟩;obtain ⟨l,b,c⟩:=B6 f (RDs.ints (srt ns)) hz;exact p μ _ l b _ c
end
section
variable {X:Cx} {cl:Nat->Addr} {xe:Addr->Hp->Prop} {o e:Expr} {es:List Expr} {f:Env->M D} {fs:Env->M (List D)} {apos cpos:Pos} {name:Str} {T T2 id id2:String} {r r2:V->List V->Hp->VK->Prop} {α:Type}
def Looks (K:PySem.W.Frag) (cl:Nat->Addr) (xe:Addr->Hp->Prop) (T:String) (g:D->M α):Prop:=∀ (μ:Mp) (S:Sto) (H:Hp) (x:D) (v:V) (G:α->Sto->Mp->Hp->Prop),RD K μ H x v->Rep K cl μ S H->Post K cl xe μ H (g x S) G->tyV K T v H/\∃ a,g x S=.ok a S
def zi (K:PySem.W.Frag) (cl:Nat->Addr) (xe:Addr->Hp->Prop) (r:V->List V->Hp->VK->Prop) (op:D->List D->M D):Prop:=∀ (μ:Mp) (S:Sto) (H:Hp) (x:D) (v:V) (ds:List D) (vs:List V) (Q:VK),RD K μ H x v->RDs K μ H ds vs->Rep K cl μ S H->Post K cl xe μ H (op x ds S) (λd _ μ' H'=>∀ w,RD K μ' H' d w->Q w H')->r v vs H Q
theorem kC (B:PlainAttrs T) (c:Slot T name id) (i:typeOf (.builtin id)=pure (.type "method_descriptor")) (s:MtR X id r) (t:Looks X.K cl xe T g) (hd:zi X.K cl xe r op) (F:PE X o (tD X.K cl xe f)) (v:PA X (e :: es) (tDs X.K cl xe fs))
  (G:v8 o=true) (hs:(e :: es).all noStar=true) (C:M7 (e :: es)=true) (E:(apos.endLine==cpos.line)=true) :
  PE X (.Call (.Attribute o name apos) (e :: es) [] cpos) (tD X.K cl xe λρ=>bind (f ρ) λx=>bind (g x) λ_=>bind (fs ρ) λds=>op x ds):=by
 have b:=hs;rw [Gy,FG] at b;refine PE.imp (wm B c i s F v (M5 G) (nj hs C) E (c8 b.1) (i8 b.2)) λσ H Q ⟨μ,S,ρ,l,w,p⟩=>?_;refine ⟨μ,S,ρ,l,w,p.bind.imp λx S1 d J u m h n k=>?_⟩;obtain ⟨I,a,D⟩:=t d S1 J x n _ k m h.bind;have h:=h.ok_bind D;exact ⟨I,d,S1,ρ,l.later u,m,h.bind.imp λds S2 μ2 A q y z vs j=>hd μ2 S2 A x n ds vs Q (k.later q) j y z⟩
theorem RDs.erase {K:PySem.W.Frag} {μ:Mp} {H:Hp}:∀ {ds:List D} {vs:List V} (n:Nat),RDs K μ H ds vs->RDs K μ H (ds.eraseIdx n) (vs.eraseIdx n)
 | _,_,_,.nil=>.nil
 | _,_,0,.cons h r=>r
 | _,_,n+1,.cons h r=>.cons h (RDs.erase n r)
def popD (x:D) (ds:List D):M D:=match x,ds with
 | .ref n,[.int i]=>λS=>match S[n]? with
  | some (.lst es)=>if -(2 ^ 63)<=i/\i<2 ^ 63 then (match ixN es.length i with
   | some j=>(match es[j]? with
    | some y=>.ok y (S.set n (.lst (es.eraseIdx j)))
    | none=>.bad)
   | none=>.bad) else .bad
  | _=>.bad
 | _,_=>bad
theorem iP:Looks X.K cl xe "list" lstOf:=λμ S H x v G b c p=>by
 obtain ⟨a,xs,ds,rfl,d,f,e⟩:=p6 b c p;exact ⟨.inl ⟨rfl,_,.inl (.inl d)⟩,ds,e⟩
theorem ou:zi X.K cl xe rPopAt popD:=λμ S H x v ds vs Q rx rvs rp p=>by
 unfold popD at p;split at p
 ·rename_i n i;cases rvs with
  | cons h t=>
   cases t;cases h;cases rx with
   | ref e=>
    rename_i a;cases q1:S[n]? with
    | none=>rw [q1] at p;exact p.elim
    | some o=>
     rw [q1] at p;cases o with
     | lst es=>
      obtain ⟨xs,h1,h2⟩:=rp.ats n _ a q1 e;dsimp only at p;by_cases hb:-(2 ^ 63)<=i/\i<2 ^ 63
      ·rw [if_pos hb] at p;cases q2:ixN es.length i with
       | none=>rw [q2] at p;exact p.elim
       | some j=>
        rw [q2] at p;dsimp only at p;cases q3:es[j]? with
        | none=>rw [q3] at p;exact p.elim
        | some y=>
         rw [q3] at p;obtain ⟨y',e4,r4⟩:=h2.get q3;have ml:=FT e;refine ⟨a,xs,i,j,y',rfl,rfl,h1,hb.1,hb.2,by rw [<- h2.length];exact (de q2).1,e4,?_⟩;have la:Lat μ H μ (upd H a (.lst (xs.eraseIdx j))):=Lat.wrote ml;exact p μ _ la (rp.wrote e ⟨_,b6,(h2.erase j).later la⟩) _ (r4.later la)
      ·rw [if_neg hb] at p;exact p.elim
     | dct _=>exact p.elim
     | exc _ _=>exact p.elim
 ·exact p.elim
end
end L3
namespace HT
open PySem PySem.Spec PyProof.Rows
def p7 (a:Bool):Obj:={ cls:=.type "set",dict:=none,data:=.set #[] 0 (.fresh 0 0 a) }
def Rise (xs:Array Nat):Prop:=xs.toList.Pairwise (· < ·)
theorem Rise.lt (h:Rise xs) {i j:Nat} (a:i<j) (b:j<xs.size):xs[i]<xs[j]:=by
 have:=List.pairwise_iff_getElem.mp h i j (by simp;omega) (by simpa using b) a;grind
theorem aX {xs:Array Nat} {j:Nat} (h:Rise xs):∀ (fuel lo hi:Nat),hi-lo<=fuel->lo<=hi->hi<=xs.size->(∀ i (z:i<xs.size),i<lo->xs[i]<j)->(∀ i (z:i<xs.size),hi<=i->j<=xs[i]) ->
  SetTable.below.go xs j fuel lo hi<=xs.size/\(∀ i (z:i<xs.size),i<SetTable.below.go xs j fuel lo hi->xs[i]<j)/\∀ i (z:i<xs.size),SetTable.below.go xs j fuel lo hi<=i->j<=xs[i]
 | 0,lo,hi,f,le,le2,a,b=>by
  have e:lo=hi:=by omega
  subst e;exact ⟨le2,a,b⟩
 | fuel+1,lo,hi,f,le,le2,a,b=>by
  unfold SetTable.below.go;by_cases c:lo<hi
  ·rw [if_pos c];have hm:(lo+hi) / 2<xs.size:=by omega
   have em:xs.getD ((lo+hi) / 2) j=xs[(lo+hi) / 2]:=by simp [Array.getD,hm]
   dsimp only;rw [em];by_cases d:xs[(lo+hi) / 2]<j
   ·rw [if_pos d];refine aX h fuel _ _ (by omega) (by omega) le2 (λi z w=>?_) b;rcases Nat.lt_or_ge i ((lo+hi) / 2) with u | u
    ·exact Nat.lt_trans (h.lt u hm) d
    ·have:i=(lo+hi) / 2:=by omega
     subst this;exact d
   ·rw [if_neg d];refine aX h fuel _ _ (by omega) (by omega) (by omega) a λi z w=>?_;rcases Nat.lt_or_ge ((lo+hi) / 2) i with u | u
    ·have:=h.lt u z;omega
    ·have:i=(lo+hi) / 2:=by omega
     subst this;omega
  ·rw [if_neg c];have e:lo=hi:=by omega
   subst e;exact ⟨le2,a,b⟩
theorem bH (h:Rise xs) (j:Nat):SetTable.below xs j<=xs.size/\(∀ i (z:i<xs.size),i<SetTable.below xs j->xs[i]<j)/\∀ i (z:i<xs.size),SetTable.below xs j<=i->j<=xs[i]:=
 aX h xs.size 0 xs.size (by omega) (Gu _) (FH _) (λi _ w=>absurd w (Kk _)) λi z w=>by omega
theorem gM (h:Rise xs) {i:Nat} (hi:i<xs.size):SetTable.below xs (xs[i]+1)=i+1:=by
 obtain ⟨a,b,c⟩:=bH h (xs[i]+1);generalize SetTable.below xs (xs[i]+1)=k at a b c;rcases Nat.lt_trichotomy k (i+1) with u | u | u
 ·grind
 ·exact u
 ·have z:i+1<xs.size:=by omega
  have:=b (i+1) z u;have:xs[i]<xs[i+1]:=h.lt (Go i) z;omega
theorem gi (h:Rise xs):SetTable.below xs 0=0:=by
 obtain ⟨a,b,c⟩:=bH h 0;rcases Nat.eq_zero_or_pos (SetTable.below xs 0) with u | u
 ·exact u
 ·have:=b 0 (by omega) u;omega
theorem eF (h:Rise xs) {j:Nat} (n:xs[SetTable.below xs j]?≠some j):Rise (SetTable.insertAt xs (SetTable.below xs j) j):=by
 obtain ⟨a,b,c⟩:=bH h j;unfold Rise;rw [SetTable.toList_insertAt,List.pairwise_append,Ht];refine ⟨IT (IJ _ _) h,⟨λy d=>?_,IT (JM _ _) h⟩,λx g y d=>?_⟩
 ·obtain ⟨k,e,rfl⟩:=Ig.mp d;rw [Ih,Gn] at e;have hz:SetTable.below xs j+k<xs.size:=by omega
  rw [List.getElem_drop,Jd];have l:=c _ hz (Nat.le_add_right _ _);rcases Nat.eq_zero_or_pos k with rfl | kp
  ·grind
  ·have i:SetTable.below xs j<xs.size:=by omega
   have:=c _ i (FH _);have:=h.lt (show SetTable.below xs j<SetTable.below xs j+k by omega) hz;omega
 ·have f:x<j:=by
   obtain ⟨k,e,rfl⟩:=Ig.mp g;rw [Hr,Gn] at e;rw [List.getElem_take,Jd];exact b _ (by omega) (by omega)
  rcases FP.mp d with rfl | d
  ·exact f
  ·obtain ⟨k,e,rfl⟩:=Ig.mp d;rw [Ih,Gn] at e;rw [List.getElem_drop,Jd];have:=c _ (show SetTable.below xs j+k<xs.size by omega) (Nat.le_add_right _ _);omega
structure TbHt (t:SetTable):Prop where
 nd:t.dummies=#[]
 up:t.plain=true->Rise t.place
theorem fo (j:Nat):SetTable.has #[] j=false:=by simp [SetTable.has]
theorem fP (h:t.dummies=#[]) (f:Nat->Int) (x:Int):∀ (n:Nat) (p:SetTable.Probe) (j:Nat) (d:Option Nat),p.dummy=none->SetTable.probe.go t f x n p=some (.empty j d)->d=none/\t.slot j=.empty
 | 0,p,j,d,_,e=>by unfold SetTable.probe.go at e;cases e
 | n+1,p,j,d,pd,e=>by
  unfold SetTable.probe.go at e;have ad:∀ q:SetTable.Probe,(t.advance q).dummy=q.dummy:=λq=>by
   unfold SetTable.advance;split <;> rfl
  cases hs:t.slot p.j with
  | empty=>
   rw [hs] at e;obtain ⟨rfl,rfl⟩:=e;exact ⟨pd,hs⟩
  | dummy=>
   unfold SetTable.slot at hs;rw [h] at hs;dsimp only at hs;split at hs
   ·cases hs
   ·rw [fo] at hs;simp at hs
  | live i=>
   rw [hs] at e;dsimp only at e;split at e
   ·cases e
   ·exact fP h f x n _ j d ((ad p).trans pd) e
theorem uW {t:SetTable} (h:t.dummies=#[]) {x:Int} {j:Nat} {b:Bool} (e:t.freeSlot x=some (j,b)):t.slot j=.empty:=by
 unfold SetTable.freeSlot SetTable.probe at e;split at e
 ·rename_i c d a;obtain ⟨rfl,q⟩:=fP h _ _ _ _ _ _ rfl a;simp at e;rw [<- e.1];exact q
 ·cases e
theorem vU {t:SetTable} {j:Nat} (h:t.slot j=.empty):t.place[SetTable.below t.place j]?≠some j:=λe=>by
 unfold SetTable.slot at h;dsimp only at h;rw [e] at h;simp at h
theorem TbHt.stand (t:SetTable) (n:Nat):TbHt (t.standIn n):=⟨rfl,λh=>by cases h⟩
theorem TbHt.put (h:TbHt t) {j:Nat} (e:t.slot j=.empty):TbHt (t.put j).1:=by
 refine ⟨?_,λp=>?_⟩
 ·unfold SetTable.put;rw [h.nd,fo];rfl
 ·exact eF (h.up p) (vU e)
theorem TbHt.lay (h:TbHt t) (es:Array (Int×Value)) (x:Int) (v:Value):TbHt (layNew t es x v).2.1/\(layNew t es x v).2.1.led=t.led:=by
 unfold layNew;split
 ·rename_i a wd e;have b:=h.put (uW h.nd e);dsimp only;unfold SetTable.orStandIn;split
  ·exact ⟨b,rfl⟩
  ·exact ⟨.stand _ _,rfl⟩
 ·exact ⟨.stand _ _,rfl⟩
theorem gY (n:Nat) (f:Nat->Option (Nat×Nat)) (d:∀ j p,f j=some p->p.1=j):(((List.range n).filterMap f).map (·.1)).Pairwise (· < ·):=by
 rw [JN];refine List.Pairwise.filterMap f (λa b c x e y g=>?_) List.pairwise_lt_range;grind
theorem TbHt.relay (h:TbHt t) (es:Array (Int×Value)) (m:Nat):TbHt (relayAll t es m).2.1/\(relayAll t es m).2.1.led=t.led:=by
 unfold relayAll;split
 ·rename_i t' a e;dsimp only;unfold SetTable.relaid SetTable.laid at e;simp only [Option.bind_eq_bind,Option.bind_eq_some_iff,Option.pure_def,Option.some.injEq,Prod.mk.injEq] at e;obtain ⟨b,_,rfl,_⟩:=e;split
  ·refine ⟨⟨rfl,λ_=>?_⟩,rfl⟩;refine gY _ _ λj p q=>?_;rw [HK] at q;obtain ⟨_,_,rfl⟩:=q;rfl
  ·exact ⟨.stand _ _,rfl⟩
 ·exact ⟨.stand _ _,rfl⟩
theorem TbHt.unplain (h:TbHt t):TbHt { t with plain:=false }:=⟨h.nd,λz=>by cases z⟩
theorem TbHt.fresh (f m:Nat) (l:Bool):TbHt (SetTable.fresh f m l):=⟨rfl,λ_=>by unfold Rise SetTable.fresh;exact .nil⟩
section
variable {prog:Program} {w:World} {K:Type} [DecidableEq K] {knd:KeyKind prog w K} {A:Around} {E:Value->Shared->Prop} {s:Shared}
def j0 (w:World):Bool:=w.params.followText "set-order"
def mS (knd:KeyKind prog w K) (o:Obj) (S:K->Bool) (n:Nat) (es:Array (Int×Value)) (a:Nat) (t:SetTable):Prop:=
 o.ExactSet/\o.data=.set es a t/\ElemsOf knd es.toList/\(∀ k,S k=true↔∃ e∈es.toList,knd.is k e.2=true)/\es.size<scanBound/\t.fits es.size=true/\es.size=n/\TbHt t/\t.led=!j0 w
def SetL (knd:KeyKind prog w K) (h:Heap) (a:Addr) (S:K->Bool) (n:Nat):Prop:=∃ o es b t,h.get? a=some o/\mS knd o S n es b t
theorem SetL.cg {n b:Nat} (x:SetL knd h a S n) (e:∀ k,S k=S' k) (f:n=b):SetL knd h a S' b:=by
 have:=funext e;grind
theorem SetL.mv {a:Addr} {S:K->Bool} {n:Nat} (x:SetL knd h a S n) (e:∀ o,h.get? a=some o->h'.get? a=some o):SetL knd h' a S n:=
 let ⟨o,es,b,t,c,r⟩:=x;⟨o,es,b,t,e o c,r⟩
theorem fH {h:Heap} {a:Addr} {o:Obj} {es:Array (Int×Value)} {c:Nat} {t:SetTable} (d:h.get? a=some o) (b:o.ExactSet) (hd:o.data=.set es c t) {es':Array (Int×Value)} {t':SetTable} {S':K->Bool}
  (r:ElemsOf knd es'.toList/\(∀ k,S' k=true↔∃ e∈es'.toList,knd.is k e.2=true)/\es'.size<scanBound/\t'.fits es'.size=true/\TbHt t'/\t'.led=!j0 w) :
  ∃ o',(h.update a (Obj.putSet es' t')).get? a=some o'/\mS knd o' S' es'.size es' (c+1) t':=by
 obtain ⟨g,_⟩:=SetOf_store d b hd r.1 r.2.1 r.2.2.1 r.2.2.2.1;exact ⟨_,g,b,rfl,r.1,r.2.1,r.2.2.1,r.2.2.2.1,rfl,r.2.2.2.2⟩
theorem cr (C:s.heap.get? a=some o) (n:o.ExactSet) (hd:o.data=.set es ep t) {g:Bool->Sem Unit}
  (F:∀ (b:Bool) (u:Shared) (R:Unit->Shared->Prop),R () u->wpAny (model prog w) A (g b) R E u) {c:Array (Int×Value)} {d:SetTable} {S':K->Bool}
  (r:ElemsOf knd c.toList/\(∀ k,S' k=true↔∃ e∈c.toList,knd.is k e.2=true)/\c.size<scanBound/\d.fits c.size=true/\TbHt d/\d.led=!j0 w) {wd:Bool} {R:Option Bool->Shared->Prop}
  (q:∀ h',Heap.SameBut a s.heap h'->SetL knd h' a S' c.size->R (some true) { s with heap:=h' }) :
  wpAny (model prog w) A (storeSet a c d >>= λ_=>if (!wd&&d.tooFull)=true then (g (relayAll d c (SetTable.grown c.size)).2.2 >>= λ_=>storeSet a (relayAll d c (SetTable.grown c.size)).1 (relayAll d c (SetTable.grown c.size)).2.1 >>= λ_=>pure (some true)) else pure (some true)) R E s:=by
 refine Fq (wpAny_storeSet_of C hd ?_ (fits_of_scanBound r.2.2.1));obtain ⟨D,h,i⟩:=fH C n hd r;have y:=GJ s.heap a (Obj.putSet c d);split
 ·have p:=relayAll_perm d c (SetTable.grown c.size);have f:=relayAll_fits d c (SetTable.grown c.size);have j:=r.2.2.2.2.1.relay c (SetTable.grown c.size);generalize relayAll d c (SetTable.grown c.size)=Z at p f j ⊢;obtain ⟨v,I,J⟩:=Z;have B:v.size=c.size:=by
   have:=p.length_eq;rwa [Gn,Gn] at this
  have x:=B▸r.2.2.1;refine Fq (F _ _ _ (Fq (wpAny_storeSet_of h i.2.1 ?_ (fits_of_scanBound x))));obtain ⟨G,l,H⟩:=fH h i.1 i.2.1 ⟨r.1.perm p,λk=>(r.2.1 k).trans ⟨λ⟨e,m,z⟩=>⟨e,p.mem_iff.mpr m,z⟩,λ⟨e,m,z⟩=>⟨e,p.mem_iff.mp m,z⟩⟩,x,f,j.1,j.2.trans r.2.2.2.2.2⟩;exact Fs (q _ (y.trans (GJ _ a _)) (SetL.cg ⟨G,_,_,_,l,H⟩ (λ_=>rfl) B))
 ·exact Fs (q _ y ⟨D,_,_,_,h,i⟩)
theorem zm {k:K} {x:Value} {Q:Bool->Shared->Prop} (G:knd.is k x=true) (D:x.scannable=true) (X:SetL knd s.heap a S n) (I:n+1<scanBound)
  (q:∀ h',Heap.SameBut a s.heap h'->SetL knd h' a (λm=>S m||decide (m=k)) (if S k then n else n+1)->Q (!S k) { s with heap:=h' }):wpAny (model prog w) A (setAddHashed a x (knd.hash k)) Q E s:=by
 obtain ⟨o,es,W,t,i,h,hd,c,r,H,F,O,J,T⟩:=X;refine GD (Fq (HB i hd F ?_));dsimp only;rw [byScan_of D H c,if_pos rfl];refine Fq (Fq (IY (Fq (wpAny_setScan_of G i hd F c ?_))));cases M:List.findIdx? (λe=>knd.is k e.2) es.toList with
 | some j=>
  obtain ⟨hj,B,_⟩:=List.findIdx?_eq_some_iff_getElem.mp M;have g:=(r k).mpr ⟨es.toList[j],GC hj,B⟩;refine Fs (Fs ?_);have z:=q s.heap (Heap.SameBut.refl a s.heap) (SetL.cg ⟨o,es,W,t,i,h,hd,c,r,H,F,O,J,T⟩ (λm=>by
   by_cases e:m=k
   ·subst e;rw [g];rfl
   ·simp [e]) (by rw [if_pos g]))
  rw [g] at z;exact z
 | none=>
  have Z:S k=false:=by
   cases V:S k with
   | false=>rfl
   | true=>
    obtain ⟨e,Y,B⟩:=(r k).mp V;have:=List.findIdx?_eq_none_iff.mp M e Y;rw [B] at this;cases this
  have gw:∀ (b:Bool) (u:Shared) (R:Unit->Shared->Prop),R () u->wpAny (model prog w) A (match b with | true=>rule "set.scan.the-table-gave-way" | false=>pure ()) R E u:=λb u R z=>by
   cases b
   ·exact Fs z
   ·exact IY z
  have p:=layNew_perm t es (knd.hash k) x;have f:=layNew_fits t es (knd.hash k) x;have l:=J.lay es (knd.hash k) x;generalize layNew t es (knd.hash k) x=L at p f l ⊢;obtain ⟨C,t1,wd,U⟩:=L;dsimp only at p f l ⊢;rw [Array.toList_push] at p;have v:C.size=n+1:=by
   have:=p.length_eq;rw [GS,Gn,Gn,O] at this;exact this
  have d:=λh' z y=>by
   have:=q h' z;rw [Z] at this;exact this (SetL.cg y (λ_=>rfl) v)
  have N:=(c.push G D).perm p;have P:=mem_push_iff G r p;refine Fq (gw _ _ _ ?_);split
  ·rw [hashByValue_scannable 8 D];refine Fq (Fs ?_);refine cr i h hd (λb u R z=>by cases b <;> first | exact Fs z | exact IY z) ⟨N,P,by rw [v];exact I,?_,?_,?_⟩ λh' z y=>Fs (d h' z y)
   ·split
    ·exact f
    ·exact SetTable.fits_plain_off f
   ·split
    ·exact l.1
    ·exact l.1.unplain
   ·grind
  ·refine Fq (Fs ?_);rw [if_pos rfl];exact cr i h hd (λb u R z=>by cases b <;> first | exact Fs z | exact IY z) ⟨N,P,by rw [v];exact I,f,l.1,l.2.trans T⟩ λh' z y=>Fs (d h' z y)
end
section
variable {K:Type} [DecidableEq K]
def metKHt (f:Nat->K):Nat->List K
 | 0=>[]
 | i+1=>if f i∈metKHt f i then metKHt f i else metKHt f i++[f i]
theorem gf (f:Nat->K) (i:Nat):metKHt f (i+1)=if f i∈metKHt f i then metKHt f i else metKHt f i++[f i]:=rfl
theorem jF (f:Nat->K):∀ i,(metKHt f i).length<=i
 | 0=>FH _
 | i+1=>by
  have:=jF f i;unfold metKHt;split
  ·omega
  ·grind
theorem metK_nd (f:Nat->K):∀ i,(metKHt f i).Nodup
 | 0=>.nil
 | i+1=>by
  have:=metK_nd f i;unfold metKHt;split
  ·exact this
  ·rename_i c;rw [IP];exact ⟨this,by simp,λa ha b hb e=>c (by rw [Gb] at hb;rw [<- hb,<- e];exact ha)⟩
theorem metK_mem (f:Nat->K) (k:K):∀ i,k∈metKHt f i↔∃ j,j<i/\f j=k
 | 0=>by simp [metKHt]
 | i+1=>by
  have a:=metK_mem f k i;have e:k∈metKHt f (i+1)↔(k∈metKHt f i\/k=f i):=by
   rw [gf];split
   ·grind
   ·grind
  rw [e,a];constructor
  ·grind
  ·grind
end
section
variable {prog:Program} {w:World} {K:Type} [DecidableEq K] {knd:KeyKind prog w K} {A:Around} {R:Result->Shared->Prop} {I:Addr} {fp wr:List Addr} {G:Array GenState->Array GenState->Prop} {n:Nat} {P:Nat->Value->Prop} {St:Nat->Shared->Prop}
def O2 (l:List K) (k:K):Bool:=decide (k∈l)
theorem AZ (W:WalksS prog w A.in1 I fp wr G n P St) (B:Addr) (E:B∉fp) (f:Nat->K) (M:∀ i v,P i v->knd.is (f i) v=true/\v.scannable=true) (a:n+1<scanBound) :
  ∀ (k i:Nat) (s:Shared),n-i=k->i<=n->St i s->SetL knd s.heap B (O2 (metKHt f i)) (metKHt f i).length ->
   (∀ z,Moved (B :: wr) G s z->SetL knd z.heap B (O2 (metKHt f n)) (metKHt f n).length->R (.ok (.ret .none)) z)->codeAny (model prog w) A (.builtin "set.update.loop" ⟨[.ref B,.ref I],[]⟩) R s:=by
 have u:=λh=>E (W.sub _ h);have D:∀ b∈wr,b∈B :: wr:=λb a=>FQ _ a;intro k;induction k with
 | zero=>
  intro i s N F st t q;obtain rfl:i=n:=by omega
  refine Hh Iq ?_;rw [HC Hl _];refine Fq (W.done s _ _ st λz m=>?_);exact Fs (q z (m.mono D) (t.mv λo=>m.heap B o u))
 | succ k O=>
  intro i s N F st t q;have C:i<n:=by omega
  refine Hh Iq ?_;rw [HC Hl _];refine Fq (W.item i s _ _ C st λv z J r m=>?_);obtain ⟨x,H⟩:=M i v J;have l:=t.mv λo=>m.heap B o u;refine Fq (GD (GD (Fq (knd.pyHash x ?_))));refine zm x H l (by have:=jF f i;omega) λg y d=>?_;have j:SetL knd g B (O2 (metKHt f (i+1))) (metKHt f (i+1)).length:=d.cg (λQ=>by
   rw [gf];unfold O2;by_cases c:f i∈metKHt f i
   ·grind
   ·rw [if_neg c];simp) (by
   rw [gf];unfold O2;by_cases c:f i∈metKHt f i
   ·grind
   ·rw [if_neg (by simpa using c),if_neg c,GS];rfl)
  refine Fs ⟨JT Hl _,O (i+1) _ (by omega) C (W.frame _ z _ _ r (GK _) λb a o e=>?_) j λL m2 p=>?_⟩
  ·rw [y.2 b (λh:b=B=>E (h▸a))];exact e
  ·refine q L (Moved.trans W.gtrans ((m.mono D).then_heap (GK _) λb o a e=>?_) m2) p;rw [y.2 b (λh:b=B=>a (h▸FO))];exact e
end
section
variable {prog:Program} {w:World} {K:Type} [DecidableEq K] {knd:KeyKind prog w K} {A:Around} {E:Value->Shared->Prop} {s:Shared}
def K0 (knd:KeyKind prog w K) (f:Nat->K) (n:Nat) (s:Shared) (g:Heap):Prop:=SetL knd g s.heap.objs.size (O2 (metKHt f n)) (metKHt f n).length/\∀ b o,b<s.heap.objs.size->s.heap.get? b=some o->g.get? b=some o
theorem hZ (h:Heap):SetL knd (h.push (p7 (!j0 w))) h.objs.size (O2 (metKHt (K:=K) f 0)) 0:=
 ⟨_,#[],0,_,FJ _ rfl,⟨rfl,rfl,rfl⟩,rfl,λe a=>by simp at a,λk=>by simp [O2,metKHt],by decide,rfl,rfl,TbHt.fresh _ _ _,rfl⟩
theorem uP {a:Addr} {c:Array Value} (f:Nat->K) (Z:A.handled=none) (u:s.heap.IsTuple a c\/s.heap.IsList a c) (hf:∀ i v,c[i]?=some v->knd.is (f i) v=true/\v.scannable=true) (G:c.size+1<scanBound) (P:Fin->Shared->Prop) (Q:Value->Shared->Prop)
  (h:∀ (g:Heap) (d:Nat),K0 knd f c.size s g->P (.done (.ret .none)) { s with heap:=g,toks:=d }) :
  wpAny (model prog w) A (Builtin.«set.__init__» ⟨[.ref s.heap.objs.size,.ref a],[]⟩) P Q { s with heap:=s.heap.push (p7 (!j0 w)) }:=by
 have gS:(s.heap.push (p7 (!j0 w))).get? s.heap.objs.size=some (p7 (!j0 w)):=FJ _ rfl;have E:∀ (k:Obj) (L M:List Addr) (N:Nat->Heap->Prop) (W:Walks prog w A.in1 (s.heap.objs.size+1) L M c.size (λi v=>c[i]?=some v) N),M=[s.heap.objs.size+1]->s.heap.objs.size∉L->N 0 ((s.heap.push (p7 (!j0 w))).push k)->codeAny (model prog w) A (.builtin "set.update.loop" ⟨[.ref s.heap.objs.size,.ref (s.heap.objs.size+1)],[]⟩) (λr z=>∃ g d,r=.ok (.ret .none)/\z={ s with heap:=g,toks:=d }/\K0 knd f c.size s g) { s with heap:=(s.heap.push (p7 (!j0 w))).push k }:=λk L M N W ew nS st=>by
  subst ew;refine AZ (knd:=knd) W.toS s.heap.objs.size nS f hf G (c.size-0) 0 _ (by omega) (Gu _) st ?_ ?_
  ·exact (hZ (knd:=knd) (f:=f) s.heap).mv λo e=>Ft _ e
  ·rintro ⟨g,gn,Y,d,X⟩ H hS;have z1:gn=s.gens:=H.gens;have z2:Y=s.drawn:=H.drawn;have z3:X=s.os:=H.os;subst z1 z2 z3;refine ⟨g,d,rfl,rfl,hS,λb o G e=>H.heap b o ?_ (Ft _ (Ft _ e))⟩;simp only [FP,Hc,JC,not_or];exact ⟨FN G,FN (Gw G)⟩
 have S:A.in1.handled=none:=by simp [Z]
 have I:(s.heap.push (p7 (!j0 w))).objs.size=s.heap.objs.size+1:=GL _ _;have j:∀ (k:Obj),codeAny (model prog w) A (.builtin "set.update.loop" ⟨[.ref s.heap.objs.size,.ref (s.heap.objs.size+1)],[]⟩) (λr z=>∃ g d,r=.ok (.ret .none)/\z={ s with heap:=g,toks:=d }/\K0 knd f c.size s g) { s with heap:=(s.heap.push (p7 (!j0 w))).push k } ->
   wpAny (model prog w) A (runValue (.builtin "set.update.loop" ⟨[.ref s.heap.objs.size,.ref (s.heap.objs.size+1)],[]⟩) >>= λ_=>pure ()) (λ_ z=>wpAny (model prog w) A (ret Value.none) P Q z) Q { s with heap:=(s.heap.push (p7 (!j0 w))).push k }:=λk z=>by
  refine Fq (Kq (Hm z λr y ⟨g,d,C,T,e3⟩=>?_));subst C T;exact Fs (Fs (h g d e3))
 rcases u with u | u
 ·obtain ⟨ob,x,q,n,D⟩:=u;obtain ⟨J,m,t,l⟩:=ob;dsimp only at q D;subst q D;have C:=Ft (p7 (!j0 w)) x;have p:(s.heap.push (p7 (!j0 w))).IsTuple a c:=⟨_,C,rfl,n,rfl⟩;have B:=FK x;have V:=F.sub_tuple_set;have U:=F.sub_tuple_frozenset;have q3:(Value.type "tuple" == Value.type "dict")=false:=by decide
  unfold Builtin.«set.__init__» noKeywords Builtin.Frozenset.updateFrom;generalize R:pyIter=pI
  wp_walk
  subst R;refine HL p ?_;show wpAny _ _ (runValue (.builtin "set.update.loop" ⟨[.ref s.heap.objs.size,.ref (s.heap.push (p7 (!j0 w))).objs.size],[]⟩) >>= λ_=>pure ()) _ _ { s with heap:=(s.heap.push (p7 (!j0 w))).push _ };rw [I];have O:a≠s.heap.objs.size+1:=FN (Gw B);refine j _ (E _ _ _ _ (Walks.tuple S _ a O c) rfl ?_ ⟨⟨_,I▸FJ _ rfl,rfl,rfl⟩,p.push _⟩);simp only [FP,Hc,JC,not_or];exact ⟨FN (Go _),Jo B⟩
 ·obtain ⟨ob,x,q,n,D⟩:=u;obtain ⟨J,m,t,l⟩:=ob;dsimp only at q D;subst q D;have C:=Ft (p7 (!j0 w)) x;have p:(s.heap.push (p7 (!j0 w))).IsList a c:=⟨_,C,rfl,n,rfl⟩;have B:=FK x;have V:=PySem.F.sub_list_set;have U:=PySem.F.sub_list_frozenset;have q3:(Value.type "list" == Value.type "dict")=false:=by decide
  unfold Builtin.«set.__init__» noKeywords Builtin.Frozenset.updateFrom;generalize R:pyIter=pI
  wp_walk
  subst R;refine JL p ?_;show wpAny _ _ (runValue (.builtin "set.update.loop" ⟨[.ref s.heap.objs.size,.ref (s.heap.push (p7 (!j0 w))).objs.size],[]⟩) >>= λ_=>pure ()) _ _ { s with heap:=(s.heap.push (p7 (!j0 w))).push _ };rw [I];have O:a≠s.heap.objs.size+1:=FN (Gw B);refine j _ (E _ _ _ _ (Walks.list S _ a O c) rfl ?_ ⟨⟨_,I▸FJ _ rfl,rfl,rfl⟩,p.push _⟩);simp only [FP,Hc,JC,not_or];exact ⟨FN (Go _),Jo B⟩
theorem AN (a:Value) {Q:Value->Shared->Prop} (h:Q (.ref s.heap.objs.size) { s with heap:=s.heap.push (p7 (!j0 w)) }):codeAny (model prog w) A (.call (.builtin "set.__new__") ⟨[.type "set",a],[]⟩) (wants Q E) s:=by
 refine Kj ?_;show wpAny _ A.in1 (checkBuiltinCall "set.__new__" ⟨[.type "set",a],[]⟩ >>= λ_=>again (.builtin "set.__new__" ⟨[.type "set",a],[]⟩)) _ _ s;refine Fq (Ko (PySem.F.newCall_set_1 a) (Fs ⟨JT PySem.F.plain_set_new _,Hh PySem.F.entry_set_new ?_⟩));rw [HC PySem.F.plain_set_new _];unfold Builtin.«set.__new__» Builtin.Frozenset.newClass;have q:=sub_set_self;obtain ⟨e,g,d,c,b⟩:=s;dsimp only
 wp_walk
 refine Ja (Fs ?_);dsimp only;simp only [newObj];exact Fq (Kn (Fs (Fs h)))
theorem callLHt {a:Addr} {d:Array Value} (f:Nat->K) {Q:Value->Shared->Prop} (o:A.handled=none) (l:s.heap.IsTuple a d\/s.heap.IsList a d) (m:∀ i v,d[i]?=some v->knd.is (f i) v=true/\v.scannable=true) (k:d.size+1<scanBound)
  (h:∀ (g:Heap) (e:Nat),K0 knd f d.size s g->Q (.ref s.heap.objs.size) { s with heap:=g,toks:=e }):wpAny (model prog w) A (call (.type "set") [.ref a]) Q E s:=by
 obtain ⟨c,y,u⟩:=PySem.F.called_set.mro;have m2:=PySem.F.called_set.made;have B:=PySem.F.called_set.sub;refine Ib (Kj ?_);show wpAny _ _ (callAny (.type "set") _) _ _ _;refine Fs ⟨Code.quiet_builtin _ (by decide +kernel),Hh PySem.F.entry_type_call ?_⟩;rw [Around.under_plain (weight_type_call_type "set" [.ref a] []) rfl];have q:=PySem.F.called_set.notType;have C:=PySem.F.called_set.canCreate;have t:=PySem.F.typeCall_set_1 (.ref a)
 repeat (any_goals (first | assumption | wp_step))
 refine Hm (AN (.ref a) (E:=E) (Q:=λr z=>r=.ref s.heap.objs.size/\z={ s with heap:=s.heap.push (p7 (!j0 w)) }) ⟨rfl,rfl⟩) λr z b=>?_
 match r,b with
 | .error _,b=>exact b
 | .ok .next,b=>exact b.elim
 | .ok .brk,b=>exact b.elim
 | .ok .cont,b=>exact b.elim
 | .ok (.ret r),b=>
  obtain ⟨rfl,rfl⟩:=b;have n:Shared.TypeIs { s with heap:=s.heap.push (p7 (!j0 w)) } (.ref s.heap.objs.size) "set":=⟨_,FJ _ rfl,rfl⟩;have p:=PySem.F.called_set.init.lookup;have x:=PySem.F.called_set.init.bind (.ref s.heap.objs.size)
  repeat (any_goals (first | assumption | wp_step))
  refine Hm (Ie (R:=wants (λr z=>r=.none/\∃ g e,z={ s with heap:=g,toks:=e }/\K0 knd f d.size s g) E) PySem.F.called_set.init.plain PySem.F.entry_set_init (check_set_init_1 n ?_)) λr z b=>?_
  ·exact uP f (by simp [o]) l m k _ _ λg e j=>⟨rfl,g,e,rfl,j⟩
  ·match r,b with
   | .error _,b=>exact b
   | .ok .next,b=>exact b.elim
   | .ok .brk,b=>exact b.elim
   | .ok .cont,b=>exact b.elim
   | .ok (.ret r),b=>
    obtain ⟨rfl,g,e,rfl,j⟩:=b
    repeat (any_goals (first | assumption | wp_step))
    exact h _ _ j
end
theorem si_slot:Slot "set_iterator" "__next__" "set_iterator.__next__":=by
 refine .of (owner:="set_iterator") (n:="__next__") ?_ (by decide +kernel) (by decide +kernel) (by decide +kernel) ?_ ?_
 ·rw [typeLookup_type,builtinLookup_eq_fast];kernel_rfl
 ·first | exact .inl (by decide +kernel) | exact .inr (by decide +kernel)
 ·rw [Kr];kernel_rfl
theorem T0:entryFor table "set_iterator.__next__" = some Builtin.«set_iterator.__next__»:=entryFor_of_tree (by kernel_rfl)
theorem el:Manifest.owners.lookup (String.ofList ['r','o','t','a','r','e','t','i','_','t','e','s'].reverse)=some Manifest.sig_set_iterator:=by kernel_rfl
theorem aB (a:Value):argsOk "set_iterator.__next__" ⟨[a],[]⟩:=by
 unfold argsOk;rw [signature?_of (n:=['_','_','t','x','e','n','_','_']) (by kernel_rfl) el];kernel_rfl
theorem mo:entryFor table "set.__iter__" = some Builtin.«frozenset.__iter__»:=entryFor_alias (id':="frozenset.__iter__") (by kernel_rfl) rfl (by decide +kernel) (by kernel_rfl)
def SIt (h:Heap) (I a:Addr) (first:Value) (i n b:Nat):Prop:=∃ o,h.get? I=some o/\o.cls=.type "set_iterator"/\o.data=.fields #[first,.int i 0,.ref a,.int n 0,.int b 0]
theorem SIt.ty {s:Shared} {I a:Addr} {first:Value} {i n b:Nat} (x:SIt s.heap I a first i n b):s.TypeIs (.ref I) "set_iterator":=let ⟨o,d,c,_⟩:=x;⟨o,d,c⟩
section
variable {prog:Program} {w:World} {A:Around} {E:Value->Shared->Prop} {s:Shared}
theorem iO {f g i n c:Nat} {x:Value} {Q:Option Value->Shared->Prop} (b:SIt s.heap I a (.int (f:Nat) 0) i n c)
  (p:s.heap.get? a=some o) (hd:o.data=.set es c t) (q:t.fits es.size=true) (l:es.size=n)
  (hs:∀ (B:Around) (R:Option (Value×Nat)->Shared->Prop) (E:Value->Shared->Prop),R (some (x,g)) s->wpAny (model prog w) B (setNext a f i c) R E s)
  (r:∀ h',SIt h' I a (.int (g:Nat) 0) (i+1) n c->Heap.SameBut I s.heap h'->Q (some x) { s with heap:=h' }):wpAny (model prog w) A (pyNext (.ref I)) Q E s:=by
 obtain ⟨u,h,m,d⟩:=id b;refine Fq (Iy (Gx b.ty si_slot (GA si_slot b.ty T0 ?_ (aB _))));refine Fq (Fs (Fq (JD h d ?_)));refine Fq (HG p hd q ?_);rw [if_neg (by rw [l];simp)];refine Fq (hs _ _ _ ?_);refine Fq (GW h d (by simp) ?_);have e:=Obj.data_mapFields d (·.setIfInBounds 0 (rawInt g));have k:=Gp (Obj.mapFields (·.setIfInBounds 0 (rawInt g))) h (Obj.isFreed_of_fields e);refine Fq (GW k e (by simp) ?_);have j:=Obj.data_mapFields e (·.setIfInBounds 1 (rawInt ((i:Int)+1)));refine Fs ⟨_,rfl,Fs (r _ ⟨_,Gp _ k (Obj.isFreed_of_fields j),?_,?_⟩ ((GJ ..).trans (GJ ..)))⟩
 ·exact (Obj.cls_mapFields ..).trans ((Obj.cls_mapFields ..).trans m)
 ·rw [j];simp [rawInt]
theorem cp {F:Value->Shared->Prop} (b:A.handled=none) (d:s.heap.get? I=some o) (a:o.data=.fields vs) (c:k<vs.size)
  (q:∀ (e:Addr) (h':Heap),Heap.ExtBut I s.heap h'->Shared.TypeIs { s with heap:=h' } (.ref e) "StopIteration"->F (.ref e) { s with heap:=h' }) :
  wpAny (model prog w) A (setField (.ref I) k u >>= λ_=>(newExc (.type "StopIteration") [] >>= λe=>raiseNew e:Sem Fin)) P F s:=by
 refine Fq (GW d a c (Fq ?_));refine Fq (Gi ?_ (by size_fits));refine Fq (Ko (by first | rfl | (simp;rfl)) (Gi ?_ (by size_fits)));refine Fq (wpAny_handled ?_);rw [b];refine Fq (Fs (wpAny_throw ?_));exact q _ _ (((GJ ..).extBut.push _).push _) ⟨_,FJ _ rfl,rfl⟩
theorem lD {f i n c:Nat} {Q:Option Value->Shared->Prop} (l:A.handled=none) (b:SIt s.heap I a (.int (f:Nat) 0) i n c)
  (j:s.heap.get? a=some o) (hd:o.data=.set es c t) (m:t.fits es.size=true) (h:es.size=n)
  (hs:∀ (B:Around) (R:Option (Value×Nat)->Shared->Prop) (E:Value->Shared->Prop),R none s->wpAny (model prog w) B (setNext a f i c) R E s)
  (p:∀ h',Heap.ExtBut I s.heap h'->Q none { s with heap:=h' }):wpAny (model prog w) A (pyNext (.ref I)) Q E s:=by
 obtain ⟨q,g,r,d⟩:=id b;refine Fq (Iy (Gx b.ty si_slot (GA si_slot b.ty T0 ?_ (aB _))));refine Fq (Fs (Fq (JD g d ?_)));refine Fq (HG j hd m ?_);rw [if_neg (by rw [h];simp)];refine Fq (hs _ _ _ ?_);refine cp (by simp [l]) g d (by simp) λe h' x k=>?_;exact Fq (Ka k isSubtype_stop (Fs (p _ x)))
theorem gq {es:Array (Int×Value)} {t:SetTable} {ps:List Nat} {c i n f p:Nat} {z:Int} {x:Value} {Q:Option Value->Shared->Prop} (b:SIt s.heap I a (.ref tp) i n f)
  (h:s.heap.get? a=some o) (hd:o.data=.set es f t) (l:t.fits es.size=true) (r:es.size=n) (v:s.heap.get? tp=some ot) (e:ot.data=.seq (ps.map λ(k:Nat)=>rawInt (k:Int)).toArray c)
  (q:ps[i]?=some p) (u:es[p]?=some (z,x))
  (B:∀ h',SIt h' I a (.ref tp) (i+1) n f->Heap.SameBut I s.heap h'->Q (some x) { s with heap:=h' }):wpAny (model prog w) A (pyNext (.ref I)) Q E s:=by
 obtain ⟨C,g,y,d⟩:=id b;refine Fq (Iy (Gx b.ty si_slot (GA si_slot b.ty T0 ?_ (aB _))));refine Fq (Fs (Fq (JD g d ?_)));refine Fq (HG h hd l ?_);rw [if_neg (by rw [r];simp)];refine Fq (JB v e ?_);have m:(ps.map λ(k:Nat)=>rawInt (k:Int)).toArray[((i:Int).toNat:Nat)]?=some (rawInt (p:Int)):=by
  rw [GX,HW,FY,q];rfl
 dsimp only;rw [m];refine Fq (Fq (HB h hd l ?_));dsimp only;rw [if_neg (by simp),GX,u];refine Fs ?_;refine Fq (GW g d (by simp) ?_);have j:=Obj.data_mapFields d (·.setIfInBounds 1 (rawInt ((i:Int)+1)));refine Fs ⟨_,rfl,Fs (B _ ⟨_,Gp _ g (Obj.isFreed_of_fields j),?_,?_⟩ (GJ ..))⟩
 ·exact (Obj.cls_mapFields ..).trans y
 ·rw [j];simp [rawInt]
theorem lQ {es:Array (Int×Value)} {t:SetTable} {ps:List Nat} {c i n l:Nat} {Q:Option Value->Shared->Prop} (y:A.handled=none) (d:SIt s.heap I a (.ref tp) i n l)
  (v:s.heap.get? a=some o) (hd:o.data=.set es l t) (F:t.fits es.size=true) (D:es.size=n) (p:s.heap.get? tp=some ot) (h:ot.data=.seq (ps.map λ(k:Nat)=>rawInt (k:Int)).toArray c)
  (C:ps[i]?=none)
  (z:∀ h',Heap.ExtBut I s.heap h'->Q none { s with heap:=h' }):wpAny (model prog w) A (pyNext (.ref I)) Q E s:=by
 obtain ⟨H,f,G,g⟩:=id d;refine Fq (Iy (Gx d.ty si_slot (GA si_slot d.ty T0 ?_ (aB _))));refine Fq (Fs (Fq (JD f g ?_)));refine Fq (HG v hd F ?_);rw [if_neg (by rw [D];simp)];refine Fq (JB p h ?_);have u:(ps.map λ(k:Nat)=>rawInt (k:Int)).toArray[((i:Int).toNat:Nat)]?=none:=by
  rw [GX,HW,FY,C];rfl
 dsimp only;rw [u];refine Fq (GW f g (by simp) ?_);have j:=Obj.data_mapFields g (·.setIfInBounds 0 (rawInt 0));have B:=Gp (Obj.mapFields (·.setIfInBounds 0 (rawInt 0))) f (Obj.isFreed_of_fields j);refine cp (by simp [y]) B j (by simp) λe h' x r=>?_;exact Fq (Ka r isSubtype_stop (Fs (z _ λb ob m q=>x b ob m ((GJ s.heap I _).extBut b ob m q))))
end
theorem jD:Slot "set_iterator" "__iter__" "set_iterator.__iter__":=by
 refine .of (owner:="set_iterator") (n:="__iter__") ?_ (by decide +kernel) (by decide +kernel) (by decide +kernel) ?_ ?_
 ·rw [typeLookup_type,builtinLookup_eq_fast];kernel_rfl
 ·first | exact .inl (by decide +kernel) | exact .inr (by decide +kernel)
 ·rw [Kr];kernel_rfl
theorem nP:entryFor table "set_iterator.__iter__" = some Builtin.«dict_keyiterator.__iter__»:=entryFor_alias (id':="dict_keyiterator.__iter__") (by kernel_rfl) rfl (by decide +kernel) (by kernel_rfl)
theorem tW (a:Value):argsOk "set_iterator.__iter__" ⟨[a],[]⟩:=by
 unfold argsOk;rw [signature?_of (n:=['_','_','r','e','t','i','_','_']) (by kernel_rfl) el];kernel_rfl
theorem W2 {a:Type}:∀ (l:List a) (i:Nat) (h:i<l.length),(l[i] :: l.eraseIdx i).Perm l
 | [],i,h=>by cases h
 | x :: l,0,h=>.refl _
 | x :: l,i+1,h=>by
  have z:i<l.length:=Nat.lt_of_succ_lt_succ h;exact (List.Perm.swap x l[i] (l.eraseIdx i)).trans ((W2 l i z).cons x)
theorem jq (f:Nat->Nat):∀ (n k:Nat) (l:List α) (out:Array α),n=l.length->(pickOrder.go f n k l out).toList.Perm (out.toList++l)
 | 0,k,l,out,e=>by
  have:l=[]:=IG.mp e.symm;subst this;unfold pickOrder.go;simp
 | n+1,k,l,out,e=>by
  unfold pickOrder.go;have z:f k % l.length<l.length:=Nat.mod_lt _ (by omega);rw [Fy z];refine (jq f n (k+1) _ _ (by rw [List.length_eraseIdx];split <;> omega)).trans ?_;rw [Array.toList_push,GG];refine List.Perm.append_left _ ?_;exact W2 l _ z
theorem kl (f:Nat->Nat) (xs:Array α):(pickOrder f xs).toList.Perm xs.toList:=by
 have:=jq f xs.size 0 xs.toList #[] (by simp);unfold pickOrder;grind
section
variable {prog:Program} {w:World} {A:Around} {E:Value->Shared->Prop} {s:Shared}
theorem Cy {n:Nat} {Q:Nat->Shared->Prop} (a:n≠0) (q:∀ k d,k<n->Q k { s with drawn:=d }):wpAny (model prog w) A (choose src n) Q E s:=
 λ_ _ _=>⟨a,q _ _ (Nat.mod_lt _ (Nat.pos_of_ne_zero a))⟩
theorem cO:∀ (n:Nat) (l:List α) (s:Shared) (Q:List α->Shared->Prop),n=l.length->(∀ ys d,ys.Perm l->Q ys { s with drawn:=d })->wpAny (model prog w) A (drawOrder n l) Q E s
 | 0,l,s,Q,e,q=>by
  have:l=[]:=IG.mp e.symm;subst this;exact Fs (q [] s.drawn (.refl _))
 | n+1,[],s,Q,e,q=>by cases e
 | n+1,x :: l,s,Q,e,q=>by
  refine Fq (Cy (by simp) λk d a=>?_);rw [Fy a];refine Fq (cO n _ _ _ (by rw [List.length_eraseIdx,if_pos a];simp at e ⊢;omega) λys b p=>Fs ?_);exact q _ b ((p.cons _).trans (W2 (x :: l) k a))
variable {a:Addr} {o:Obj} {es:Array (Int×Value)} {t:SetTable} {ep:Nat}
theorem text_atHt (a:j0 w=true):wpAny (model prog w) A setsByText (λb z=>b=true/\s=z) E s:=Fq (Ja (Fs ⟨a,rfl⟩))
theorem text_noHt (a:j0 w=false):wpAny (model prog w) A setsByText (λb z=>b=false/\s=z) E s:=Fq (Ja (Fs ⟨a,rfl⟩))
theorem jJ {f i:Nat} {R:Option (Value×Nat)->Shared->Prop} (h:j0 w=true) (g:s.heap.get? a=some o) (hd:o.data=.set es ep t) (j:t.fits es.size=true)
  (q:R (((pickOrder (w.params.setOrder a ep) es)[i]?).map λe=>(e.2,f)) s):wpAny (model prog w) A (setNext a f i ep) R E s:=by
 refine Fq (HB g hd j (Fq (Gs (text_atHt h) (λb z ⟨c,d⟩=>?_) λ_ _ x=>x)));subst c d;rw [if_pos rfl];rw [if_neg (by simp)];refine Fq (Fq (HB g hd j (Fq (Gs (text_atHt h) (λb z ⟨c,d⟩=>?_) λ_ _ x=>x))));subst c d;rw [if_pos rfl];exact Fq (Ja (Fs (Fs q)))
theorem ph {R:Option (Value×Nat)->Shared->Prop} (d:j0 w=false) (c:s.heap.get? a=some o) (hd:o.data=.set es ep t) (h:t.fits es.size=true) (k:t.led=true) (g:(!t.plain&&decide (es.size > 1))=false)
  (q:R (match es[SetTable.below t.place f]?,t.place[SetTable.below t.place f]? with | some (_,x),some j=>some (x,j+1) | _,_=>none) s):wpAny (model prog w) A (setNext a f i ep) R E s:=by
 refine Fq (HB c hd h (Fq (Gs (text_noHt d) (λb z ⟨e,l⟩=>?_) λ_ _ x=>x)));subst e l;rw [if_neg Fz];show wpAny _ _ (if (!t.plain&&decide (es.size > 1))=true then _ else _) _ _ _;rw [g,if_neg Fz];refine Fq (?_:wpAny _ _ (if (!t.led&&!es.isEmpty)=true then _ else _) _ _ _);rw [k,if_neg (by simp)];exact Fs (Fs q)
end
section
variable {prog:Program} {w:World} {A:Around} {E:Value->Shared->Prop} {s:Shared} {K:Type} [DecidableEq K] {knd:KeyKind prog w K} {S:K->Bool} {n:Nat}
variable {a:Addr} {o:Obj} {es:Array (Int×Value)} {t:SetTable} {ep:Nat}
theorem SIt.mv {I a:Addr} {first:Value} {i n b:Nat} (x:SIt h I a first i n b) (e:∀ o,h.get? I=some o->h'.get? I=some o):SIt h' I a first i n b:=let ⟨o,c,r⟩:=x;⟨o,e o c,r⟩
theorem ia {I a:Addr} {first:Value} {i n b:Nat} {Q:Value->Shared->Prop} (x:SIt s.heap I a first i n b) (q:Q (.ref I) s):wpAny (model prog w) A (pyIter (.ref I)) Q E s:=by
 refine wpAny_pyIter_slot x.ty jD (GA jD x.ty nP ?_ (tW _));exact Fs ⟨_,rfl,"set_iterator",_,x.ty,si_slot.lookup,q⟩
def sA (t:SetTable):Nat->Nat
 | 0=>0
 | i+1=>t.place.getD i 0+1
theorem hR (l:A.handled=none) {I:Addr} (m:a≠I) (x:mS knd o S n es ep t) (f:Nat->Nat) (vs:List Value) (u:vs.length=n)
  (p:∀ i (B:Around) (s:Shared) (R:Option (Value×Nat)->Shared->Prop) (E:Value->Shared->Prop) v,s.heap.get? a=some o->vs[i]?=some v->R (some (v,f (i+1))) s->wpAny (model prog w) B (setNext a (f i) i ep) R E s)
  (k:∀ (B:Around) (s:Shared) (R:Option (Value×Nat)->Shared->Prop) (E:Value->Shared->Prop),s.heap.get? a=some o->R none s->wpAny (model prog w) B (setNext a (f n) n ep) R E s) :
  Walks prog w A I [I,a] [I] n (λi v=>vs[i]?=some v) (λi h=>SIt h I a (.int (f i:Nat) 0) i n ep/\h.get? a=some o) where
 sub:=λb d=>by simp at d;simp [d]
 frame:=λi h h' st g=>⟨st.1.mv λo e=>g I (by simp) o e,g a (by simp) _ st.2⟩
 item:=λi s Q E r st q=>by
  have e:vs[i]?=some vs[i]:=Fy (by omega);refine iO st.1 st.2 x.2.1 x.2.2.2.2.2.1 x.2.2.2.2.2.2.1 (λB R E z=>p i B s R E _ st.2 e z) λh' y j=>q _ h' s.toks e ⟨y,?_⟩ λb ob d z=>j.extBut b ob (λc=>d (by simp [c])) z;exact j.extBut _ _ m st.2
 done:=λs Q E st q=>lD l st.1 st.2 x.2.1 x.2.2.2.2.2.1 x.2.2.2.2.2.2.1 (λB R E z=>k B s R E st.2 z) λh' y=>q h' s.toks λb ob d z=>y b ob (λc=>d (by simp [c])) z
 self:=λ_ _ _ _ st q=>ia st.1 q
theorem iF (G:A.handled=none) {I g:Addr} (F:a≠I) (B:g≠I) (x:mS knd o S n es ep t) {ot:Obj} {c:Nat} (ps:List Nat) (f:ot.data=.seq (ps.map λ(k:Nat)=>rawInt (k:Int)).toArray c) (j:ps.Perm (List.range n)) :
  Walks prog w A I [I,a,g] [I] n (λi v=>(ps.map λp=>(es.toList.map (·.2)).getD p .none)[i]?=some v) (λi h=>SIt h I a (.ref g) i n ep/\h.get? a=some o/\h.get? g=some ot) where
 sub:=λb d=>by simp at d;simp [d]
 frame:=λi h h' st l=>⟨st.1.mv λo e=>l I (by simp) o e,l a (by simp) _ st.2.1,l g (by simp) _ st.2.2⟩
 item:=λi s Q E H st q=>by
  have C:ps.length=n:=by rw [j.length_eq,Gj]
  have u:=x.2.2.2.2.2.2.1;have e:ps[i]?=some (ps[i]'(by omega)):=Fy (by omega);have r:ps[i]'(by omega)<es.size:=by
   have:ps[i]'(by omega)∈List.range n:=j.mem_iff.mp (GC _);rw [u];exact Gc.mp this
  generalize ps[i]'(by omega)=p at e r;have D:=Hw r;refine gq st.1 st.2.1 x.2.1 x.2.2.2.2.2.1 u st.2.2 f e D λh' y m=>q _ h' s.toks ?_ ⟨y,m.extBut _ _ F st.2.1,m.extBut _ _ B st.2.2⟩ λb ob d z=>m.extBut b ob (λc=>d (by simp [c])) z;rw [FY,e];simp [r]
 done:=λs Q E st q=>by
  have C:ps.length=n:=by rw [j.length_eq,Gj]
  exact lQ G st.1 st.2.1 x.2.1 x.2.2.2.2.2.1 x.2.2.2.2.2.2.1 st.2.2 f (Gr (by omega)) λh' y=>q h' s.toks λb ob d z=>y b ob (λc=>d (by simp [c])) z
 self:=λ_ _ _ _ st q=>ia st.1 q
structure Itd (prog:Program) (w:World) (a:Addr) (es:Array (Int×Value)) (s z:Shared) (I:Addr):Prop where
 keep:∀ b ob,s.heap.get? b=some ob->z.heap.get? b=some ob
 rest:z={ s with heap:=z.heap,drawn:=z.drawn }
 new:s.heap.objs.size<=I
 walk:∃ (vs:List Value) (fp:List Addr) (St:Nat->Heap->Prop),vs.Perm (es.toList.map (·.2))/\(∀ B:Around,B.handled=none->Walks prog w B I fp [I] es.size (λi v=>vs[i]?=some v) St)/\St 0 z.heap/\∀ b∈fp,b=a\/(s.heap.objs.size<=b/\b<z.heap.objs.size)
theorem sg {Q:Value->Shared->Prop} (ho:s.heap.get? a=some o) (x:mS knd o S n es ep t) (q:∀ I z,Itd prog w a es s z I->Q (.ref I) z):wpAny (model prog w) A (pyIter (.ref a)) Q E s:=by
 have ty:s.TypeIs (.ref a) "set":=⟨o,ho,x.1.1⟩;have lt:=FK ho;obtain ⟨x1,x2,x3,x4,x5,x6,x7,x8,x9⟩:=id x;refine wpAny_pyIter_slot ty PySem.F.slot_set_iter (GA PySem.F.slot_set_iter ty mo ?_ (PySem.F.args_set_iter_1 _));unfold Builtin.«frozenset.__iter__» Builtin.Frozenset.slot0 slotArgs;simp only [List.isEmpty_nil,Bool.not_true,Hb,↓reduceIte,LawfulMonad.bind_assoc,Kh,IN];unfold Builtin.Frozenset.addrOf Builtin.Frozenset.sizeOf setDrawn;refine Fq (Fs ?_);dsimp only;refine Fq (Fs ?_);refine Fq (Fq (HG ho x2 x6 (Fs ?_)));refine Fq (Fq (HB ho x2 x6 ?_));have ne:a≠s.heap.objs.size:=FN lt;have small:es.size<4096:=x5;have int_:∀ (f:Nat->Nat) (vs:List Value),f 0=0->vs.Perm (es.toList.map (·.2)) ->
   (∀ i (B:Around) (s:Shared) (R:Option (Value×Nat)->Shared->Prop) (E:Value->Shared->Prop) v,s.heap.get? a=some o->vs[i]?=some v->R (some (v,f (i+1))) s->wpAny (model prog w) B (setNext a (f i) i ep) R E s) ->
   (∀ (B:Around) (s:Shared) (R:Option (Value×Nat)->Shared->Prop) (E:Value->Shared->Prop),s.heap.get? a=some o->R none s->wpAny (model prog w) B (setNext a (f n) n ep) R E s) ->
   wpAny (model prog w) A.in1 (setEpoch a >>= λk=>newFields "set_iterator" [rawInt 0,rawInt 0,.ref a,rawInt es.size,rawInt k] >>= λv=>ret v) (λfin z=>∃ v,fin=Fin.done (Flow.ret v)/\∃ T r,z.TypeIs v T/\typeLookup (Value.type T) (Str.ofString "__next__")=pure (some r)/\Q v z) E s:=λf vs f0 p h1 h2=>by
  have hn:vs.length=n:=by rw [p.length_eq,Fu,Gn,x7]
  refine Fq (wpAny_setEpoch_of ho x2 x6 (Fq (Gi (Fs ⟨_,rfl,"set_iterator",_,⟨_,FJ _ rfl,rfl⟩,si_slot.lookup,q _ _ ?_⟩) (by size_fits))));refine ⟨λb ob e=>Ft _ e,rfl,FH _,vs,[s.heap.objs.size,a],_,p,λB hB=>x7▸hR hB ne x f vs hn h1 h2,⟨⟨_,FJ _ rfl,rfl,?_⟩,Ft _ ho⟩,λb hb=>?_⟩
  ·rcases FP.mp hb with rfl | hb
   ·exact .inr ⟨FH _,by show _<(Heap.push _ _).objs.size;rw [GL];exact Go _⟩
   ·exact .inl (Gb.mp hb)
  ·rw [f0];rfl
 cases hb:j0 w with
 | true=>
  refine Fq (Gs (text_atHt hb) (λb z ⟨e1,e2⟩=>?_) λ_ _ y=>y);subst e1 e2;refine Fs ?_;have p:=kl (w.params.setOrder a ep) es;refine int_ (λ_=>0) ((pickOrder (w.params.setOrder a ep) es).toList.map (·.2)) rfl (p.map _) (λi B s R E v ho hv r=>jJ hb ho x2 x6 ?_) λB s R E ho r=>jJ hb ho x2 x6 ?_
  ·rw [FY,Hu,HK] at hv;obtain ⟨e,h1,h2⟩:=hv;rw [h1];show R (some (e.2,0)) s;rw [h2];exact r
  ·have:(pickOrder (w.params.setOrder a ep) es)[n]?=none:=by
    have:=p.length_eq;rw [Gn,Gn,x7] at this;exact IR (by omega)
   rw [this];exact r
 | false=>
  refine Fq (Gs (text_noHt hb) (λb z ⟨e1,e2⟩=>?_) λ_ _ y=>y);subst e1 e2;refine Fs ?_;cases hd:(!t.plain&&decide (es.size > 1)) with
  | false=>
   show wpAny _ _ (if (!false&&(!t.plain&&decide (es.size > 1)))=true then _ else _) _ _ _;rw [hd,if_neg (by simp)];have led:t.led=true:=by rw [x9,hb];rfl
   have fit:t.place.size=es.size:=by
    have:=x6;unfold SetTable.fits at this;simp only [FG,Ia] at this;exact this.1
   have up:Rise t.place:=by
    cases pl:t.plain with
    | true=>exact x8.up pl
    | false=>
     rw [pl] at hd;have z:t.place.size<=1:=by simp at hd;omega
     unfold Rise;have:t.place.toList.length<=1:=by simpa using z
     match t.place.toList,this with
     | [],_=>exact .nil
     | [y],_=>exact .cons (λ_ h=>by cases h) .nil
   have go:∀ i,i<=n->SetTable.below t.place (sA t i)=i:=λi hi=>by
    cases i with
    | zero=>exact gi up
    | succ i=>
     have z:i<t.place.size:=by omega
     show SetTable.below t.place (t.place.getD i 0+1)=i+1;rw [show t.place.getD i 0=t.place[i] by simp [Array.getD,z]];exact gM up z
   refine int_ (sA t) (es.toList.map (·.2)) rfl (.refl _) (λi B s R E v ho hv r=>ph hb ho x2 x6 led hd ?_) λB s R E ho r=>ph hb ho x2 x6 led hd ?_
   ·rw [FY,Hu,HK] at hv;obtain ⟨e,h1,h2⟩:=hv;have z:i<es.size:=by
     rcases Nat.lt_or_ge i es.size with u | u
     ·exact u
     ·rw [IR u] at h1;cases h1
    have z2:i<t.place.size:=by omega
    rw [go i (by omega),h1,Hw z2];obtain ⟨e1,e2⟩:=e;dsimp only at h2 ⊢;subst h2;have:sA t (i+1)=t.place[i]+1:=by show t.place.getD i 0+1=_;simp [Array.getD,z2]
    rw [this] at r;exact r
   ·rw [go n (FH _),IR (by omega)];exact r
  | true=>
   show wpAny _ _ (if (!false&&(!t.plain&&decide (es.size > 1)))=true then _ else _) _ _ _;rw [hd,if_pos (by simp)];refine Fq (cO _ _ _ _ (by simp) λps d p=>?_);have pl:ps.length=es.size:=by rw [p.length_eq,Gj]
   refine Fq (wpAny_newTuple (Fq (wpAny_setEpoch_of (Ft _ ho) x2 x6 (Fq (Gi (Fs ⟨_,rfl,"set_iterator",_,⟨_,FJ _ rfl,rfl⟩,si_slot.lookup,q _ _ ?_⟩) (by size_fits))))) (by rw [Fu,pl,Gf];omega));have ez:(s.heap.push { cls:=.type "tuple",data:=.seq (ps.map λ(k:Nat)=>rawInt (k:Int)).toArray }).objs.size=s.heap.objs.size+1:=GL _ _;refine ⟨λb ob e=>Ft _ (Ft _ e),rfl,?g1,ps.map λp=>(es.toList.map (·.2)).getD p .none,[(s.heap.push { cls:=.type "tuple",data:=.seq (ps.map λ(k:Nat)=>rawInt (k:Int)).toArray }).objs.size,a,s.heap.objs.size],_,?g2,λB hB=>x7▸iF hB ?g3 ?g4 x (ot:={ cls:=.type "tuple",data:=.seq (ps.map λ(k:Nat)=>rawInt (k:Int)).toArray }) ps rfl (x7▸p),⟨⟨_,FJ _ rfl,rfl,?g5⟩,?g6,?g7⟩,λb hb=>?g8⟩
   case g1=>
    rw [ez];exact GK _
   case g2=>
    refine (p.map _).trans ?_;have:(List.range es.size).map (λp=>(es.toList.map (·.2)).getD p .none)=es.toList.map (·.2):=by
     refine IZ (by simp) λi h1 h2=>?_;simp at h1 h2;simp [h1]
    rw [this]
   case g3=>
    rw [ez];exact FN (Gw lt)
   case g4=>
    rw [ez];exact FN (Go _)
   case g5=>
    rfl
   case g6=>
    exact Ft _ (Ft _ ho)
   case g7=>
    exact Ft _ (FJ _ rfl)
   case g8=>
    have e2:((s.heap.push { cls:=.type "tuple",data:=.seq (ps.map λ(k:Nat)=>rawInt (k:Int)).toArray }).push { cls:=.type "set_iterator",data:=.fields [Value.ref s.heap.objs.size,rawInt 0,Value.ref a,rawInt ↑es.size,rawInt ↑ep].toArray }).objs.size=s.heap.objs.size+1+1:=(GL _ _).trans (congrArg (· + 1) ez);rcases FP.mp hb with rfl | hb
    ·exact .inr ⟨by rw [ez];exact GK _,by show _<(Heap.push _ _).objs.size;rw [e2,ez];exact Go _⟩
    ·rcases FP.mp hb with rfl | hb
     ·exact .inl rfl
     ·rw [Gb.mp hb];exact .inr ⟨FH _,by show _<(Heap.push _ _).objs.size;rw [e2];exact Gw (Go _)⟩
end
section
variable {prog:Program} {w:World} {A:Around} {E:Value->Shared->Prop} {s:Shared} {K:Type} [DecidableEq K] {knd:KeyKind prog w K} {S:K->Bool} {n:Nat}
variable {a:Addr} {o:Obj} {es:Array (Int×Value)} {t:SetTable} {ep:Nat}
theorem gy (Z:A.handled=none) (H:s.heap.get? a=some o) (x:mS knd o S n es ep t)
  (q:∀ z vs,(∀ b ob,s.heap.get? b=some ob->z.heap.get? b=some ob)->z={ s with heap:=z.heap,drawn:=z.drawn,toks:=z.toks }->vs.Perm (es.toList.map (·.2))->s.heap.objs.size<z.heap.objs.size->Q vs z):wpAny (model prog w) A (collect (.ref a)) Q E s:=by
 have U:=FK H;have G:es.size<4096:=x.2.2.2.2.1;refine Fq (Kq (Hh PySem.F.entry_proto_collect ?_));rw [HC PySem.F.plain_proto_collect _];refine Fq (Gi (Fs ⟨JT Kb _,Hh PySem.F.entry_list_iadd ?_⟩));rw [HC Kb _];have k:=Ft ({ cls:=.type "list",data:=.seq ([]:List Value).toArray }:Obj) H;have N:Shared.TypeIs { s with heap:=s.heap.push { cls:=.type "list",data:=.seq ([]:List Value).toArray } } (.ref a) "set":=⟨o,k,x.1.1⟩;have R:(s.heap.push { cls:=.type "list",data:=.seq ([]:List Value).toArray }).get? s.heap.objs.size=some { cls:=.type "list",data:=.seq ([]:List Value).toArray }:=FJ _ rfl;have hz:(s.heap.push { cls:=.type "list",data:=.seq ([]:List Value).toArray }).objs.size=s.heap.objs.size+1:=GL _ _;show wpAny _ A.in1 (Builtin.List.listExtendWith (.ref s.heap.objs.size) (.ref a) (.ref s.heap.objs.size)) _ _ _;have T:Builtin.List.listSameRef (.ref s.heap.objs.size) (.ref a)=false:=by
  have:=Jo U;simp [Builtin.List.listSameRef,this]
 refine Fq (Ii N ?_);rw [if_neg (by rw [T];decide)];refine Fq (sg k x λI z d=>Fq (GD ?_));have j:z.TypeIs (.ref a) "set":=⟨o,d.keep _ _ k,x.1.1⟩;refine Fq (wpAny_specialOf j PySem.F.slot_set_len.lookup ?_)
 wp_delta
 refine Fq (Ka (b:=true) j (by rw [Kr];kernel_rfl) ?_);refine Fq (Ii j (Fs ?_));rw [if_pos (by decide)];refine Fq (IY ?_);obtain ⟨vs,X,St,p,W,st,V⟩:=d.walk;have D:=d.keep _ _ R;refine Fq ?_;refine Fq (wpAny_updateSeq D rfl ?_);have C:=Gp (Obj.mapSeq (·.push Value.none)) D rfl;refine wpAny_updateSeq C rfl ?_;have F:=Gp (Obj.mapSeq (·.pop)) C rfl;have L:s.heap.objs.size∉X:=λhm=>by
  rcases V _ hm with u | u
  ·grind
  ·grind
 have B:∀ b ob,b≠s.heap.objs.size->z.heap.get? b=some ob->((z.heap.update s.heap.objs.size (Obj.mapSeq (·.push Value.none))).update s.heap.objs.size (Obj.mapSeq (·.pop))).get? b=some ob:=
  λb ob l e=>(GU _ _ (Ne.symm l)).trans ((GU _ _ (Ne.symm l)).trans e)
 have J:=W A.in1 Z;refine Fs ⟨JT PySem.F.plain_extend_loop _,codeAny_extend_loopS J.toS (by rw [Gf];omega) _ L _ es.size 0 _ _ _ rfl (Gu _) (J.frame 0 _ _ st λb l ob e=>B b ob (λh=>L (h▸l)) e) F (ItemsOf.nil _) λy f c m v g=>?_⟩;refine Fq (Kx v (Fs (q y f.toList (λb ob e=>?_) ?_ ?_ (FK v))))
 ·have K:=FK e;refine m.heap b ob (λl=>?_) (B b ob (FN K) (d.keep b ob (Ft _ e)));rcases FP.mp l with h | h
  ·grind
  ·have:=d.new;rw [<- Gb.mp h,hz] at this;exact absurd (Ga K (Nat.le_of_succ_le this)) (HV _)
 ·have P:=m.gens;have Y:=m.os;have r:=d.rest;have r1:z.gens=s.gens:=by rw [r]
  have r2:z.os=s.os:=by rw [r]
  obtain ⟨yh,yg,yd,yt,yo⟩:=y;subst P Y;rw [r1,r2]
 ·have:f.toList=vs:=by
   have ln:vs.length=es.size:=by rw [p.length_eq,Fu,Gn]
   refine IZ (by rw [Gn,g.1,ln]) λi O M=>?_;have:vs[i]?=some f.toList[i]:=g.2 i f.toList[i] (by rw [<- Hu];exact Fy O);rw [Fy M,Option.some.injEq] at this;exact this.symm
  rw [this];exact p
end
section
variable {prog:Program} {w:World} {A:Around} {E:Value->Shared->Prop} {s:Shared} {S:Int->Bool} {n:Nat} {a:Addr}
theorem uO (h:ElemsOf (intKind prog w) l):∃ a,IntsAre (l.map (·.2)) a/\∀ k,k∈a↔∃ e∈l,(intKind prog w).is k e.2=true:=by
 induction l with
 | nil=>exact ⟨[],.nil,λk=>by simp⟩
 | cons e l d=>
  obtain ⟨a,g,c⟩:=d h.tail;obtain ⟨⟨k,b,_⟩,_⟩:=h.head;obtain ⟨t,f⟩:=Value.isInt_shape b;refine ⟨k :: a,?_,λj=>?_⟩
  ·rw [Gk,f];exact .cons k t g
  ·rw [FP,c];have:(intKind prog w).is j e.2=true↔j=k:=by
    rw [KeyKind.is_eq_decide b j,FW]
   constructor
   ·grind
   ·grind
theorem lq:∀ {us vs:List Value} {ks:List Int},us.Perm vs->IntsAre vs ks->∃ js,IntsAre us js/\js.Perm ks:=λ{us vs ks} p=>by
 induction p generalizing ks with
 | nil=>grind
 | cons x _ ih=>
  intro h;cases h with
  | cons n t h=>
   obtain ⟨js,a,b⟩:=ih h;exact ⟨n :: js,.cons n t a,b.cons n⟩
 | swap x y l=>
  intro h;cases h with
  | cons n t h=>
   cases h with
   | cons m u h=>exact ⟨_,.cons m u (.cons n t h),.swap _ _ _⟩
 | trans _ _ i1 i2=>
  intro h;obtain ⟨js,a,b⟩:=i2 h;obtain ⟨ms,c,d⟩:=i1 a;exact ⟨ms,c,d.trans b⟩
theorem perm_sub:∀ {l m:List Int},l.Nodup->(∀ x∈l,x∈m)->l.length=m.length->l.Perm m
 | [],m,_,_,e=>by
  have:m=[]:=IG.mp e.symm;subst this;exact .refl _
 | x :: l,m,a,b,e=>by
  have d:=b x FO;rw [Hz] at a;have f:=perm_sub a.2 (λy c=>(Je (λh:y=x=>a.1 (h▸c))).mpr (b y (FQ _ c))) (by
   rw [Iz d];simp at e;omega)
  exact (f.cons x).trans (List.perm_cons_erase d).symm
theorem sortLHt (v:A.handled=none) (F:SetL (intKind prog w) s.heap a (O2 ns) ns.length) (r:ns.Nodup) (D:ns.length<64)
  (q:∀ (z:Shared) (p:Addr) (out:Array Value) (ms:List Int) (c:Nat),(∀ b ob,s.heap.get? b=some ob->z.heap.get? b=some ob)->z={ s with heap:=z.heap,drawn:=z.drawn,toks:=z.toks }->s.heap.objs.size<=p->z.heap.get? p=some (seqObj "list" out c)->IntsAre out.toList ms->ms.Perm ns->ms.Pairwise (·<=·)->Q (.ref p) z) :
  wpAny (model prog w) A (call (.builtin "sorted") [.ref a]) Q E s:=by
 obtain ⟨o,es,J,t,l,x⟩:=F;obtain ⟨u,i,k2⟩:=uO x.2.2.1;have j:u.length=ns.length:=by
  rw [<- IntsAre.length i,Fu,Gn];exact x.2.2.2.2.2.2.1
 have m:=perm_sub r (λy C=>(k2 y).mpr ((x.2.2.2.1 y).mp (by simpa [O2] using C))) j.symm;refine JF JS JG JH (JI _) ?_;refine Fq (Fs (Fq (gy (by simp [v]) l x λz vs f rs p I=>Fq (Kw ?_ (by rw [p.length_eq,Fu,Gn,Gf];have z:es.size<4096:=x.2.2.2.2.1;omega)))));obtain ⟨js,k,g⟩:=lq p i;have K:vs.length=ns.length:=by rw [IntsAre.length k,g.length_eq,j]
 have d:(z.heap.push (seqObj "list" vs.toArray 0)).get? z.heap.objs.size=some (seqObj "list" vs.toArray 0):=FJ _ rfl;refine Fq (GD (GA Jp ⟨_,d,rfl⟩ Jg (Jq d k (by omega) λout ms H n G=>⟨_,rfl,Fs ⟨_,rfl,?_⟩⟩) (Jr _)));obtain ⟨c,B⟩:=sortedHeap_at d;refine q _ _ out ms c (λb ob e=>?_) ?_ (II I) B H (n.trans (g.trans m.symm)) G
 ·have h:=FK (f b ob e);rw [sortedHeap_old (FN h) (by rw [JZ];exact Gw h)];exact Ft _ (f b ob e)
 ·grind
end
end HT
namespace L2
open PySem PySem.Spec PyProof.Rows
theorem cN:∀ {cs:List Addr} {us:List Value},Vals (cs.map V.ref) us->us=cs.map Value.ref
 | [],_,h=>by cases h;rfl
 | c :: cs,_,h=>by
  cases h with
  | cons r t=>
   have e:=cN t;subst e;cases (r);rfl
theorem bT:i5 X (.builtin "isinstance") (λxs H Q=>∃ f x C d a,∃ (cs:List Addr) (b:Bool),xs=[.ref x,.ref a]/\XC X.K C/\H x=some (N2 f x C d)/\(∀ d',d=some d'->∃ fs,H d'=some (G6 d' fs))/\H a=some (.tup (cs.map V.ref))/\PySem.W.kitAny X.K (.ref C) (cs.map Value.ref)=some b/\Q (.bl b) H):=by
 intro pins s σ H xs us Q I r h;obtain ⟨f,x,C,d,a,cs,b,rfl,M,g,hd,v,j,q⟩:=h;obtain ⟨u,F,rfl,D,c⟩:=iZ r;cases (D);cases (c);have J:∃ ox od,PySem.W.InstAt s.heap x ox C od:=by
  cases d with
  | none=>obtain ⟨ox,J⟩:=(I.isX g).inst0;exact ⟨ox,_,J⟩
  | some d'=>
   obtain ⟨fs,k⟩:=hd d' rfl;obtain ⟨mA,i,_⟩:=I.isD k;obtain ⟨od,e,_⟩:=L9 i;obtain ⟨ox,J⟩:=(I.isX g).inst1 e;exact ⟨ox,_,J⟩
 obtain ⟨_,p,A,o,t,y,n,hs,l⟩:=I.hok a _ v;have B:=cN A;subst B;obtain ⟨E,od,m,w⟩:=o;cases (y);cases (hs);exact PySem.W.kia_tup (DS M.xc) I.kIn J t j (λz=>nomatch z) λG=>⟨.bl b,H,I.tok _,rfl,q⟩
end L2
namespace L3
open PySem PySem.Spec PyProof.Rows L2
inductive NamesC (X:Cx) (cl:Nat->Addr):List Expr->List Nat->Prop where
 | nil:NamesC X cl [] []
 | cons {x:Str} {p:Pos} {c:Nat} {es:List Expr} {cs:List Nat}:Gl X x->X.mg x=some (.ref (cl c))->(x==("__debug__" : Str))=false->NamesC X cl es cs->NamesC X cl (.Name x p :: es) (c :: cs)
section
variable {X:Cx} {cl:Nat->Addr} {xe:Addr->Hp->Prop} {a:Expr} {f:Env->M D} {pos p q:Pos}
theorem pA {es:List Expr} {cs:List Nat} (h:NamesC X cl es cs):PA X es λ_ H Q=>Q (cs.map λc=>V.ref (cl c)) H:=by
 induction h with
 | nil=>exact A1
 | @cons x p c es cs h1 h2 h3 _ ih=>exact f7 (te:=tC (.ref (cl c))) (t:=λ_ H Q=>Q (cs.map λc=>V.ref (cl c)) H) (dk h1 h2 rfl h3) ih rfl
theorem jb {K:PySem.W.Frag} {t:Value} {g:Nat->Value} {s:Nat->Bool}:∀ {cs:List Nat},(∀ c∈cs,PySem.W.kitOne K t (g c)=some (s c))->PySem.W.kitAny K t (cs.map g)=some (cs.any s)
 | [],_=>rfl
 | c :: cs,h=>by
  have a:=h c (by simp);show (match PySem.W.kitOne K t (g c) with
   | some true=>some true
   | some false=>PySem.W.kitAny K t (cs.map g)
   | none=>none)=_
  rw [a,Hq];cases s c with
  | true=>rfl
  | false=>exact jb λc b=>h c (by simp [b])
theorem md {cs:List Nat} {k:Nat} {sub:Nat->Nat->Bool} (hk:∀ c0∈cs,∀ c,XC X.K (cl c)->PySem.W.kitOne X.K (.ref (cl c)) (.ref (cl c0))=some (sub c c0)) (hl:cs.length<=1000) (h:PE X a (tD X.K cl xe f)) (hg:Gl X "isinstance") (hm:X.mg "isinstance" = none) (hn:NamesC X cl ys cs) (hs:noStar a=true) :
  PE X (.Call (.Name "isinstance" p) [a,.Tuple ys k q] [] pos) (tD X.K cl xe λρ=>bind (f ρ) λd=>t7 (λc=>cs.any λc0=>sub c c0) d):=by
 have key:i5 X (.builtin "isinstance") (λvs H Q=>∃ μ S d v tp,vs=[v,.ref tp]/\H tp=some (.tup (cs.map λc=>V.ref (cl c)))/\RD X.K μ H d v/\Rep X.K cl μ S H/\Post X.K cl xe μ H (t7 (λc=>cs.any λc0=>sub c c0) d S) λr _ μ' H'=>∀ v,RD X.K μ' H' r v->Q v H'):=by
  intro pins s σ H xs us Q I r ⟨μ,S,d,v,tp,ev,et,rd,rp,P⟩;subst ev;unfold t7 at P;cases rd with
  | ref h=>
   rename_i n b;simp only at P;cases q1:S[n]? with
   | none=>rw [q1] at P;exact P.elim
   | some o=>
    rw [q1] at P;cases o with
    | exc c fs=>
     have q:=P μ H (Lat.refl _ _) rp _ (.bl _);obtain ⟨xc,gs,r2,fr,h2⟩:=rp.ats n _ b q1 h;have kk:=jb λc0 hc=>hk c0 hc c xc;have et':H tp=some (.tup ((cs.map cl).map V.ref)):=by rw [Ho];exact et
     have kk':PySem.W.kitAny X.K (.ref (cl c)) ((cs.map cl).map Value.ref)=some (cs.any λc0=>sub c c0):=by rw [Ho];exact kk
     rcases h2 with ⟨z,e2⟩ | ⟨d,n1,n2,e2,e3⟩
     ·exact bT pins s σ H _ us Q I r ⟨fr,b,cl c,none,tp,cs.map cl,_,rfl,xc,e2,λ_ z=>(nomatch z),et',kk',q⟩
     ·exact bT pins s σ H _ us Q I r ⟨fr,b,cl c,some d,tp,cs.map cl,_,rfl,xc,e2,λd' z=>by cases z;exact ⟨gs,e3⟩,et',kk',q⟩
    | lst _=>exact P.elim
    | dct _=>exact P.elim
  | _=>exact False.elim P
 refine PE.imp (Q8 key hg hm (by rfl) (f7 h (f7 (oE (pA hn)) A1 (c8 rfl)) (c8 hs)) (by decide) (by decide) (c8 hs) (i8 rfl)) λσ H Q ⟨μ,S,ρ,eo,rp,P⟩=>?_;refine ⟨μ,S,ρ,eo,rp,P.bind.imp λd S1 μ1 H1 l1 r1 p1 v rv=>⟨by rw [Fu];rw [Gf];omega,λz hz=>?_⟩⟩;have l:=Lat.laid (μ:=μ1) (o:=.tup (cs.map λc=>V.ref (cl c))) hz;exact ⟨μ1,S1,d,v,z,rfl,b6,rv.later l,r1.laid hz,p1.later l⟩
end
section
variable {X:Cx} {cl:Nat->Addr} {xe:Addr->Hp->Prop}
theorem mG:Looks X.K cl xe "tuple" tupOf:=λμ S H x v G rx rp p=>by
 cases rx with
 | tup h0 r0=>
  refine ⟨?_,_,rfl⟩;rcases h0 with ⟨q,_,_⟩ | ⟨o,its,n,c1,c2,c3,c4,c5,c6⟩
  ·exact .inr (.inr (.inr (.inr ⟨rfl,_,q⟩)))
  ·exact .inr (.inl ⟨rfl,o,c1,c2,c6⟩)
 | _=>exact False.elim p
end
def CXr (P:Program) (w:World) (K:PySem.W.Frag):List PySem.Env->Hp->Shared->XK->Value->Shared->Prop:=λb H s E e s'=>
 ∃ a C d c H',e=.ref a/\s'.os=s.os/\AllBare s'.gens/\Un (frs b) [] H H' s.heap s'.heap/\HOk P w H' s'.heap/\Fx K H' a C d c/\E e none H'
abbrev CXd (P:Program) (w:World) (K:PySem.W.Frag):CXT:=⟨CXr P w K,false⟩
section
variable {K:PySem.W.Frag} {cl:Nat->Addr} {xe xe':Addr->Hp->Prop} {α β:Type} {μ:Mp} {H H':Hp} {S:Sto} {a C:Addr} {d tb:Option Addr} {P:Program} {w:World} {h:Heap}
theorem Post.ximp {G:α->Sto->Mp->Hp->Prop} (p:Post K cl xe μ H r G) (k:∀ n S μ' H' a,r=.exn n S->Lat μ H μ' H'->Rep K cl μ' S H'->μ'.pl[n]?=some a->xe a H'->xe' a H'):Post K cl xe' μ H r G:=by
 cases r with
 | ok a S=>exact p
 | exn n S=>exact λμ' H' a l r e=>k n S μ' H' a rfl l r e (p μ' H' a l r e)
 | bad=>exact p
def nx (m:M α):M α:=λS=>match m S with
 | .exn _ _=>.bad
 | r=>r
theorem Post.nx {G:α->Sto->Mp->Hp->Prop} (p:Post K cl xe μ H (nx m S) G):Post K cl xe' μ H (m S) G:=by
 unfold L3.nx at p;cases e:m S with
 | ok a S1=>rw [e] at p;exact p
 | exn n S1=>rw [e] at p;exact p.elim
 | bad=>rw [e] at p;exact p
theorem nN (f:HOk P w H h) (o:OAt K cl μ H a (.exc c fs)) (e:H a=some (N2 tb a C d)) (j:∀ T,tb=some T->T≠a/\H T=some (TbO T)):C=cl c/\Fx K H a C d tb:=by
 obtain ⟨k,gs,q,p,o⟩:=o;obtain ⟨vs,l,_⟩:=(f a _ e).1;rcases o with ⟨z,g⟩ | ⟨d',n,r,g,m⟩
 ·obtain ⟨i,b,_⟩:=(f a _ g).1;rw [l] at b;cases b;exact ⟨rfl,k,e,λd' z=>(nomatch z),j⟩
 ·obtain ⟨i,b,_⟩:=(f a _ g).1;rw [l] at b;cases b;exact ⟨rfl,k,e,λs z=>by cases z;exact ⟨n,gs,m⟩,j⟩
theorem Rep.mv {n:Nat} (r:Rep K cl μ S H) (hk:HOk P w H h) (e:μ.pl[n]?=some a) (fx:H a=some (N2 tb a C d)) (m:Mv H a C d H'):Lat μ H μ H'/\Rep K cl μ S H':=by
 have am:=FT e;have l:Lat μ H μ H':=⟨λ_ _ h=>h,λb o q nb=>m.1 b o (λz=>nb (z▸am)) q,λ_ h=>.inl h,rfl⟩;refine ⟨l,r.len,r.nd,λi o b e1 e2=>?_,λb mb=>let ⟨h1,u,h2⟩:=r.res b mb;⟨h1,u,l.oth _ _ h2 h1⟩⟩;have ho:=r.ats i o b e1 e2;by_cases hb:b=a
 ·subst hb;cases o with
  | lst ds=>obtain ⟨xs,q,_⟩:=ho;rw [fx] at q;simp [N2] at q
  | dct kvs=>obtain ⟨xs,q,_⟩:=ho;rw [fx] at q;simp [N2] at q
  | exc c fs=>
   obtain ⟨xc,gs,q,fr,o⟩:=ho;obtain ⟨tb',m2⟩:=m.2;obtain ⟨vs,q1,_⟩:=(hk b _ fx).1;rcases o with ⟨z,e2⟩ | ⟨d',h1,h2,e2,e3⟩
   ·obtain ⟨vs2,q2,_⟩:=(hk b _ e2).1;rw [q1] at q2;cases q2;exact ⟨xc,gs,Paired.mono (λ_ _ ⟨z,w⟩=>⟨z,w.later l⟩) q,tb',.inl ⟨z,m2⟩⟩
   ·obtain ⟨vs2,q2,_⟩:=(hk b _ e2).1;rw [q1] at q2;cases q2;exact ⟨xc,gs,Paired.mono (λ_ _ ⟨z,w⟩=>⟨z,w.later l⟩) q,tb',.inr ⟨d',h1,h2,m2,m.1 d' _ h1 e3⟩⟩
 ·obtain ⟨u,q⟩:=ho.some;exact ho.later l (by rw [q];exact m.1 b u hb q)
end
def xOf (X:Cx) (a:Addr) (H:Hp):Prop:=∀ (pins:List (Addr×Obj)) (σ:L2.St) (s:Shared) (C:Addr) (d b:Option Addr),L2.Inv X pins σ H s->Fx X.K H a C d b->X.xe (.ref a) s
def xD (X:Cx) (pins:List (Addr×Obj)) (σ:L2.St) (F:Addr->Hp->Prop) (c:Value) (s:Shared):Prop:=∃ a H C d b,c=.ref a/\L2.Inv X pins σ H s/\Fx X.K H a C d b/\F a H
def PX (X:Cx) (cl:Nat->Addr) (e:Expr) (f:Env->M D):Prop:=∀ (pins:List (Addr×Obj)) (s:Shared) (σ:L2.St) (H:Hp) (Q:VK) (F:Addr->Hp->Prop),L2.Inv X pins σ H s->tD X.K cl F f σ H Q ->
 wpAny (model X.prog X.w) X.A (eval e X.env) (EP X pins σ Q) (xD X pins σ F) s
def spX (K:PySem.W.Frag) (cl:Nat->Addr) (n:Nat) (a:List D->M D):Sp:=λvs H Q E=>vs.length=n/\∃ μ S ds,RDs K μ H ds vs/\Rep K cl μ S H/\Post K cl (gp E) μ H (a ds S) λd _ μ' H'=>∀ v,RD K μ' H' d v->Q v H'
section
variable {X:Cx} {cl:Nat->Addr} {e:Expr} {es:List Expr} {f:Env->M D} {pos p:Pos}
theorem PX.of (h:PE X.nox e (tD X.K cl x0 f)):PX X cl e λρ=>nx (f ρ):=λpins s σ H Q F I ⟨μ,S,ρ,a,b,p⟩=>
 Gs (h pins s σ H Q (I.wish _) ⟨μ,S,ρ,a,b,p.nx⟩) (λ_ _ ⟨v,H',c,r,q⟩=>⟨v,H',c.unwish,r,q⟩) λ_ _ z=>False.elim z
theorem vZ {k n:Nat} {a:Addr} {fd:FuncData} {ps:List Str} {x:Str} {fs:Env->M (List D)} {run:List D->M D} (hn:ps.length=n) (F:FnOk X.prog X.w X.K X.mg X.base (CXd X.prog X.w X.K) k a fd ps (spX X.K cl n run)) (hr:Room false k X.A) (hg:Gl X x) (hm:X.mg x=some (.ref a)) (hk:PySem.W.keepIn X.K (.ref a)=true) (hb:Binds X.K fd ps [])
  (ha:PA X.nox (e :: es) (tDs X.K cl x0 fs)) (hdb:(x==("__debug__" : Str))=false) (hs:(e :: es).all noStar=true) :
  PX X cl (.Call (.Name x p) (e :: es) [] pos) λρ=>bind (nx (fs ρ)) λds=>if ds.length=n then run ds else bad:=by
 rw [Gy,FG] at hs;intro pins s σ H Q F0 I ⟨μ,S,ρ,eo,rp,p⟩;refine GR (G4 I hg hm ?_ hdb);refine IC I.ok.mod.kin hk (Gs (ha pos pins s σ H (λvs H1=>∃ μ1 S1 ds,RDs X.K μ1 H1 ds vs/\Rep X.K cl μ1 S1 H1/\Post X.K cl F0 μ1 H1 ((if ds.length=n then run ds else bad) S1) λd _ μ' H'=>∀ v,RD X.K μ' H' d v->Q v H') (I.wish _) ⟨μ,S,ρ,eo,rp,p.bind.nx.imp λds S1 μ1 H1 l1 r1 p1 vs rvs=>⟨μ1,S1,ds,rvs,r1,p1⟩⟩)
  (λus s1 ⟨vs,H1,I1,r,μ1,S1,ds,rvs,r1,p1⟩=>⟨I1.unwish.kIn,?_⟩) λ_ _ z=>False.elim z) (c8 hs.1) (i8 hs.2)
 have I1:=I1.unwish;by_cases hd:ds.length=n
 ·rw [if_pos hd] at p1;have hl:us.length=ps.length:=by rw [<- r.length,<- rvs.length,hd,hn]
  have hb2:=hb s1 us I1.kIn (by rw [Gv];exact hl);rw [Gv] at hb2;refine Ib (Hm (F.run X.A X.stack s1 H1 ⟨us,[]⟩ us vs Q (λev _ H=>∀ a,ev=.ref a->F0 a H) hr I1.env0 hb2 r ⟨by rw [<- rvs.length];exact hd,μ1,S1,ds,rvs,r1,p1.ximp λ_ _ _ _ a _ _ _ _ h a' z=>by cases z;exact h⟩) λres s' hq=>?_);cases res with
  | error ev=>
   obtain ⟨a',C,d,tb,H',he,os,bare,un,hok,fx,q⟩:=hq;exact ⟨a',H',C,d,tb,he,I1.call' os un hok bare (λb z=>absurd z (by simp)),fx,q a' he⟩
  | ok fl=>
   cases fl with
   | ret u=>exact I1.after hq
   | next=>exact False.elim hq
   | brk=>exact False.elim hq
   | cont=>exact False.elim hq
 ·rw [if_neg hd] at p1;exact p1.elim
def A3 (d:D):M Fl:=match d with
 | .ref n=>λS=>match S[n]? with
  | some (.exc _ _)=>.exn n S
  | _=>.bad
 | _=>bad
theorem qS (hc:X.calm=true) (h:PE X e (tDf X.K cl (xOf X) f)):PS X (.Raise (some e) none pos) (sD X.K cl (xOf X) λρ=>bind (f ρ) A3):=by
 intro pins s σ H D I ⟨μ,S,ρ,eo,rp,p⟩;refine Fq (Iv (dE (K:=X.K) (I.ok.hd hc) (Fq (Gs (h pins s σ H (λv H1=>∃ (x C:Addr) (d:Option Addr) (μ1:Mp) (S1:Sto) (n c:Nat) (fs:List (Str×L3.D)),v=.ref x/\XC X.K C/\H1 x=some (P5 x C d)/\Rep X.K cl μ1 S1 H1/\S1[n]?=some (O.exc c fs)/\μ1.pl[n]?=some x/\xOf X x H1) I ⟨μ,S,ρ,eo,rp,p.bind.imp λd S1 μ1 H1 l1 r1 p1 v rv fr=>?_⟩)
  (λu s1 ⟨v,H1,I1,ru,x,C,d,μ1,S1,n,c,fs,ev,xc,ex,r1,e1,e2,xo⟩=>Fq (Iv (Fs ?_))) λ_ _ z=>z))))
 ·cases rv with
  | ref hp=>
   rename_i n a;obtain ⟨x,C,d,ev,xc,ex⟩:=fr;cases ev;simp only [A3] at p1;cases q:S1[n]? with
   | none=>rw [q] at p1;exact p1.elim
   | some o=>
    rw [q] at p1;cases o with
    | exc c fs=>exact ⟨_,C,d,μ1,S1,n,c,fs,rfl,xc,ex,r1,q,hp,p1 μ1 H1 _ (Lat.refl _ _) r1 hp⟩
    | lst _=>exact p1.elim
    | dct _=>exact p1.elim
  | _=>exact False.elim p1
 ·subst ev;obtain rfl:u=Value.ref x:=ru;have fx:=(nN I1.hok (r1.ats n _ x e1 e2) ex λT z=>(nomatch z)).2;exact ⟨x,C,d,rfl,I1.kIn,xc,I1.isX ex,xo pins σ s1 C d none I1 fx⟩
end
section
variable {K:PySem.W.Frag} {cl:Nat->Addr} {xe xe':Addr->Hp->Prop} {α:Type} {μ:Mp} {H:Hp}
theorem Post.up {G:α->Sto->Mp->Hp->Prop} (p:Post K cl xe μ H r G) (k:∀ a H',xe a H'->xe' a H'):Post K cl xe' μ H r G:=p.ximp λ_ _ _ H' a _ _ _ _ h=>k a H' h
theorem Post.x0 {G:α->Sto->Mp->Hp->Prop} (p:Post K cl (gp E0) μ H r G):Post K cl xe μ H r G:=p.up λ_ _ z=>False.elim z
end
abbrev x0:Addr->Hp->Prop:=gp E0
section
variable {X:Cx} {cl:Nat->Addr} {xe:Addr->Hp->Prop} {e tg:Expr} {es:List Expr}
theorem PE.x0 (h:PE X e (tD X.K cl xe f)):PE X e (tD X.K cl x0 f):=PE.imp h λσ H Q ⟨μ,S,ρ,a,b,p⟩=>⟨μ,S,ρ,a,b,p.x0⟩
theorem PTL.x0 (h:PTL X es (tBo X.K cl xe f)):PTL X es (tBo X.K cl x0 f):=λpins s σ H Q I ⟨μ,S,ρ,a,b,p⟩=>h pins s σ H Q I ⟨μ,S,ρ,a,b,p.x0⟩
theorem PA.x0 (h:PA X es (tDs X.K cl xe f)):PA X es (tDs X.K cl x0 f):=PA.imp h λσ H Q ⟨μ,S,ρ,a,b,p⟩=>⟨μ,S,ρ,a,b,p.x0⟩
theorem PI.x0 (h:PI X tg e (tIt X.K cl xe f)):PI X tg e (tIt X.K cl x0 f):=PI.imp h λσ H Q ⟨μ,S,ρ,a,b,p⟩=>⟨μ,S,ρ,a,b,p.x0⟩
theorem PSs.x0 (h:PSs X sts (sD X.K cl xe f)):PSs X sts (sD X.K cl x0 f):=PSs.imp h λD σ H ⟨μ,S,ρ,a,b,p⟩=>⟨μ,S,ρ,a,b,p.x0⟩
theorem kW (h:PE X e (pe X.K cl x0 fs)):PE X e (tD X.K cl xe λρ=>bind (nx (fs ρ)) λds=>ret (.lst ds)):=PE.imp h λσ H Q ⟨μ,S,ρ,f,j,p⟩=>
 ⟨μ,S,ρ,f,j,p.bind.nx.imp λds S1 b d l g i c ys k a=>i.ret b d (Lat.refl _ _) g _ (.lst k a)⟩
theorem wy:v3 (CXd X.prog X.w X.K) X (λl _ H=>∀ a,l=.ref a->xOf X a H):=λpins σ H s e s' I ⟨a,C,d,i,H',k,g,c,j,f,h,q⟩=>by
 subst k;exact q a rfl pins σ s' C d i (I.call' g j f c λb z=>absurd z (by simp)) h
theorem sN {a:Addr} {fd:FuncData} {ps:List Str} {x:Str} {p pos:Pos} {fs:Env->M (List D)} {b:List D->M D} (F:FnOk X.prog X.w X.K X.mg X.base (CXd X.prog X.w X.K) k a fd ps (spX X.K cl n b)) (l:Room false k X.A) (j:Gl X x) (o:X.mg x=some (.ref a)) (i:PySem.W.keepIn X.K (.ref a)=true) (t:Binds X.K fd ps [])
  (s:PA X (e :: es) (tDs X.K cl (xOf X) fs)) (g:(x==("__debug__" : Str))=false) (hs:(e :: es).all noStar=true) :
  PE X (.Call (.Name x p) (e :: es) [] pos) (tD X.K cl (xOf X) λρ=>bind (fs ρ) λds=>if ds.length=n then b ds else bad):=by
 rw [Gy,FG] at hs;exact PE.imp (im F l j o i t .nil wy s g (c8 hs.1) (i8 hs.2)) λσ H Q ⟨μ,S,ρ,m,r,p⟩=>
  ⟨μ,S,ρ,m,r,p.bind.imp λds S1 f u w q d vs c=>by
   by_cases hd:ds.length=n
   ·rw [if_pos hd] at d;exact ⟨by rw [Gv,<- c.length];exact hd,f,S1,ds,by rw [Gv];exact c,q,d.up λa H' h v z=>by cases z;exact h⟩
   ·rw [if_neg hd] at d;exact d.elim⟩
theorem ko {b:List D->M D} (F:FnOk X.prog X.w X.K X.mg X.base (CXd X.prog X.w X.K) k a fd ps (spX X.K cl 0 b)) (f:Room false k X.A) (e:Gl X x) (g:X.mg x=some (.ref a)) (d:PySem.W.keepIn X.K (.ref a)=true) (j:Binds X.K fd ps [])
  (c:(x==("__debug__" : Str))=false):PE X (.Call (.Name x p) [] [] pos) (tD X.K cl (xOf X) λρ=>b []):=PE.imp (qJ F f e g d j .nil wy c) λσ H Q ⟨μ,S,ρ,l,i,p⟩=>⟨rfl,μ,S,[],.nil,i,p.up λa H' h m z=>by cases z;exact h⟩
end
inductive G where
 | val (d:D) | fn (i n:Nat) | err (c:Nat) (fs:List Str) | dct (kvs:List (Str×D))
structure Gm where
 gl:List (Str×G)
 sub:Nat->Nat->Bool
 flds:List Str
 qs:List Nat:=[]
structure Lc where
 N:List Str
 sc:Scope
 fr:Bool
 mu:List Str
def quiet (a:Lc):Bool:=a.mu.contains ("~" : Str)
structure Ev where
 e:Lc->Expr->Env->M D
 t:Lc->Expr->Env->M Bool
 s:Lc->Stmt->Env->M Fl
 i:Lc->Expr->Expr->Env->M (Src×Nat)
structure EvK where
 e:Lc->Expr->Env->∀ {α:Type},(D->M α)->M α
 t:Lc->Expr->Env->∀ {α:Type},(Bool->M α)->M α
 s:Lc->Stmt->Env->∀ {α:Type},(Fl->M α)->M α
 i:Lc->Expr->Expr->Env->∀ {α:Type},(Src×Nat->M α)->M α
structure EqK (r:Ev) (q:EvK):Prop where
 e:∀ lc e ρ {α:Type} (k:D->M α),q.e lc e ρ k=bind (r.e lc e ρ) k
 t:∀ lc e ρ {α:Type} (k:Bool->M α),q.t lc e ρ k=bind (r.t lc e ρ) k
 s:∀ lc e ρ {α:Type} (k:Fl->M α),q.s lc e ρ k=bind (r.s lc e ρ) k
 i:∀ lc g e ρ {α:Type} (k:Src×Nat->M α),q.i lc g e ρ k=bind (r.i lc g e ρ) k
theorem bS (k:α->M β):bind bad k=bad:=rfl
theorem m8 {c:Prop} [Decidable c] (a b:M α) (k:α->M β):bind (if c then a else b) k=if c then bind a k else bind b k:=by split <;> rfl
theorem y7 (m:M α):bind m ret=m:=by
 funext S;unfold bind ret;cases m S <;> rfl
def e8:List Str->Str->Option Nat
 | [],_=>none
 | y :: ys,x=>if y=x then some 0 else (e8 ys x).map (· + 1)
theorem p0:∀ {N:List Str} {x:Str} {i:Nat},e8 N x=some i->N[i]?=some x
 | [],_,_,e=>by cases e
 | y :: ys,x,i,e=>by
  unfold e8 at e;split at e
  ·rename_i h;cases e;simp [h]
  ·cases q:e8 ys x with
   | none=>rw [q] at e;cases e
   | some j=>rw [q] at e;cases e;simpa using p0 q
def rF (a:Scope) (x:Str):Bool:=decide (a.names.lookup x=some .local)||decide (a.names.lookup x=some .cell)||decide (a.names.lookup x=some .free)
def cA (a:Scope) (x:Str):Bool:=decide (a.names.lookup x=some .local)||decide (a.names.lookup x=some .cell)
def glB (a:Scope) (x:Str):Bool:=decide (a.names.lookup x=some .globalImplicit)
def n4 (x:Str):Bool:=!(x==("__debug__" : Str))&&!(x==("__classdict__" : Str))&&!(x==("__name__" : Str))
theorem tu (h:rF sc x=true):Vis sc x:=by
 simpa [rF,Vis,or_assoc] using h
theorem G1 (h:cA sc x=true):L2.Loc sc x:=by
 simpa [cA,L2.Loc] using h
theorem n8 (h:n4 x=true):(x==("__debug__" : Str))=false/\(x==("__classdict__" : Str))=false/\x ≠ "__name__":=by
 simpa [n4,and_assoc] using h
structure Tx where
 P:Program
 w:World
 K:PySem.W.Frag
 mg:Str->Option Value
 base:Heap
 cl:Nat->Addr
def bnames:List Str:=["len","tuple","list","repr","isinstance","range","int","bool","str","dict","ValueError","all","any","sum","max","min","sorted","set","enumerate","abs","zip"]
abbrev CXq (q:Bool):CXT:=⟨λ_ _ _ _ _ _=>False,q⟩
theorem BF:v3 (CXq q) X E0:=λ_ _ _ _ _ _ _ h=>False.elim h
structure FnX (T:Tx) (k i n:Nat) (x:Str) (run:List D->M D):Prop where
 ex:∃ (a:Addr) (fd:FuncData) (ps:List Str),ps.length=n/\FnOk T.P T.w T.K T.mg T.base (CXd T.P T.w T.K) k a fd ps (spX T.K T.cl n run)/\T.mg x=some (.ref a)/\PySem.W.keepIn T.K (.ref a)=true/\Binds T.K fd ps []
structure FnAt (T:Tx) (k i n:Nat) (x:Str) (run:List D->M D):Prop where
 ex:∃ (a:Addr) (fd:FuncData) (ps:List Str),ps.length=n/\FnOk T.P T.w T.K T.mg T.base (CXq true) k a fd ps (spD T.K T.cl n run)/\T.mg x=some (.ref a)/\PySem.W.keepIn T.K (.ref a)=true/\Binds T.K fd ps []
structure ErrAt (T:Tx) (x:Str) (c:Nat) (fs:List Str):Prop where
 xc:XC T.K (T.cl c)
 mg_:T.mg x=some (.ref (T.cl c))
 ex:∃ (f:Addr) (fd:FuncData) (ps:List Str),PySem.W.findIn T.K (.ref (T.cl c)) "__init__" = some (some (.ref f))/\PySem.W.isFn T.K (.ref f)=true/\Binds T.K fd ps [] /\
  match fs with
  | []=>FnOk T.P T.w T.K T.mg T.base CX0 2 f fd ps (Hn.spHE T.K)
  | [g]=>FnOk T.P T.w T.K T.mg T.base CX0 2 f fd ps (Hn.sp1 T.K g)
  | [g,g2]=>FnOk T.P T.w T.K T.mg T.base CX0 2 f fd ps (Hn.sp2 T.K g g2)
  | _=>False
def mq (T:Tx) (x:Str) (b:List (Str×D)):Prop:=∃ (a:Addr) (es:Array DictEntry) (n:Nat),T.mg x=some (.ref a)/\T.K.lookup a=some ⟨.type "dict",none,.dict es n,#[]⟩/\PySem.W.KeysLit T.w.params es.toList/\∀ k d,b.lookup k=some d->∃ u v,PySem.W.nsIn T.K a k=some (some u)/\RelV v u/\∀ μ H,RD T.K μ H d v
structure TxOk (T:Tx) (Γ:Gm) (k:Nat) (C:Nat->List D->M D):Prop where
 blt:∀ x∈bnames,Γ.gl.lookup x=none->T.mg x=none
 val:∀ x d,Γ.gl.lookup x=some (.val d)->∃ u v,T.mg x=some u/\RelV v u/\∀ μ H,RD T.K μ H d v
 fn:∀ x i n,Γ.gl.lookup x=some (.fn i n)->i∉Γ.qs->FnX T k i n x (C i)
 fnq:∀ x i n,Γ.gl.lookup x=some (.fn i n)->i∈Γ.qs->FnAt T k i n x (C i)
 err:∀ x c fs,Γ.gl.lookup x=some (.err c fs)->ErrAt T x c fs/\(∀ g∈fs,t8 T.K (T.cl c) g)
 sub:∀ x c c0 fs,Γ.gl.lookup x=some (.err c0 fs)->XC T.K (T.cl c)->PySem.W.kitOne T.K (.ref (T.cl c)) (.ref (T.cl c0))=some (Γ.sub c c0)
 subV:∀ c,XC T.K (T.cl c)->PySem.W.kitOne T.K (.ref (T.cl c)) (.type "ValueError")=some true
 subT:∀ c,XC T.K (T.cl c)->∀ t∈tys,PySem.W.kitOne T.K (.ref (T.cl c)) (.type t)=some false
 fld:∀ g∈Γ.flds,∀ c,XC T.K (T.cl c)->t8 T.K (T.cl c) g
 dct:∀ x kvs,Γ.gl.lookup x=some (.dct kvs)->mq T x kvs
 k3:3<=k
structure CxOk (T:Tx) (k:Nat) (lc:Lc) (X:Cx):Prop where
 prog:X.prog=T.P
 w:X.w=T.w
 K:X.K=T.K
 mg:X.mg=T.mg
 base:X.base=T.base
 N:X.N=lc.N
 nd:lc.N.Nodup
 sc:X.env.scope=lc.sc
 calm:quiet lc=false->X.calm=true
 room:Room (quiet lc) k X.A
 po:PassesOwn (model X.prog X.w) X.A X.env X.xe
 fn:X.fn=λ_=>lc.fr
 kd:lc.sc.kind=.function
 own:lc.fr=true->quiet lc=false->X.stack=X.env :: X.outer/\X.env.frame=some X.env.locals
structure EvOk (T:Tx) (k:Nat) (r:Ev):Prop where
 e:∀ lc X,CxOk T k lc X->∀ e,PE X e (tD T.K T.cl (xOf X) (r.e lc e))
 t:∀ lc X,CxOk T k lc X->∀ e,PT X e (tBo T.K T.cl (xOf X) (r.t lc e))
 s:∀ lc X,CxOk T k lc X->lc.fr=true->∀ st,PS X st (sD T.K T.cl (xOf X) (r.s lc st))
 i:∀ lc X,CxOk T k lc X->∀ g e,PI X g e (tIt T.K T.cl (xOf X) (r.i lc g e))
section
variable {T:Tx} {k:Nat} {r:Ev} {Γ:Gm} {C:Nat->List D->M D} {lc:Lc} {X:Cx} {pos:Pos}
theorem EvOk.ex (R:EvOk T k r) (h:CxOk T k lc X) (e:Expr):PE X e (tD X.K T.cl (xOf X) (r.e lc e)):=by rw [h.K];exact R.e lc X h e
theorem EvOk.tx (R:EvOk T k r) (h:CxOk T k lc X) (e:Expr):PT X e (tBo X.K T.cl (xOf X) (r.t lc e)):=by rw [h.K];exact R.t lc X h e
theorem EvOk.ix (R:EvOk T k r) (h:CxOk T k lc X) (g e:Expr):PI X g e (tIt X.K T.cl (xOf X) (r.i lc g e)):=by rw [h.K];exact R.i lc X h g e
theorem EvOk.sx (R:EvOk T k r) (h:CxOk T k lc X) (a:lc.fr=true) (st:Stmt):PS X st (sD X.K T.cl (xOf X) (r.s lc st)):=by rw [h.K];exact R.s lc X h a st
theorem CxOk.u64 (h:CxOk T k lc X):X.A.units+64<cLine:=h.room.units
theorem CxOk.u80 (h:CxOk T k lc X):X.A.units+80<cLine:=by have:=h.room.un;omega
theorem CxOk.u1 (h:CxOk T k lc X):X.A.units+1<cLine:=BU h.room
theorem CxOk.gl (h:CxOk T k lc X) {x:Str} (a:glB lc.sc x=true):Gl X x:=by
 show X.env.kindOf x=_;unfold PySem.Env.kindOf;rw [h.sc];exact Gg a
theorem TxOk.none (a:TxOk T Γ k C) (h:CxOk T k lc X) {x:Str} (b:x∈bnames) (e:Γ.gl.lookup x=none):X.mg x=none:=by rw [h.mg];exact a.blt x b e
theorem CxOk.nd' (h:CxOk T k lc X):X.N.Nodup:=by rw [h.N];exact h.nd
theorem CxOk.fn1 (h:CxOk T k lc X) (a:lc.fr=true) {x:Str}:X.fn x=true:=by rw [h.fn];exact a
theorem CxOk.room0 (h:CxOk T k lc X) (a:quiet lc=false):Room false k X.A:=by have:=h.room;rw [a] at this;exact this
theorem CxOk.nox (h:CxOk T k lc X):CxOk T k lc X.nox:=⟨h.prog,h.w,h.K,h.mg,h.base,h.N,h.nd,h.sc,h.calm,h.room,PassesOwn.never,h.fn,h.kd,h.own⟩
end
abbrev Cf:=Nat->List D->M D
structure RuE:Type 1 where
 is:Gm->Lc->Expr->Bool
 run:Ev->Gm->Cf->Lc->Expr->Env->M D
 ok:∀ {T:Tx} {k:Nat} {r:Ev} {Γ:Gm} {C:Cf} {lc:Lc} {X:Cx} (e:Expr),EvOk T k r->TxOk T Γ k C->CxOk T k lc X->is Γ lc e=true->PE X e (tD X.K T.cl (xOf X) (run r Γ C lc e))
 runK:EvK->Gm->Cf->Lc->Expr->Env->∀ {α:Type},(D->M α)->M α
 eq:∀ {r:Ev} {q:EvK} {Γ:Gm} {C:Cf} {lc:Lc} (e:Expr) (ρ:Env) {α:Type} (k:D->M α),EqK r q->runK q Γ C lc e ρ k=bind (run r Γ C lc e ρ) k
structure RuT:Type 1 where
 is:Gm->Lc->Expr->Bool
 run:Ev->Gm->Cf->Lc->Expr->Env->M Bool
 ok:∀ {T:Tx} {k:Nat} {r:Ev} {Γ:Gm} {C:Cf} {lc:Lc} {X:Cx} (e:Expr),EvOk T k r->TxOk T Γ k C->CxOk T k lc X->is Γ lc e=true->PT X e (tBo X.K T.cl (xOf X) (run r Γ C lc e))
 runK:EvK->Gm->Cf->Lc->Expr->Env->∀ {α:Type},(Bool->M α)->M α
 eq:∀ {r:Ev} {q:EvK} {Γ:Gm} {C:Cf} {lc:Lc} (e:Expr) (ρ:Env) {α:Type} (k:Bool->M α),EqK r q->runK q Γ C lc e ρ k=bind (run r Γ C lc e ρ) k
structure RuS:Type 1 where
 is:Gm->Lc->Stmt->Bool
 run:Ev->Gm->Cf->Lc->Stmt->Env->M Fl
 ok:∀ {T:Tx} {k:Nat} {r:Ev} {Γ:Gm} {C:Cf} {lc:Lc} {X:Cx} (e:Stmt),EvOk T k r->TxOk T Γ k C->CxOk T k lc X->lc.fr=true->is Γ lc e=true->PS X e (sD X.K T.cl (xOf X) (run r Γ C lc e))
 runK:EvK->Gm->Cf->Lc->Stmt->Env->∀ {α:Type},(Fl->M α)->M α
 eq:∀ {r:Ev} {q:EvK} {Γ:Gm} {C:Cf} {lc:Lc} (e:Stmt) (ρ:Env) {α:Type} (k:Fl->M α),EqK r q->runK q Γ C lc e ρ k=bind (run r Γ C lc e ρ) k
structure RuI:Type 1 where
 is:Gm->Lc->Expr->Expr->Bool
 run:Ev->Gm->Cf->Lc->Expr->Env->M (Src×Nat)
 ok:∀ {T:Tx} {k:Nat} {r:Ev} {Γ:Gm} {C:Cf} {lc:Lc} {X:Cx} (g e:Expr),EvOk T k r->TxOk T Γ k C->CxOk T k lc X->is Γ lc g e=true->PI X g e (tIt X.K T.cl (xOf X) (run r Γ C lc e))
 runK:EvK->Gm->Cf->Lc->Expr->Env->∀ {α:Type},(Src×Nat->M α)->M α
 eq:∀ {r:Ev} {q:EvK} {Γ:Gm} {C:Cf} {lc:Lc} (e:Expr) (ρ:Env) {α:Type} (k:Src×Nat->M α),EqK r q->runK q Γ C lc e ρ k=bind (run r Γ C lc e ρ) k
structure Rules:Type 1 where
 es:List RuE
 ts:List RuT
 ss:List RuS
 is:List RuI
section
variable (Rs:Rules) (Γ:Gm) (C:Cf)
def step (r:Ev):Ev:=
 ⟨λa e=>match Rs.es.find? (λR=>R.is Γ a e) with
  | some R=>R.run r Γ C a e
  | none=>λ_=>bad,
 λa e=>match Rs.ts.find? (λR=>R.is Γ a e) with
  | some R=>R.run r Γ C a e
  | none=>λ_=>bad,
 λa e=>match Rs.ss.find? (λR=>R.is Γ a e) with
  | some R=>R.run r Γ C a e
  | none=>λ_=>bad,
 λa g e=>match Rs.is.find? (λR=>R.is Γ a g e) with
  | some R=>R.run r Γ C a e
  | none=>λ_=>bad⟩
def badEv:Ev:=⟨λ_ _ _=>bad,λ_ _ _=>bad,λ_ _ _=>bad,λ_ _ _ _=>bad⟩
def ev:Nat->Ev
 | 0=>badEv
 | n+1=>step Rs Γ C (ev n)
def wV (q:EvK):EvK:=
 ⟨λa e ρ _ k=>match Rs.es.find? (λR=>R.is Γ a e) with
  | some R=>R.runK q Γ C a e ρ k
  | none=>bad,
 λa e ρ _ k=>match Rs.ts.find? (λR=>R.is Γ a e) with
  | some R=>R.runK q Γ C a e ρ k
  | none=>bad,
 λa e ρ _ k=>match Rs.ss.find? (λR=>R.is Γ a e) with
  | some R=>R.runK q Γ C a e ρ k
  | none=>bad,
 λa g e ρ _ k=>match Rs.is.find? (λR=>R.is Γ a g e) with
  | some R=>R.runK q Γ C a e ρ k
  | none=>bad⟩
def Eg:EvK:=⟨λ_ _ _ _ _=>bad,λ_ _ _ _ _=>bad,λ_ _ _ _ _=>bad,λ_ _ _ _ _ _=>bad⟩
def evK:Nat->EvK
 | 0=>Eg
 | n+1=>wV Rs Γ C (evK n)
end
section
variable {Rs:Rules} {T:Tx} {k:Nat} {r:Ev} {q:EvK} {Γ:Gm} {C:Cf} {lc:Lc} {X:Cx}
theorem du (d:TxOk T Γ k C) (R:EvOk T k r):EvOk T k (step Rs Γ C r):=by
 refine ⟨λa X h e=>?_,λa X h e=>?_,λa X h c e=>?_,λa X h g e=>?_⟩
 ·rw [<- h.K];show PE X e (tD X.K T.cl (xOf X) (match Rs.es.find? (λR=>R.is Γ a e) with
   | some R=>R.run r Γ C a e
   | none=>λ_=>bad))
  cases c:Rs.es.find? (λR=>R.is Γ a e) with
  | none=>exact d4
  | some b=>exact b.ok e R d h (by have:=Jh c;exact this)
 ·rw [<- h.K];show PT X e (tBo X.K T.cl (xOf X) (match Rs.ts.find? (λR=>R.is Γ a e) with
   | some R=>R.run r Γ C a e
   | none=>λ_=>bad))
  cases c:Rs.ts.find? (λR=>R.is Γ a e) with
  | none=>exact iK
  | some b=>exact b.ok e R d h (by have:=Jh c;exact this)
 ·rw [<- h.K];show PS X e (sD X.K T.cl (xOf X) (match Rs.ss.find? (λR=>R.is Γ a e) with
   | some R=>R.run r Γ C a e
   | none=>λ_=>bad))
  cases f:Rs.ss.find? (λR=>R.is Γ a e) with
  | none=>exact P3
  | some b=>exact b.ok e R d h c (by have:=Jh f;exact this)
 ·rw [<- h.K];show PI X g e (tIt X.K T.cl (xOf X) (match Rs.is.find? (λR=>R.is Γ a g e) with
   | some R=>R.run r Γ C a e
   | none=>λ_=>bad))
  cases c:Rs.is.find? (λR=>R.is Γ a g e) with
  | none=>exact kP
  | some b=>exact b.ok g e R d h (by have:=Jh c;exact this)
theorem qH:EvOk T k badEv:=⟨λa X h e=>by rw [<- h.K];exact d4,λa X h e=>by rw [<- h.K];exact iK,λa X h _ st=>by rw [<- h.K];exact P3,λa X h g e=>by rw [<- h.K];exact kP⟩
theorem qB (a:TxOk T Γ k C):∀ n,EvOk T k (ev Rs Γ C n)
 | 0=>qH
 | n+1=>du a (qB a n)
theorem wP (h:EqK r q):EqK (step Rs Γ C r) (wV Rs Γ C q):=by
 refine ⟨λa e ρ _ k=>?_,λa e ρ _ k=>?_,λa e ρ _ k=>?_,λa g e ρ _ k=>?_⟩
 ·show (match Rs.es.find? (λR=>R.is Γ a e) with
   | some R=>R.runK q Γ C a e ρ k
   | none=>bad)=bind ((match Rs.es.find? (λ(R:RuE)=>R.is Γ a e) with
   | some R=>R.run r Γ C a e
   | none=>λ_=>bad) ρ) k
  cases Rs.es.find? (λR=>R.is Γ a e) with
  | none=>rfl
  | some b=>exact b.eq e ρ k h
 ·show (match Rs.ts.find? (λR=>R.is Γ a e) with
   | some R=>R.runK q Γ C a e ρ k
   | none=>bad)=bind ((match Rs.ts.find? (λ(R:RuT)=>R.is Γ a e) with
   | some R=>R.run r Γ C a e
   | none=>λ_=>bad) ρ) k
  cases Rs.ts.find? (λR=>R.is Γ a e) with
  | none=>rfl
  | some b=>exact b.eq e ρ k h
 ·show (match Rs.ss.find? (λR=>R.is Γ a e) with
   | some R=>R.runK q Γ C a e ρ k
   | none=>bad)=bind ((match Rs.ss.find? (λ(R:RuS)=>R.is Γ a e) with
   | some R=>R.run r Γ C a e
   | none=>λ_=>bad) ρ) k
  cases Rs.ss.find? (λR=>R.is Γ a e) with
  | none=>rfl
  | some b=>exact b.eq e ρ k h
 ·show (match Rs.is.find? (λR=>R.is Γ a g e) with
   | some R=>R.runK q Γ C a e ρ k
   | none=>bad)=bind ((match Rs.is.find? (λ(R:RuI)=>R.is Γ a g e) with
   | some R=>R.run r Γ C a e
   | none=>λ_=>bad) ρ) k
  cases Rs.is.find? (λR=>R.is Γ a g e) with
  | none=>rfl
  | some b=>exact b.eq e ρ k h
theorem wv:∀ n,EqK (ev Rs Γ C n) (evK Rs Γ C n)
 | 0=>⟨λ_ _ _ _ _=>rfl,λ_ _ _ _ _=>rfl,λ_ _ _ _ _=>rfl,λ_ _ _ _ _ _=>rfl⟩
 | n+1=>wP (wv n)
end
section
variable (r:Ev) (q:EvK) (lc:Lc)
def q4:List Expr->Env->M (List D)
 | [],_=>ret []
 | e :: es,ρ=>bind (r.e lc e ρ) λd=>bind (q4 es ρ) λds=>ret (d :: ds)
def v7 {a:Type}:List Expr->Env->(List D->M a)->M a
 | [],_,k=>k []
 | e :: es,ρ,k=>q.e lc e ρ λd=>v7 es ρ λds=>k (d :: ds)
def O8:List Stmt->Env->M Fl
 | [],ρ=>ret (.nx ρ)
 | st :: a,ρ=>Da (r.s lc st) (O8 a) ρ
def i4 {d:Type}:List Stmt->Env->(Fl->M d)->M d
 | [],ρ,k=>k (.nx ρ)
 | st :: a,ρ,k=>q.s lc st ρ λb=>match b with
  | .nx c=>i4 a c k
  | b=>k b
end
section
variable {T:Tx} {k:Nat} {r:Ev} {q:EvK} {Γ:Gm} {C:Cf} {lc:Lc} {X:Cx} {pos:Pos}
theorem m3 (h:EqK r q):∀ (es:List Expr) (ρ:Env) {a:Type} (k:List D->M a),v7 q lc es ρ k=bind (q4 r lc es ρ) k
 | [],_,_,_=>rfl
 | e :: es,ρ,_,k=>by
  show q.e lc e ρ (λd=>v7 q lc es ρ λds=>k (d :: ds))=bind (bind (r.e lc e ρ) λd=>bind (q4 r lc es ρ) λds=>ret (d :: ds)) k;rw [h.e,bind_assoc];congr;funext d;rw [m3 h,bind_assoc];rfl
theorem W7 (h:EqK r q):∀ (sts:List Stmt) (ρ:Env) {α:Type} (k:Fl->M α),i4 q lc sts ρ k=bind (O8 r lc sts ρ) k
 | [],_,_,_=>rfl
 | st :: sts,ρ,_,k=>by
  show (q.s lc st ρ λfl=>match fl with
   | .nx ρ'=>i4 q lc sts ρ' k
   | fl=>k fl)=bind (bind (r.s lc st ρ) λfl=>match fl with
   | .nx ρ'=>O8 r lc sts ρ'
   | fl=>ret fl) k
  rw [h.s,bind_assoc];congr;funext fl;cases fl with
  | nx ρ'=>exact W7 h sts ρ' k
  | bk ρ'=>rfl
  | ct ρ'=>rfl
  | rt d=>rfl
theorem k9 (R:EvOk T k r) (h:CxOk T k lc X):∀ {es:List Expr},es.all noStar=true->PA X es (tDs X.K T.cl (xOf X) (q4 r lc es))
 | [],_=>wN
 | e :: es,hs=>by
  rw [Gy,FG] at hs;exact nC (R.ex h e) (k9 R h hs.2) hs.1
theorem J2 (R:EvOk T k r) (h:CxOk T k lc X) (b:lc.fr=true):∀ {a:List Stmt},PSs X a (sD X.K T.cl (xOf X) (O8 r lc a))
 | []=>pE
 | st :: a=>tJ (R.sx h b st) (J2 R h b)
end
def xi (c:Const):M D:=match c with
 | .int i=>ret (.int i)
 | .bool b=>ret (.bl b)
 | .none=>ret .non
 | .str x=>ret (.str x)
 | _=>bad
def yT {a:Type} (c:Const) (k:D->M a):M a:=match c with
 | .int i=>k (.int i)
 | .bool b=>k (.bl b)
 | .none=>k .non
 | .str x=>k (.str x)
 | _=>bad
def zJ:RuE where
 is _ _ e:=match e with
  | .Constant _ _ _=>true
  | _=>false
 run _ _ _ _ e _:=match e with
  | .Constant c _ _=>xi c
  | _=>bad
 ok e R TX h hi:=by
  cases e with
  | Constant c n p=>
   cases c <;> first
    | exact J7 yI λ_ _=>.int _
    | exact J7 Co λ_ _=>.bl _
    | exact J7 zC λ_ _=>.non
    | exact J7 xp λ_ _=>.str _
    | exact d4
  | _=>exact d4
 runK _ _ _ _ e _ _ k:=match e with
  | .Constant c _ _=>yT c k
  | _=>bad
 eq e ρ _ k h:=by
  cases e with
  | Constant c n p=>cases c <;> rfl
  | _=>rfl
def eH (Γ:Gm) (a:Lc) (x:Str) (ρ:Env):M D:=match e8 a.N x with
 | some i=>if rF a.sc x=true then getD i ρ else bad
 | none=>if glB a.sc x=true then (match Γ.gl.lookup x with
  | some (.val d)=>ret d
  | _=>bad) else bad
def Dc {a:Type} (i:Nat) (ρ:Env) (k:D->M a):M a:=match ρ[i]? with
 | some (some d)=>k d
 | _=>bad
def mi {b:Type} (Γ:Gm) (a:Lc) (x:Str) (ρ:Env) (k:D->M b):M b:=match e8 a.N x with
 | some i=>if rF a.sc x=true then Dc i ρ k else bad
 | none=>if glB a.sc x=true then (match Γ.gl.lookup x with
  | some (.val d)=>k d
  | _=>bad) else bad
theorem sf {Γ:Gm} {C:Cf} {lc:Lc} {X:Cx} {pos:Pos} (TX:TxOk T Γ k C) (h:CxOk T k lc X) {x:Str} (hn:n4 x=true):PE X (.Name x pos) (tD X.K T.cl (xOf X) (eH Γ lc x)):=by
 unfold eH;obtain ⟨n1,n2,n3⟩:=n8 hn;cases e:e8 lc.N x with
 | some i=>
  by_cases hv:rF lc.sc x=true
  ·simp only [if_pos hv];exact zx (rS (by rw [h.N];exact p0 e) (by rw [h.sc];exact tu hv) n1 n2)
  ·simp only [if_neg hv];exact d4
 | none=>
  by_cases hv:glB lc.sc x=true
  ·simp only [if_pos hv];cases e2:Γ.gl.lookup x with
   | none=>exact d4
   | some g=>
    cases g with
    | val d=>
     obtain ⟨u,v,e3,rv,rd⟩:=TX.val x d e2;exact J7 (dk (h.gl hv) (by rw [h.mg];exact e3) rv n1) λμ H=>by rw [h.K];exact rd μ H
    | fn i n=>exact d4
    | err c fs=>exact d4
    | dct kvs=>exact d4
  ·simp only [if_neg hv];exact d4
theorem vc (Γ:Gm) (a:Lc) (x:Str) (ρ:Env) {b:Type} (k:D->M b):mi Γ a x ρ k=bind (eH Γ a x ρ) k:=by
 unfold mi eH;cases e8 a.N x with
 | some i=>
  simp only [];split
  ·unfold Dc getD;cases ρ[i]? with
   | none=>rfl
   | some o=>cases o <;> rfl
  ·rfl
 | none=>
  simp only [];split
  ·cases Γ.gl.lookup x with
   | none=>rfl
   | some g=>cases g <;> rfl
  ·rfl
def Dj:RuE where
 is _ _ e:=match e with
  | .Name x _=>n4 x
  | _=>false
 run _ Γ _ lc e ρ:=match e with
  | .Name x _=>eH Γ lc x ρ
  | _=>bad
 ok e R TX h hi:=by
  cases e with
  | Name x p=>exact sf TX h hi
  | _=>exact d4
 runK _ Γ _ lc e ρ _ k:=match e with
  | .Name x _=>mi Γ lc x ρ k
  | _=>bad
 eq e ρ _ k h:=by
  cases e with
  | Name x p=>exact vc _ _ x ρ k
  | _=>rfl
def zR (op:Operator):D->D->M D:=match op with
 | .Add=>i9
 | .Sub=>K1
 | .Mult=>Q0
 | .Mod=>N6
 | .FloorDiv=>Y2
 | .Pow=>wD
 | _=>λ_ _=>bad
def a9 (op:CmpOp):D->D->M D:=match op with
 | .Eq=>eqD false
 | .NotEq=>eqD true
 | .Lt=>mr λi j=>decide (i<j)
 | .LtE=>mr λi j=>decide (i<=j)
 | .Gt=>mr λi j=>decide (j<i)
 | .GtE=>mr λi j=>decide (j<=i)
 | .In=>inD false
 | .NotIn=>inD true
 | .Is=>isD false
 | .IsNot=>isD true
theorem zq (op:Operator):OpR X (binaryOp op) (rP2 X.K cl xe (zR op)):=by
 cases op <;> first
  | exact CG
  | exact Az
  | exact Cd
  | exact DX
  | exact yP
  | exact CP
  | exact λpins s σ H x y v u Q I a c ⟨μ,S,d,e,f,b,g,p⟩=>p.elim
theorem eA (h:CxOk T k lc X) (op:CmpOp):OpR X (compareOp op) (rP2 X.K cl xe (a9 op)):=by
 cases op
 case Eq=>exact FB h.u64
 case NotEq=>exact Et h.u64
 case Lt=>exact jl Cq
 case LtE=>exact jl Ba
 case Gt=>exact jl DJ
 case GtE=>exact jl CB
 case In=>exact BY false h.u80
 case NotIn=>exact BY true h.u80
 case Is=>exact zH false
 case IsNot=>exact zH true
def Ed:RuE where
 is _ _ e:=match e with
  | .BinOp _ _ _ _=>true
  | _=>false
 run r _ _ lc e ρ:=match e with
  | .BinOp a op b _=>bind (r.e lc a ρ) λx=>bind (r.e lc b ρ) λy=>zR op x y
  | _=>bad
 ok e R TX h hi:=by
  cases e with
  | BinOp a op b p=>exact xh (R.ex h _) (R.ex h _) (zq _)
  | _=>exact d4
 runK q _ _ lc e ρ _ k:=match e with
  | .BinOp a op b _=>q.e lc a ρ λx=>q.e lc b ρ λy=>bind (zR op x y) k
  | _=>bad
 eq e ρ _ k h:=by
  cases e with
  | BinOp a op b p=>simp only [h.e,bind_assoc]
  | _=>rfl
def EO:RuE where
 is _ _ e:=match e with
  | .UnaryOp .Not _ _=>true
  | _=>false
 run r _ _ lc e ρ:=match e with
  | .UnaryOp .Not a _=>bind (r.e lc a ρ) λd=>bind (e9 d) λk=>ret (.bl (!k))
  | _=>bad
 ok e R TX h hi:=by
  split at hi
  ·exact zG (R.ex h _)
  ·cases hi
 runK q _ _ lc e ρ _ k:=match e with
  | .UnaryOp .Not a _=>q.e lc a ρ λd=>bind (e9 d) λc=>k (.bl (!c))
  | _=>bad
 eq e ρ _ k h:=by
  split
  ·simp only [h.e,bind_assoc,h9]
  ·first
   | rfl
   | (rename_i b;split;exact (b _ _ rfl).elim;rfl)
def EU:RuE where
 is _ _ e:=match e with
  | .UnaryOp .USub _ _=>true
  | _=>false
 run r _ _ lc e ρ:=match e with
  | .UnaryOp .USub a _=>bind (r.e lc a ρ) su
  | _=>bad
 ok e R TX h hi:=by
  split at hi
  ·exact yM (R.ex h _)
  ·cases hi
 runK q _ _ lc e ρ _ k:=match e with
  | .UnaryOp .USub a _=>q.e lc a ρ λd=>bind (su d) k
  | _=>bad
 eq e ρ _ k h:=by
  split
  ·simp only [h.e,bind_assoc]
  ·first
   | rfl
   | (rename_i b;split;exact (b _ _ rfl).elim;rfl)
section
variable (r:Ev) (q:EvK) (lc:Lc)
def oA:List Expr->Env->M D
 | [],_=>bad
 | [a],ρ=>r.e lc a ρ
 | a :: b :: es,ρ=>bind (r.e lc a ρ) λd=>bind (e9 d) λq=>if q=true then oA (b :: es) ρ else ret d
def orE:List Expr->Env->M D
 | [],_=>bad
 | [a],ρ=>r.e lc a ρ
 | a :: b :: es,ρ=>bind (r.e lc a ρ) λd=>bind (e9 d) λq=>if q=true then ret d else orE (b :: es) ρ
def tm {e:Type}:List Expr->Env->(D->M e)->M e
 | [],_,_=>bad
 | [a],ρ,k=>q.e lc a ρ k
 | a :: b :: es,ρ,k=>q.e lc a ρ λd=>bind (e9 d) λc=>if c=true then tm (b :: es) ρ k else k d
def orK {e:Type}:List Expr->Env->(D->M e)->M e
 | [],_,_=>bad
 | [a],ρ,k=>q.e lc a ρ k
 | a :: b :: es,ρ,k=>q.e lc a ρ λd=>bind (e9 d) λc=>if c=true then k d else orK (b :: es) ρ k
def pM:List Expr->Env->M Bool
 | [],_=>bad
 | [a],ρ=>r.t lc a ρ
 | a :: b :: es,ρ=>bind (r.t lc a ρ) λq=>if q=true then pM (b :: es) ρ else ret false
def orB:List Expr->Env->M Bool
 | [],_=>bad
 | [a],ρ=>r.t lc a ρ
 | a :: b :: es,ρ=>bind (r.t lc a ρ) λq=>if q=true then ret true else orB (b :: es) ρ
def jM {d:Type}:List Expr->Env->(Bool->M d)->M d
 | [],_,_=>bad
 | [a],ρ,k=>q.t lc a ρ k
 | a :: b :: es,ρ,k=>q.t lc a ρ λc=>if c=true then jM (b :: es) ρ k else k false
def uI {d:Type}:List Expr->Env->(Bool->M d)->M d
 | [],_,_=>bad
 | [a],ρ,k=>q.t lc a ρ k
 | a :: b :: es,ρ,k=>q.t lc a ρ λc=>if c=true then k true else uI (b :: es) ρ k
end
section
variable {T:Tx} {k:Nat} {r:Ev} {q:EvK} {Γ:Gm} {C:Cf} {lc:Lc} {X:Cx} {pos:Pos}
theorem nJ (R:EvOk T k r) (h:CxOk T k lc X):∀ {es:List Expr},PE X (.BoolOp .And es pos) (tD X.K T.cl (xOf X) (oA r lc es))
 | []=>d4
 | [a]=>qQ (R.ex h a)
 | a :: b :: es=>zD (R.ex h a) (nJ R h)
theorem xJ (R:EvOk T k r) (h:CxOk T k lc X):∀ {es:List Expr},PE X (.BoolOp .Or es pos) (tD X.K T.cl (xOf X) (orE r lc es))
 | []=>d4
 | [a]=>qQ (R.ex h a)
 | a :: b :: es=>Bh (R.ex h a) (xJ R h)
theorem ja (R:EvOk T k r) (h:CxOk T k lc X):∀ {es:List Expr},PW X (.BoolOp .And es pos) (tBo X.K T.cl (xOf X) (pM r lc es))
 | []=>pw_bad
 | [a]=>uZ (R.tx h a)
 | a :: b :: es=>zl (R.tx h a) (ja R h)
theorem oZ (R:EvOk T k r) (h:CxOk T k lc X):∀ {es:List Expr},PW X (.BoolOp .Or es pos) (tBo X.K T.cl (xOf X) (orB r lc es))
 | []=>pw_bad
 | [a]=>zZ (R.tx h a)
 | a :: b :: es=>BE (R.tx h a) (oZ R h)
theorem rW (h:EqK r q):∀ (es:List Expr) (ρ:Env) {c:Type} (k:D->M c),tm q lc es ρ k=bind (oA r lc es ρ) k
 | [],_,_,_=>rfl
 | [a],ρ,_,k=>h.e lc a ρ k
 | a :: b :: es,ρ,_,k=>by simp only [tm,oA,h.e,bind_assoc,m8,rW h (b :: es),h9]
theorem xA (h:EqK r q):∀ (es:List Expr) (ρ:Env) {c:Type} (k:D->M c),orK q lc es ρ k=bind (orE r lc es ρ) k
 | [],_,_,_=>rfl
 | [a],ρ,_,k=>h.e lc a ρ k
 | a :: b :: es,ρ,_,k=>by simp only [orK,orE,h.e,bind_assoc,m8,xA h (b :: es),h9]
theorem jU (h:EqK r q):∀ (es:List Expr) (ρ:Env) {c:Type} (k:Bool->M c),jM q lc es ρ k=bind (pM r lc es ρ) k
 | [],_,_,_=>rfl
 | [a],ρ,_,k=>h.t lc a ρ k
 | a :: b :: es,ρ,_,k=>by simp only [jM,pM,h.t,bind_assoc,m8,jU h (b :: es),h9]
theorem sC (h:EqK r q):∀ (es:List Expr) (ρ:Env) {c:Type} (k:Bool->M c),uI q lc es ρ k=bind (orB r lc es ρ) k
 | [],_,_,_=>rfl
 | [a],ρ,_,k=>h.t lc a ρ k
 | a :: b :: es,ρ,_,k=>by simp only [uI,orB,h.t,bind_assoc,m8,sC h (b :: es),h9]
end
def Bo:RuE where
 is _ _ e:=match e with
  | .BoolOp _ _ _=>true
  | _=>false
 run r _ _ lc e ρ:=match e with
  | .BoolOp .And es _=>oA r lc es ρ
  | .BoolOp .Or es _=>orE r lc es ρ
  | _=>bad
 ok e R TX h hi:=by
  cases e with
  | BoolOp op es p=>cases op;exact nJ R h;exact xJ R h
  | _=>exact d4
 runK q _ _ lc e ρ _ k:=match e with
  | .BoolOp .And es _=>tm q lc es ρ k
  | .BoolOp .Or es _=>orK q lc es ρ k
  | _=>bad
 eq e ρ _ k h:=by
  cases e with
  | BoolOp op es p=>cases op;exact rW h es ρ k;exact xA h es ρ k
  | _=>rfl
def EY:RuE where
 is _ _ e:=match e with
  | .Compare _ [_] [b] _=>u4 b
  | _=>false
 run r _ _ lc e ρ:=match e with
  | .Compare a [op] [b] _=>bind (r.e lc a ρ) λx=>bind (r.e lc b ρ) λy=>a9 op x y
  | _=>bad
 ok e R TX h hi:=by
  split at hi
  ·exact yb (R.ex h _) (R.ex h _) (eA h _) (W0 hi)
  ·cases hi
 runK q _ _ lc e ρ _ k:=match e with
  | .Compare a [op] [b] _=>q.e lc a ρ λx=>q.e lc b ρ λy=>bind (a9 op x y) k
  | _=>bad
 eq e ρ _ k h:=by
  split
  ·simp only [h.e,bind_assoc]
  ·first
   | rfl
   | (rename_i c;split;exact (c _ _ _ _ rfl).elim;rfl)
def rIf:RuE where
 is _ _ e:=match e with
  | .IfExp _ _ _ _=>true
  | _=>false
 run r _ _ lc e ρ:=match e with
  | .IfExp c a b _=>bind (r.t lc c ρ) λq=>if q=true then r.e lc a ρ else r.e lc b ρ
  | _=>bad
 ok e R TX h hi:=by
  cases e with
  | IfExp c a b p=>exact BM (R.tx h _) (R.ex h _) (R.ex h _)
  | _=>exact d4
 runK q _ _ lc e ρ _ k:=match e with
  | .IfExp c a b _=>q.t lc c ρ λz=>if z=true then q.e lc a ρ k else q.e lc b ρ k
  | _=>bad
 eq e ρ _ k h:=by
  cases e with
  | IfExp c a b p=>simp only [h.e,h.t,bind_assoc,m8]
  | _=>rfl
def ER:RuE where
 is _ _ e:=match e with
  | .Tuple es _ _=>es.all noStar
  | _=>false
 run r _ _ lc e ρ:=match e with
  | .Tuple es _ _=>bind (q4 r lc es ρ) ye
  | _=>bad
 ok e R TX h hi:=by
  cases e with
  | Tuple es n p=>exact yi (k9 R h hi)
  | _=>exact d4
 runK q _ _ lc e ρ _ k:=match e with
  | .Tuple es _ _=>v7 q lc es ρ λds=>bind (ye ds) k
  | _=>bad
 eq e ρ _ k h:=by
  cases e with
  | Tuple es n p=>simp only [m3 h,bind_assoc]
  | _=>rfl
def Ez:RuE where
 is _ _ e:=match e with
  | .List es _=>es.all noStar
  | _=>false
 run r _ _ lc e ρ:=match e with
  | .List es _=>bind (q4 r lc es ρ) zw
  | _=>bad
 ok e R TX h hi:=by
  cases e with
  | List es p=>exact yO (k9 R h hi)
  | _=>exact d4
 runK q _ _ lc e ρ _ k:=match e with
  | .List es _=>v7 q lc es ρ λds=>bind (zw ds) k
  | _=>bad
 eq e ρ _ k h:=by
  cases e with
  | List es p=>simp only [m3 h,bind_assoc]
  | _=>rfl
def az (r:Ev) (a:Lc):List (Option Expr)->List Expr->List ((Env->M D)×(Env->M D))
 | some k :: b,v :: vs=>(r.e a k,r.e a v) :: az r a b vs
 | _,_=>[]
def di (q:EvK) (c:Lc) {d:Type}:List (Option Expr)->List Expr->Env->(List (D×D)->M d)->M d
 | some x :: e,v :: vs,ρ,k=>q.e c x ρ λa=>q.e c v ρ λb=>di q c e vs ρ λps=>k ((a,b) :: ps)
 | _,_,_,k=>k []
theorem fu (R:EvOk T k r) (h:CxOk T k lc X):∀ {b:List (Option Expr)} {vs:List Expr},b.all (·.isSome)=true->b.length=vs.length->PPs X pos b vs ((az r lc b vs).map λd=>(tD X.K T.cl (xOf X) d.1,tD X.K T.cl (xOf X) d.2))
 | [],[],_,_=>tQ
 | [],_ :: _,_,a=>by simp at a
 | _ :: _,[],_,a=>by simp at a
 | none :: _,_ :: _,c,_=>by simp at c
 | some k :: b,v :: vs,c,a=>qN (R.ex h k) (R.ex h v) (fu R h (by simpa using c) (by simpa using a))
theorem eR (h:EqK r q):∀ (c:List (Option Expr)) (vs:List Expr) (ρ:Env) {d:Type} (k:List (D×D)->M d),di q lc c vs ρ k=bind (D0 (az r lc c vs) ρ) k
 | [],_,_,_,_=>rfl
 | none :: _,_,_,_,_=>rfl
 | some _ :: _,[],_,_,_=>rfl
 | some x :: c,v :: vs,ρ,_,k=>by
  simp only [di,az,D0,h.e,bind_assoc];congr;funext a;congr;funext b;rw [eR h c vs ρ];rfl
def Dw:RuE where
 is _ _ e:=match e with
  | .Dict ks vs _=>ks.all (·.isSome)&&decide (ks.length=vs.length)&&decide (0<ks.length)&&decide (ks.length<=15)
  | _=>false
 run r _ _ lc e ρ:=match e with
  | .Dict ks vs _=>bind (D0 (az r lc ks vs) ρ) pg
  | _=>bad
 ok e R TX h hi:=by
  cases e with
  | Dict ks vs p=>
   simp only [FG,FW] at hi;exact tz (fu R h hi.1.1.1 hi.1.1.2) hi.1.1.1 hi.1.1.2 (by intro z;rw [z] at hi;simp at hi) hi.2
  | _=>exact d4
 runK q _ _ lc e ρ _ k:=match e with
  | .Dict ks vs _=>di q lc ks vs ρ λps=>bind (pg ps) k
  | _=>bad
 eq e ρ _ k h:=by
  cases e with
  | Dict ks vs p=>simp only [eR h,bind_assoc]
  | _=>rfl
def rIx:RuE where
 is _ _ e:=match e with
  | .Subscript _ i _=>E8 i
  | _=>false
 run r _ _ lc e ρ:=match e with
  | .Subscript a i _=>bind (r.e lc a ρ) λx=>bind (r.e lc i ρ) λy=>ixD x y
  | _=>bad
 ok e R TX h hi:=by
  cases e with
  | Subscript a i p=>exact Cv (R.ex h _) (R.ex h _) (EL h.u1) (gu hi)
  | _=>exact d4
 runK q _ _ lc e ρ _ k:=match e with
  | .Subscript a i _=>q.e lc a ρ λx=>q.e lc i ρ λy=>bind (ixD x y) k
  | _=>bad
 eq e ρ _ k h:=by
  cases e with
  | Subscript a i p=>simp only [h.e,bind_assoc]
  | _=>rfl
def fD (r:Ev) (a:Lc) (o:Option Expr) (ρ:Env):M (Option Int):=match o with
 | none=>ret none
 | some e=>bind (r.e a e ρ) Z0
def ib (q:EvK) (b:Lc) {a:Type} (o:Option Expr) (ρ:Env) (k:Option Int->M a):M a:=match o with
 | none=>k none
 | some e=>q.e b e ρ λd=>bind (Z0 d) k
theorem wI (h:EqK r q) (o:Option Expr) (ρ:Env) {a:Type} (k:Option Int->M a):ib q lc o ρ k=bind (fD r lc o ρ) k:=by
 cases o with
 | none=>rfl
 | some e=>simp only [ib,fD,h.e,bind_assoc]
theorem kI (R:EvOk T k r) (h:CxOk T k lc X) {o:Option Expr}:PO X o (tPt X.K T.cl (xOf X) (fD r lc o)):=by
 cases o with
 | none=>exact sW
 | some e=>exact uK (R.ex h e)
def rSl:RuE where
 is _ _ e:=match e with
  | .Subscript _ (.Slice _ _ none _) _=>true
  | _=>false
 run r _ _ lc e ρ:=match e with
  | .Subscript a (.Slice lo b none _) _=>bind (r.e lc a ρ) λd=>bind (fD r lc lo ρ) λl=>bind (fD r lc b ρ) λu=>slD d l u
  | _=>bad
 ok e R TX h b:=by
  split at b
  ·exact Am (R.ex h _) (kI R h) (kI R h)
  ·cases b
 runK q _ _ lc e ρ _ k:=match e with
  | .Subscript a (.Slice lo b none _) _=>q.e lc a ρ λd=>ib q lc lo ρ λl=>ib q lc b ρ λu=>bind (slD d l u) k
  | _=>bad
 eq e ρ _ k h:=by
  split
  ·simp only [h.e,wI h,bind_assoc]
  ·first
   | rfl
   | (rename_i c;split;exact (c _ _ _ _ _ rfl).elim;rfl)
def ED:RuE where
 is _ _ e:=match e with
  | .Subscript _ (.Slice none none (some _) _) _=>true
  | _=>false
 run r _ _ lc e ρ:=match e with
  | .Subscript a (.Slice none none (some st) _) _=>bind (r.e lc a ρ) λx=>bind (r.e lc st ρ) λy=>tX x y
  | _=>bad
 ok e R TX h hi:=by
  split at hi
  ·exact zz (R.ex h _) (R.ex h _)
  ·cases hi
 runK q _ _ lc e ρ _ k:=match e with
  | .Subscript a (.Slice none none (some st) _) _=>q.e lc a ρ λx=>q.e lc st ρ λy=>bind (tX x y) k
  | _=>bad
 eq e ρ _ k h:=by
  split
  ·simp only [h.e,bind_assoc]
  ·first
   | rfl
   | (rename_i b;split;exact (b _ _ _ _ rfl).elim;rfl)
def EM:RuE where
 is Γ _ e:=match e with
  | .Attribute a g _=>v8 a&&decide (g∈Γ.flds)
  | _=>false
 run r _ _ lc e ρ:=match e with
  | .Attribute a g _=>bind (r.e lc a ρ) (bI g)
  | _=>bad
 ok e R TX h hi:=by
  cases e with
  | Attribute a g p=>
   simp at hi;exact yL (λc xc=>by rw [h.K] at xc ⊢;exact TX.fld g hi.2 c xc) (R.ex h _) hi.1
  | _=>exact d4
 runK q _ _ lc e ρ _ k:=match e with
  | .Attribute a g _=>q.e lc a ρ λd=>bind (bI g d) k
  | _=>bad
 eq e ρ _ k h:=by
  cases e with
  | Attribute a g p=>simp only [h.e,bind_assoc]
  | _=>rfl
def xf:RuE where
 is _ _ e:=match e with
  | .Compare _ [_,_] [_,c] _=>u4 c
  | _=>false
 run r _ _ lc e ρ:=match e with
  | .Compare a [op,f] [b,c] _=>bind (r.e lc a ρ) λx=>bind (r.e lc b ρ) λy=>dN (a9 op) (a9 f) x y (r.e lc c ρ)
  | _=>bad
 ok e R TX h hi:=by
  split at hi
  ·exact mj (R.ex h _) (R.ex h _) (R.ex h _) (eA h _) (eA h _) (W0 hi)
  ·cases hi
 runK q _ _ lc e ρ _ k:=match e with
  | .Compare a [op,f] [b,c] _=>q.e lc a ρ λx=>q.e lc b ρ λy=>bind (a9 op x y) λd=>bind (asB d) λz=>if z=true then q.e lc c ρ λw=>bind (a9 f y w) k else k (.bl false)
  | _=>bad
 eq e ρ _ k h:=by
  split
  ·simp only [h.e,dN,bind_assoc,m8,h9]
  ·first
   | rfl
   | (rename_i g;split;exact (g _ _ _ _ _ _ rfl).elim;rfl)
def zT:RuT where
 is _ _ e:=match e with
  | .UnaryOp .Not _ _=>true
  | _=>false
 run r _ _ lc e ρ:=match e with
  | .UnaryOp .Not a _=>bind (r.t lc a ρ) λq=>ret (!q)
  | _=>bad
 ok e R TX h hi:=by
  split at hi
  ·exact zn (R.tx h _)
  ·cases hi
 runK q _ _ lc e ρ _ k:=match e with
  | .UnaryOp .Not a _=>q.t lc a ρ λc=>k (!c)
  | _=>bad
 eq e ρ _ k h:=by
  split
  ·simp only [h.t,bind_assoc,h9]
  ·first
   | rfl
   | (rename_i b;split;exact (b _ _ rfl).elim;rfl)
def Dd:RuT where
 is _ _ e:=match e with
  | .BoolOp _ _ _=>true
  | _=>false
 run r _ _ lc e ρ:=match e with
  | .BoolOp .And es _=>pM r lc es ρ
  | .BoolOp .Or es _=>orB r lc es ρ
  | _=>bad
 ok e R TX h hi:=by
  cases e with
  | BoolOp op es p=>cases op;exact (ja R h).pt;exact (oZ R h).pt
  | _=>exact iK
 runK q _ _ lc e ρ _ k:=match e with
  | .BoolOp .And es _=>jM q lc es ρ k
  | .BoolOp .Or es _=>uI q lc es ρ k
  | _=>bad
 eq e ρ _ k h:=by
  cases e with
  | BoolOp op es p=>cases op;exact jU h es ρ k;exact sC h es ρ k
  | _=>rfl
def EF:RuT where
 is _ _ e:=match e with
  | .Compare _ [_] [b] _=>u4 b
  | _=>false
 run r _ _ lc e ρ:=match e with
  | .Compare a [op] [b] _=>bind (r.e lc a ρ) λx=>bind (r.e lc b ρ) λy=>bind (a9 op x y) asB
  | _=>bad
 ok e R TX h hi:=by
  split at hi
  ·exact zd (R.ex h _) (R.ex h _) (eA h _) (W0 hi)
  ·cases hi
 runK q _ _ lc e ρ _ k:=match e with
  | .Compare a [op] [b] _=>q.e lc a ρ λx=>q.e lc b ρ λy=>bind (a9 op x y) λd=>bind (asB d) k
  | _=>bad
 eq e ρ _ k h:=by
  split
  ·simp only [h.e,bind_assoc]
  ·first
   | rfl
   | (rename_i c;split;exact (c _ _ _ _ rfl).elim;rfl)
def yN:RuT where
 is _ _ e:=D2 e
 run r _ _ lc e ρ:=bind (r.e lc e ρ) e9
 ok e R TX h hi:=mw (R.ex h _) hi
 runK q _ _ lc e ρ _ k:=q.e lc e ρ λd=>bind (e9 d) k
 eq e ρ _ k h:=by simp only [h.e,bind_assoc]
def og (Γ:Gm) (x:Str) (p:Nat->Nat->Bool):Bool:=match Γ.gl.lookup x with
 | some (.fn i n)=>p i n
 | _=>false
theorem dY (h:og Γ x p=true):∃ i n,Γ.gl.lookup x=some (.fn i n)/\p i n=true:=by
 unfold og at h;grind
def rFn:RuE where
 is Γ lc e:=match e with
  | .Call (.Name x _) es [] _=>n4 x&&glB lc.sc x&&es.all noStar&&!quiet lc&&og Γ x λi n=>decide (es.length=n)&&decide (i∉Γ.qs)
  | _=>false
 run r Γ C lc e ρ:=match e with
  | .Call (.Name x _) es [] _=>(match Γ.gl.lookup x with
   | some (.fn i n)=>bind (q4 r lc es ρ) λds=>if ds.length=n then C i ds else bad
   | _=>bad)
  | _=>bad
 ok {T k r Γ C lc X} e R TX h hi:=by
  split at hi
  ·rename_i x p es pos;simp only [FG,GV] at hi;obtain ⟨⟨⟨⟨w,m⟩,c⟩,f⟩,v⟩:=hi;obtain ⟨s,E,D⟩:=n8 w;obtain ⟨i,n,l,b⟩:=dY v;simp at b;obtain ⟨a,fd,ps,B,A,y,z,u⟩:=(TX.fn x i n l b.2).ex;have F:FnOk X.prog X.w X.K X.mg X.base (CXd X.prog X.w X.K) k a fd ps (spX X.K T.cl n (C i)):=by rw [h.prog,h.w,h.K,h.mg,h.base];exact A
   have d:PySem.W.keepIn X.K (.ref a)=true:=by rw [h.K];exact z
   have j:Binds X.K fd ps []:=by rw [h.K];exact u
   have o:X.mg x=some (.ref a):=by rw [h.mg];exact y
   show PE X _ (tD X.K T.cl (xOf X) λρ=>(match Γ.gl.lookup x with
    | some (.fn i n)=>bind (q4 r lc es ρ) λds=>if ds.length=n then C i ds else bad
    | _=>bad))
   rw [l]
   match es,c,b with
   | [],_,b=>
    have:=b.1.symm;subst this;exact ko F (h.room0 f) (h.gl m) o d j s
   | e :: es,c,_=>exact sN F (h.room0 f) (h.gl m) o d j (k9 R h c) s c
  ·cases hi
 runK q Γ C lc e ρ _ k:=match e with
  | .Call (.Name x _) es [] _=>(match Γ.gl.lookup x with
   | some (.fn i n)=>v7 q lc es ρ λds=>if ds.length=n then bind (C i ds) k else bad
   | _=>bad)
  | _=>bad
 eq {r q Γ C lc} e ρ _ k h:=by
  split
  ·rename_i x p es pos;cases Γ.gl.lookup x with
   | none=>rfl
   | some g=>cases g <;> first | rfl | simp only [m3 h,bind_assoc,m8,bS]
  ·first
   | rfl
   | (rename_i t;split;exact (t _ _ _ _ rfl).elim;rfl)
def Dl:RuE where
 is Γ lc e:=match e with
  | .Call (.Name x _) (a :: es) [] _=>n4 x&&glB lc.sc x&&(a :: es).all noStar&&og Γ x λi n=>decide ((a :: es).length=n)&&decide (i∈Γ.qs)
  | _=>false
 run r Γ C lc e ρ:=match e with
  | .Call (.Name x _) es [] _=>(match Γ.gl.lookup x with
   | some (.fn i n)=>nx (bind (q4 r lc es ρ) λds=>if ds.length=n then C i ds else bad)
   | _=>bad)
  | _=>bad
 ok {T k r Γ C lc X} e R TX h hi:=by
  split at hi
  ·rename_i x p j es pos;simp only [FG] at hi;obtain ⟨⟨⟨G,D⟩,m⟩,B⟩:=hi;obtain ⟨N,P,O⟩:=n8 G;obtain ⟨i,n,o,l⟩:=dY B;simp at l;obtain ⟨a,fd,ps,u,M,J,K,w⟩:=(TX.fnq x i n o l.2).ex;have d:FnOk X.prog X.w X.K X.mg X.base (CXq true) k a fd ps (spD X.K T.cl n (C i)):=by rw [h.prog,h.w,h.K,h.mg,h.base];exact M
   have F:FnOk X.prog X.w X.K X.mg X.base (CXq (quiet lc)) k a fd ps (spD X.K T.cl n (C i)):=by
    cases quiet lc with
    | true=>exact d
    | false=>exact ⟨d.len,λA b s H c us vs Q E y j f r h=>d.run A b s H c us vs Q E y.any j f r h⟩
   have v:PySem.W.keepIn X.K (.ref a)=true:=by rw [h.K];exact K
   have f:Binds X.K fd ps []:=by rw [h.K];exact w
   have I:X.mg x=some (.ref a):=by rw [h.mg];exact J
   show PE X _ (tD X.K T.cl (xOf X) λρ=>(match Γ.gl.lookup x with
    | some (.fn i n)=>nx (bind (q4 r lc (j :: es) ρ) λds=>if ds.length=n then C i ds else bad)
    | _=>bad))
   rw [o];have:=uX (p:=p) (pos:=pos) u F h.room (h.gl D) I v f BF (PA.x0 (k9 R h m)) N m l.1;exact PE.imp this λσ H Q ⟨μ,S,ρ,L,z,p⟩=>⟨μ,S,ρ,L,z,p.nx⟩
  ·cases hi
 runK q Γ C lc e ρ _ k:=match e with
  | .Call (.Name x _) es [] _=>(match Γ.gl.lookup x with
   | some (.fn i n)=>bind (nx (v7 q lc es ρ λds=>if ds.length=n then C i ds else bad)) k
   | _=>bad)
  | _=>bad
 eq {r q Γ C lc} e ρ _ k h:=by
  split
  ·rename_i x p es pos;cases Γ.gl.lookup x with
   | none=>rfl
   | some g=>cases g <;> first | rfl | simp only [m3 h]
  ·first
   | rfl
   | (rename_i t;split;exact (t _ _ _ _ rfl).elim;rfl)
def mI (r:Ev) (Γ:Gm) (a:Lc) (x:Str) (es:List Expr) (ρ:Env):M D:=match Γ.gl.lookup x with
 | some (.err c fs)=>(match fs with
  | []=>bind (q4 r a es ρ) (qP c)
  | [g]=>bind (q4 r a es ρ) (N7 c [g])
  | [g,b]=>bind (q4 r a es ρ) (N7 c [g,b])
  | _=>bad)
 | _=>bad
def uL (q:EvK) (Γ:Gm) (a:Lc) (x:Str) (es:List Expr) (ρ:Env) {b:Type} (k:D->M b):M b:=match Γ.gl.lookup x with
 | some (.err c fs)=>(match fs with
  | []=>v7 q a es ρ λds=>bind (qP c ds) k
  | [g]=>v7 q a es ρ λds=>bind (N7 c [g] ds) k
  | [g,d]=>v7 q a es ρ λds=>bind (N7 c [g,d] ds) k
  | _=>bad)
 | _=>bad
theorem pi (h:EqK r q) (x:Str) (es:List Expr) (ρ:Env) {α:Type} (k:D->M α):uL q Γ lc x es ρ k=bind (mI r Γ lc x es ρ) k:=by
 unfold uL mI;cases Γ.gl.lookup x with
 | none=>rfl
 | some g=>
  cases g with
  | err c fs=>
   match fs with
   | []=>simp only [m3 h,bind_assoc]
   | [g]=>simp only [m3 h,bind_assoc]
   | [g,g2]=>simp only [m3 h,bind_assoc]
   | _ :: _ :: _ :: _=>rfl
  | _=>rfl
theorem ic {C:Cf} {lc:Lc} {X:Cx} {x:Str} {p pos:Pos} {e:Expr} {es:List Expr} (R:EvOk T k r) (TX:TxOk T Γ k C) (h:CxOk T k lc X) (c1:n4 x=true) (c2:glB lc.sc x=true) (c3:(e :: es).all noStar=true) (c4:quiet lc=false) :
  PE X (.Call (.Name x p) (e :: es) [] pos) (tDf X.K T.cl (xOf X) (mI r Γ lc x (e :: es))):=by
 have bd:PE X (.Call (.Name x p) (e :: es) [] pos) (tDf X.K T.cl (xOf X) λρ=>bad):=λ_ _ _ _ _ _ ⟨_,_,_,_,_,z⟩=>z.elim;obtain ⟨n1,n2,n3⟩:=n8 c1;have ha:=k9 R h c3;unfold mI;cases e1:Γ.gl.lookup x with
 | none=>exact bd
 | some g=>
  cases g with
  | val d=>exact bd
  | fn i n=>exact bd
  | dct kvs=>exact bd
  | err c fs=>
   obtain ⟨ea,na⟩:=TX.err x c fs e1;obtain ⟨f,fd,ps,g1,g2,g3,g4⟩:=ea.ex;have xc:XC X.K (T.cl c):=by rw [h.K];exact ea.xc
   have hm:X.mg x=some (.ref (T.cl c)):=by rw [h.mg];exact ea.mg_
   have hr:=(h.room0 c4).mono TX.k3;have hi:PySem.W.findIn X.K (.ref (T.cl c)) "__init__" = some (some (.ref f)):=by rw [h.K];exact g1
   have hf:PySem.W.isFn X.K (.ref f)=true:=by rw [h.K];exact g2
   have hb:Binds X.K fd ps []:=by rw [h.K];exact g3
   match fs,g4,na with
   | [],g4,na=>exact qK xc hi hf (by rw [h.prog,h.w,h.K,h.mg,h.base];exact g4) hr (h.gl c2) hm hb Y4 ha n1 c3
   | [g],g4,na=>exact pw xc (by rw [h.K];exact na g (by simp)) hi hf (by rw [h.prog,h.w,h.K,h.mg,h.base];exact g4) hr (h.gl c2) hm hb Y4 ha n1 c3
   | [g,g'],g4,na=>exact pK xc (by rw [h.K];exact na g (by simp)) (by rw [h.K];exact na g' (by simp)) hi hf (by rw [h.prog,h.w,h.K,h.mg,h.base];exact g4) hr (h.gl c2) hm hb Y4 ha n1 c3
   | _ :: _ :: _ :: _,g4,_=>exact g4.elim
def vk (Γ:Gm) (x:Str):Bool:=match Γ.gl.lookup x with
 | some (.err _ _)=>true
 | _=>false
def EW:RuE where
 is Γ lc e:=match e with
  | .Call (.Name x _) (a :: es) [] _=>n4 x&&glB lc.sc x&&(a :: es).all noStar&&!quiet lc&&vk Γ x
  | _=>false
 run r Γ C lc e ρ:=match e with
  | .Call (.Name x _) (a :: es) [] _=>mI r Γ lc x (a :: es) ρ
  | _=>bad
 ok {T k r Γ C lc X} e R TX h hi:=by
  split at hi
  ·simp only [FG,GV] at hi;exact PE.unf (ic R TX h hi.1.1.1.1 hi.1.1.1.2 hi.1.1.2 hi.1.2)
  ·cases hi
 runK q Γ C lc e ρ _ k:=match e with
  | .Call (.Name x _) (a :: es) [] _=>uL q Γ lc x (a :: es) ρ k
  | _=>bad
 eq {r q Γ C lc} e ρ _ k h:=by
  split
  ·exact pi h _ _ ρ k
  ·first
   | rfl
   | (rename_i b;split;exact (b _ _ _ _ _ rfl).elim;rfl)
def Q2 (Γ:Gm) (b:Lc) (x:Str) (a:Expr):Bool:=decide (x = "isinstance")&&(Γ.gl.lookup ("isinstance" : Str)).isNone&&glB b.sc "isinstance" && noStar a
theorem P0 (h:Q2 Γ lc x a=true):x = "isinstance"/\Γ.gl.lookup ("isinstance" : Str)=none/\glB lc.sc "isinstance" = true/\noStar a=true:=by
 simp only [Q2,FG,FW,GH] at h;grind
def BQ:RuE where
 is Γ lc e:=match e with
  | .Call (.Name x _) [a,.Name y _] [] _=>Q2 Γ lc x a&&n4 y&&glB lc.sc y&&vk Γ y
  | _=>false
 run r Γ C lc e ρ:=match e with
  | .Call (.Name _ _) [a,.Name y _] [] _=>(match Γ.gl.lookup y with
   | some (.err c0 _)=>bind (r.e lc a ρ) (t7 λc=>Γ.sub c c0)
   | _=>bad)
  | _=>bad
 ok {T k r Γ C lc X} e R TX h hi:=by
  split at hi
  ·rename_i x p a y q pos;simp at hi;obtain ⟨⟨⟨c0,c1⟩,c2⟩,c3⟩:=hi;obtain ⟨rfl,i1,i2,i3⟩:=P0 c0;obtain ⟨n1,n2,n3⟩:=n8 c1;show PE X _ (tD X.K T.cl (xOf X) λρ=>(match Γ.gl.lookup y with
    | some (.err c0 _)=>bind (r.e lc a ρ) (t7 λc=>Γ.sub c c0)
    | _=>bad))
   cases e1:Γ.gl.lookup y with
   | none=>exact d4
   | some g=>
    cases g with
    | err c0 fs=>exact vK (λc xc=>by rw [h.K] at xc ⊢;exact TX.sub y c c0 fs e1 xc) (R.ex h a) (h.gl i2) (TX.none h (by decide) i1) (h.gl c2) (by rw [h.mg];exact (TX.err y c0 fs e1).1.mg_) n1 i3
    | val d=>exact d4
    | fn i n=>exact d4
    | dct kvs=>exact d4
  ·cases hi
 runK q Γ C lc e ρ _ k:=match e with
  | .Call (.Name _ _) [a,.Name y _] [] _=>(match Γ.gl.lookup y with
   | some (.err c0 _)=>q.e lc a ρ λd=>bind (t7 (λc=>Γ.sub c c0) d) k
   | _=>bad)
  | _=>bad
 eq {r q Γ C lc} e ρ _ k h:=by
  split
  ·rename_i x p a y q pos;cases Γ.gl.lookup y with
   | none=>rfl
   | some g=>cases g <;> first | rfl | simp only [h.e,bind_assoc]
  ·first
   | rfl
   | (rename_i hn;split;exact (hn _ _ _ _ _ _ rfl).elim;rfl)
def btys:List (Str×String):=[("int","int"),("bool","bool"),("str","str"),("tuple","tuple"),("list","list"),("dict","dict"),("ValueError","ValueError")]
theorem wG:∀ {x:Str} {t:String},btys.lookup x=some t->bootBuiltins x=some (.type t)/\x∈bnames/\(t∈tys\/t = "ValueError"):=by
 intro x t e;have:∀ y∈btys,bootBuiltins y.1=some (.type y.2)/\y.1∈bnames/\(y.2∈tys\/y.2 = "ValueError"):=by
  intro y a;simp only [btys,FP,Hc,JC] at a;rcases a with rfl | rfl | rfl | rfl | rfl | rfl | rfl <;> exact ⟨rfl,by decide,by decide⟩
 exact this _ (L2.mem_of_lookup e)
def Ak:RuE where
 is Γ lc e:=match e with
  | .Call (.Name x _) [a,.Name y _] [] _=>Q2 Γ lc x a&&n4 y&&glB lc.sc y&&(Γ.gl.lookup y).isNone
  | _=>false
 run r Γ C lc e ρ:=match e with
  | .Call (.Name _ _) [a,.Name y _] [] _=>(match btys.lookup y with
   | some T=>bind (r.e lc a ρ) λd=>if T∈tys then G8 T (λ_=>false) d else t7 (λ_=>true) d
   | none=>bad)
  | _=>bad
 ok {T k r Γ C lc X} e R TX h hi:=by
  split at hi
  ·rename_i x p a y q pos;simp only [FG,GH] at hi;obtain ⟨⟨⟨c0,w⟩,v⟩,l⟩:=hi;obtain ⟨rfl,B,s,i⟩:=P0 c0;obtain ⟨m,D,n⟩:=n8 w;have j:=TX.none h (by decide) B;show PE X _ (tD X.K T.cl (xOf X) λρ=>(match btys.lookup y with
    | some T=>bind (r.e lc a ρ) λd=>if T∈tys then G8 T (λ_=>false) d else t7 (λ_=>true) d
    | none=>bad))
   cases A:btys.lookup y with
   | none=>exact d4
   | some t=>
    obtain ⟨o,u,f⟩:=wG A;by_cases g:t∈tys
    ·have:=jt (pos:=pos) (p:=p) (q:=q) (.inl g) (λc b=>by rw [h.K] at b ⊢;exact TX.subT c b t g) (R.ex h a) (h.gl s) j (h.gl v) (TX.none h u l) o n m i;simp only [if_pos g] at this ⊢;exact this
    ·rcases f with f | f
     ·exact absurd f g
     ·subst f;have:=jt (pos:=pos) (p:=p) (q:=q) (.inr rfl) (λc b=>by rw [h.K] at b ⊢;exact TX.subV c b) (R.ex h a) (h.gl s) j (h.gl v) (TX.none h u l) o n m i;exact this
  ·cases hi
 runK q Γ C lc e ρ _ k:=match e with
  | .Call (.Name _ _) [a,.Name y _] [] _=>(match btys.lookup y with
   | some T=>q.e lc a ρ λd=>if T∈tys then bind (G8 T (λ_=>false) d) k else bind (t7 (λ_=>true) d) k
   | none=>bad)
  | _=>bad
 eq {r q Γ C lc} e ρ _ k h:=by
  split
  ·rename_i x p a y q pos;cases btys.lookup y with
   | none=>rfl
   | some T=>simp only [h.e,bind_assoc,m8]
  ·first
   | rfl
   | (rename_i z;split;exact (z _ _ _ _ _ _ rfl).elim;rfl)
def bo (Γ:Gm) (a:Lc):List Expr->Option (List Nat)
 | []=>some []
 | .Name y _ :: ys=>if n4 y=true/\glB a.sc y=true then (match Γ.gl.lookup y,bo Γ a ys with
  | some (.err c0 _),some cs=>some (c0 :: cs)
  | _,_=>none) else none
 | _=>none
theorem kY {Γ:Gm} {C:Cf} {lc:Lc} {X:Cx} (TX:TxOk T Γ k C) (h:CxOk T k lc X):∀ {ys:List Expr} {cs:List Nat},bo Γ lc ys=some cs->NamesC X T.cl ys cs/\∀ c0∈cs,∀ c,XC X.K (T.cl c)->PySem.W.kitOne X.K (.ref (T.cl c)) (.ref (T.cl c0))=some (Γ.sub c c0)
 | [],cs,e=>by cases e;exact ⟨.nil,λc hc=>(by cases hc)⟩
 | y :: ys,cs,e=>by
  cases y with
  | Name y p=>
   simp only [bo] at e;by_cases hc:n4 y=true/\glB lc.sc y=true
   ·simp only [if_pos hc] at e;obtain ⟨n1,n2,n3⟩:=n8 hc.1;cases e1:Γ.gl.lookup y with
    | none=>rw [e1] at e;cases e
    | some g=>
     cases g with
     | val d=>rw [e1] at e;cases e
     | fn i n=>rw [e1] at e;cases e
     | dct kvs=>rw [e1] at e;cases e
     | err c0 fs=>
      cases e2:bo Γ lc ys with
      | none=>grind
      | some cs'=>
       rw [e1,e2] at e;cases e;obtain ⟨i1,i2⟩:=kY TX h e2;refine ⟨.cons (h.gl hc.2) (by rw [h.mg];exact (TX.err y c0 fs e1).1.mg_) n1 i1,λc1 hc1 c xc=>?_⟩;rcases FP.mp hc1 with rfl | hc1
       ·rw [h.K] at xc ⊢;exact TX.sub y c _ fs e1 xc
       ·exact i2 c1 hc1 c xc
   ·grind
  | _=>simp only [bo] at e;cases e
def Bw:RuE where
 is Γ lc e:=match e with
  | .Call (.Name x _) [a,.Tuple ys _ _] [] _=>Q2 Γ lc x a&&(bo Γ lc ys).isSome&&decide (ys.length<=1000)
  | _=>false
 run r Γ C lc e ρ:=match e with
  | .Call (.Name _ _) [a,.Tuple ys _ _] [] _=>(match bo Γ lc ys with
   | some cs=>if cs.length<=1000 then bind (r.e lc a ρ) (t7 λc=>cs.any λc0=>Γ.sub c c0) else bad
   | none=>bad)
  | _=>bad
 ok {T k r Γ C lc X} e R TX h hi:=by
  split at hi
  ·rename_i x p a ys n q pos;simp at hi;obtain ⟨⟨c0,o⟩,s⟩:=hi;obtain ⟨rfl,m,l,f⟩:=P0 c0;show PE X _ (tD X.K T.cl (xOf X) λρ=>(match bo Γ lc ys with
    | some cs=>if cs.length<=1000 then bind (r.e lc a ρ) (t7 λc=>cs.any λc0=>Γ.sub c c0) else bad
    | none=>bad))
   cases e:bo Γ lc ys with
   | none=>exact d4
   | some cs=>
    by_cases b:cs.length<=1000
    ·simp only [if_pos b];obtain ⟨j,i⟩:=kY TX h e;exact md i b (R.ex h a) (h.gl l) (TX.none h (by decide) m) j f
    ·simp only [if_neg b];exact d4
  ·cases hi
 runK q Γ C lc e ρ _ k:=match e with
  | .Call (.Name _ _) [a,.Tuple ys _ _] [] _=>(match bo Γ lc ys with
   | some cs=>if cs.length<=1000 then q.e lc a ρ λd=>bind (t7 (λc=>cs.any λc0=>Γ.sub c c0) d) k else bad
   | none=>bad)
  | _=>bad
 eq {r q Γ C lc} e ρ _ k h:=by
  split
  ·rename_i x p a ys n q pos;cases bo Γ lc ys with
   | none=>rfl
   | some cs=>simp only [h.e,bind_assoc,m8,bS]
  ·first
   | rfl
   | (rename_i g;split;exact (g _ _ _ _ _ _ _ rfl).elim;rfl)
def kM (x:Str) (c:Bool) (Γ:Gm) (b:Lc) (e:Expr):Bool:=match e with
 | .Call (.Name f _) (a :: es) [] _=>decide (f=x)&&(a :: es).all noStar&&(Γ.gl.lookup x).isNone&&glB b.sc x&&!(c&&quiet b)
 | _=>false
def tT (g:List D->M D) (r:Ev) (b:Lc) (e:Expr) (ρ:Env):M D:=match e with
 | .Call (.Name _ _) (a :: es) [] _=>bind (q4 r b (a :: es) ρ) g
 | _=>bad
def uV (g:List D->M D) (q:EvK) (c:Lc) (e:Expr) (ρ:Env) {b:Type} (k:D->M b):M b:=match e with
 | .Call (.Name _ _) (a :: es) [] _=>v7 q c (a :: es) ρ λds=>bind (g ds) k
 | _=>bad
theorem qD (g:List D->M D) {r:Ev} {q:EvK} {a:Lc} (e:Expr) (ρ:Env) {c:Type} (k:D->M c) (h:EqK r q):uV g q a e ρ k=bind (tT g r a e ρ) k:=by
 unfold uV tT;split
 ·simp only [m3 h,bind_assoc]
 ·first
  | rfl
  | (rename_i b;split;exact (b _ _ _ _ _ rfl).elim;rfl)
theorem fO {d:Bool} {Γ:Gm} {b:Lc} {e:Expr} (h:kM x d Γ b e=true):∃ p a es pos,e=.Call (.Name x p) (a :: es) [] pos/\(a :: es).all noStar=true/\Γ.gl.lookup x=none/\glB b.sc x=true/\(d=true->quiet b=false):=by
 unfold kM at h;split at h
 ·simp only [FG,FW,GH,GV] at h;obtain ⟨⟨⟨⟨rfl,f⟩,g⟩,i⟩,c⟩:=h;refine ⟨_,_,_,_,rfl,f,g,i,λz=>?_⟩;rw [z] at c;simpa using c
 ·cases h
def rBf (x:Str) (id:String) (d:Bool) (g:List D->M D) (c:x∈bnames/\x ≠ "__name__"/\(x==("__debug__" : Str))=false) (m:bootBuiltins x=some (.builtin id))
  (j:∀ {T:Tx} {k:Nat} {b:Lc} {X:Cx} {cl:Nat->Addr} {xe:Addr->Hp->Prop},CxOk T k b X->(d=true->X.calm=true)->i5 X (.builtin id) (rPs X.K cl xe g)):RuE where
 is:=kM x d
 run r _ _ b e ρ:=tT g r b e ρ
 ok {T k r Γ C b X} e R TX h hi:=by
  obtain ⟨p,a,es,pos,rfl,f,i,l,n⟩:=fO hi;exact rq (j h λz=>h.calm (n z)) (h.gl l) (TX.none h c.1 i) m (k9 R h f) c.2.1 c.2.2 f
 runK q _ _ b e ρ _ k:=uV g q b e ρ k
 eq e ρ _ k h:=qD g e ρ k h
def rBt (x:Str) (id:String) (d:Bool) (g:List D->M D) (c:x∈bnames/\x ≠ "__name__"/\(x==("__debug__" : Str))=false) (m:bootBuiltins x=some (.type id))
  (j:∀ {T:Tx} {k:Nat} {b:Lc} {X:Cx} {cl:Nat->Addr} {xe:Addr->Hp->Prop},CxOk T k b X->(d=true->X.calm=true)->i5 X (.type id) (rPs X.K cl xe g)):RuE where
 is:=kM x d
 run r _ _ b e ρ:=tT g r b e ρ
 ok {T k r Γ C b X} e R TX h hi:=by
  obtain ⟨p,a,es,pos,rfl,f,i,l,n⟩:=fO hi;exact pT (j h λz=>h.calm (n z)) (h.gl l) (TX.none h c.1 i) m (k9 R h f) c.2.1 c.2.2 f
 runK q _ _ b e ρ _ k:=uV g q b e ρ k
 eq e ρ _ k h:=qD g e ρ k h
def Ef:RuE:=rBf "len" "len" false (one k8) (by decide) PySem.boot_len λ_ _=>Bu
def yr:RuE:=rBt "tuple" "tuple" false (one t6) (by decide) rfl λ_ _=>tO
def BS:RuE:=rBt "list" "list" false (one jv) (by decide) rfl λ_ _=>AO
def BX:RuE:=rBf "repr" "repr" false (one X7) (by decide) rfl λh _=>zB h.room.gd h.u64
def uT:RuE:=rBf "sorted" "sorted" false (one M0) (by decide) rfl λ_ _=>nB
def EH:RuE:=rBf "all" "all" true (one mh) (by decide) rfl λ_ a=>Ax (a rfl)
def EZ:RuE:=rBt "int" "int" false (one qV) (by decide) rfl λ_ _=>Bm
def EB:RuE:=rBt "str" "str" false (one tN) (by decide) rfl λ_ _=>DM
def tV (n:Nat) (Γ:Gm) (a:Lc) (e:Expr):Bool:=match e with
 | .Call (.Name f _) es [] _=>decide (f = "range")&&decide (es.length=n)&&es.all noStar&&(Γ.gl.lookup ("range" : Str)).isNone&&glB a.sc "range"
 | _=>false
def rgE (n:Nat) (r:Ev) (a:Lc) (e:Expr) (ρ:Env):M (Src×Nat):=match e with
 | .Call (.Name _ _) es [] _=>bind (q4 r a es ρ) λds=>if ds.length=n then j6 ds else bad
 | _=>bad
def rgK (n:Nat) (q:EvK) (b:Lc) (e:Expr) (ρ:Env) {a:Type} (k:Src×Nat->M a):M a:=match e with
 | .Call (.Name _ _) es [] _=>v7 q b es ρ λds=>if ds.length=n then bind (j6 ds) k else bad
 | _=>bad
theorem xM (n:Nat) {r:Ev} {q:EvK} {a:Lc} (e:Expr) (ρ:Env) {b:Type} (k:Src×Nat->M b) (h:EqK r q):rgK n q a e ρ k=bind (rgE n r a e ρ) k:=by
 unfold rgK rgE;split
 ·simp only [m3 h,bind_assoc,m8,bS]
 ·first
  | rfl
  | (rename_i c;split;exact (c _ _ _ _ rfl).elim;rfl)
def tE:RuI where
 is Γ lc _ e:=tV 1 Γ lc e
 run r _ _ lc e ρ:=rgE 1 r lc e ρ
 ok {T k r Γ C lc X} g e R TX h hi:=by
  unfold tV at hi;split at hi
  ·rename_i f p es pos;simp only [FG,FW,GH] at hi;obtain ⟨⟨⟨⟨rfl,c⟩,b⟩,i⟩,d⟩:=hi
   match es,c,b with
   | [a],_,b=>exact gk (h.gl d) (TX.none h (by decide) i) (k9 R h b) (by simpa using b)
  ·cases hi
 runK q _ _ lc e ρ _ k:=rgK 1 q lc e ρ k
 eq e ρ _ k h:=xM 1 e ρ k h
def vT:RuI where
 is Γ lc _ e:=tV 2 Γ lc e
 run r _ _ lc e ρ:=rgE 2 r lc e ρ
 ok {T k r Γ C lc X} g e R TX h hi:=by
  unfold tV at hi;split at hi
  ·rename_i f p es pos;simp only [FG,FW,GH] at hi;obtain ⟨⟨⟨⟨rfl,i⟩,d⟩,j⟩,l⟩:=hi
   match es,i,d with
   | [a,b],_,d=>
    have c:noStar a=true/\noStar b=true:=by simpa using d
    exact iL (h.gl l) (TX.none h (by decide) j) (k9 R h d) c.1 c.2
  ·cases hi
 runK q _ _ lc e ρ _ k:=rgK 2 q lc e ρ k
 eq e ρ _ k h:=xM 2 e ρ k h
def DQ:RuI where
 is Γ lc g e:=match g,e with
  | .Tuple _ _ _,.Call (.Name f _) [a] [] _=>decide (f = "enumerate")&&noStar a&&(Γ.gl.lookup ("enumerate" : Str)).isNone&&glB lc.sc "enumerate"
  | _,_=>false
 run r _ _ lc e ρ:=match e with
  | .Call (.Name _ _) [a] [] _=>bind (q4 r lc [a] ρ) λds=>(match ds with
   | [d]=>X6 d
   | _=>bad)
  | _=>bad
 ok {T k r Γ C lc X} g e R TX h hi:=by
  split at hi
  ·simp only [FG,FW,GH] at hi;obtain ⟨⟨⟨rfl,b⟩,c⟩,j⟩:=hi;exact oF (h.gl j) (TX.none h (by decide) c) (k9 R h (by simpa using b)) b
  ·cases hi
 runK q _ _ lc e ρ _ k:=match e with
  | .Call (.Name _ _) [a] [] _=>v7 q lc [a] ρ λds=>(match ds with
   | [d]=>bind (X6 d) k
   | _=>bad)
  | _=>bad
 eq e ρ _ k h:=by
  split
  ·simp only [m3 h,bind_assoc];congr;funext ds
   match ds with
   | []=>rfl
   | [_]=>rfl
   | _ :: _ :: _=>rfl
  ·first
   | rfl
   | (rename_i i;split;exact (i _ _ _ _ rfl).elim;rfl)
def Ew:RuI where
 is _ _ _ _:=true
 run r _ _ lc e ρ:=bind (r.e lc e ρ) G9
 ok g e R TX h hi:=vN (R.ex h e)
 runK q _ _ lc e ρ _ k:=q.e lc e ρ λd=>bind (G9 d) k
 eq e ρ _ k h:=by simp only [h.e,bind_assoc]
def gQ (a b:Scope):Scope:={ a with names:=a.names.map λ(n,k)=>if (k==.free&&b.kind==.function&&b.names.lookup n==some .cell) then (n,NameKind.cell) else (n,k) }
theorem lp (a:Scope) (b:PySem.Env):relabel a b=gQ a b.scope:=rfl
def o0 (a:Scope):List Str:=(a.names.filter λy=>y.2==.free).map (·.1)
def B2 (b:Lc) (a:Scope) (xs:List Str):Bool:=
 decide (a.kind=.function)&&a.names.all (λy=>decide (y.2≠.cell))&&a.names.all (λy=>decide (y.2=.local->a.names.lookup y.1=some .local))
  && a.names.all (λy=>decide (y.2=.free->a.names.lookup y.1=some .free/\(b.sc.names.lookup y.1=some .cell\/b.sc.names.lookup y.1=some .free)))
  && (o0 a).all (λz=>decide (a.names.lookup z=some .free))&&decide ((xs++o0 a).Nodup)&&xs.all (λx=>decide (a.names.lookup x=some .local))&&!quiet b
theorem fz:∀ {xs:List α} {ys:List β},e6 f xs=some ys->ys.length=xs.length
 | [],_,e=>by cases e;rfl
 | x :: xs,ys,e=>by
  simp only [e6] at e;cases a:f x with
  | none=>rw [a] at e;cases e
  | some y=>
   cases b:e6 f xs with
   | none=>grind
   | some c=>rw [a,b] at e;cases e;simp [fz b]
theorem eL:∀ {xs:List α} {ys:List β} {j:Nat} {y:β},e6 f xs=some ys->ys[j]?=some y->∃ x,xs[j]?=some x/\f x=some y
 | [],_,_,_,e,h=>by cases e;simp at h
 | x :: xs,ys,j,y,e,h=>by
  simp only [e6] at e;cases a:f x with
  | none=>rw [a] at e;cases e
  | some z=>
   cases b:e6 f xs with
   | none=>grind
   | some c=>
    rw [a,b] at e;cases e;cases j with
    | zero=>grind
    | succ j=>simpa using eL b (by simpa using h)
def j2 (b:Lc) (a:Scope) (xs:List Str):Lc:=⟨xs++o0 a,gQ a b.sc,false,[]⟩
def testsE (r:Ev) (a:Lc) (ifs:List Expr) (ρ:Env):M Bool:=match ifs with
 | []=>ret true
 | [c]=>r.t a c ρ
 | _=>bad
def testsK (q:EvK) (a:Lc) (ifs:List Expr) (ρ:Env):M Bool:=match ifs with
 | []=>ret true
 | [c]=>q.t a c ρ ret
 | _=>bad
theorem tests_eq (h:EqK r q) (ifs:List Expr) (ρ:Env):testsK q lc ifs ρ=testsE r lc ifs ρ:=by
 match ifs with
 | []=>rfl
 | [c]=>simp only [testsK,testsE,h.t,y7]
 | _ :: _ :: _=>rfl
section
variable {T:Tx} {k:Nat} {r:Ev} {q:EvK} {Γ:Gm} {C:Cf} {lc:Lc} {X:Cx}
theorem tests_ok (R:EvOk T k r) (h:CxOk T k lc X) {ifs:List Expr}:PTL X ifs (tBo X.K T.cl (xOf X) (testsE r lc ifs)):=by
 match ifs with
 | []=>exact lO
 | [c]=>exact vb (R.tx h c)
 | _ :: _ :: _=>exact λ_ _ _ _ _ _ ⟨_,_,_,_,_,p⟩=>p.elim
theorem M2 (h:CxOk T k lc X) {a:Scope} {xs:List Str} {caps:List Nat} (f:B2 lc a xs=true) (c:e6 (e8 lc.N) (o0 a)=some caps):CompText X.N X.env (xs++o0 a) xs.length caps a/\(xs++o0 a).Nodup/\(∀ x∈xs,a.names.lookup x=some .local)/\quiet lc=false/\a.kind=.function:=by
 simp only [B2,FG,FW,FX,GV] at f;obtain ⟨⟨⟨⟨⟨⟨⟨b,s⟩,o⟩,r⟩,l⟩,n⟩,t⟩,p⟩:=f;refine ⟨⟨b,s,o,λy m q=>?_,λj i e=>?_,?_⟩,n,t,p,b⟩
 ·rw [h.sc];exact r y m q
 ·obtain ⟨z,d,g⟩:=eL c e;refine ⟨z,by rw [h.N];exact p0 g,?_,l z (FT d)⟩;rw [Gq (by omega)];simpa using d
 ·simp [fz c,Nat.add_comm]
theorem B5 (h:CxOk T k lc X) (b:quiet lc=false) {a:Scope} {xs:List Str} (d:a.kind=.function) (e:(xs++o0 a).Nodup) (pins:List (Addr×Obj)) (C:Addr) (c:List Addr) (s:Shared) (H:Hp):CxOk T k (j2 lc a xs) (c7 X pins (xs++o0 a) a C c s H):=
 ⟨h.prog,h.w,h.K,h.mg,h.base,rfl,e,by show relabel a X.env=gQ a lc.sc;rw [lp,h.sc],λ_=>h.calm b,(by have:=h.room;rw [b] at this;exact this),PassesOwn.never,rfl,d,λz=>Bool.noConfusion z⟩
end
def f6 (src:Src) (t:D->M Bool) (f:D->M D):Nat->Nat->List D->M (List D)
 | 0,_,_=>bad
 | m+1,i,es=>λS=>match src i S with
  | none=>.bad
  | some none=>.ok es S
  | some (some d)=>bind (t d) (λb=>if b=true then bind (f d) (λy=>if es.length<sizeLine then f6 src t f m (i+1) (es++[y]) else bad) else f6 src t f m (i+1) es) S
theorem aW (src:Src) (t:Env->M Bool) (f:Env->M D) (mk:D->Env):∀ m i es,p9 src t f mk m i es=f6 src (λd=>t (mk d)) (λd=>f (mk d)) m i es
 | 0,_,_=>rfl
 | m+1,i,es=>by
  funext S;simp only [p9,f6,aW src t f mk m]
  all_goals (cases src i S with
  | none=>rfl
  | some o=>cases o <;> rfl)
def G3 (r:Ev) (c:Lc) (d:Expr) (x:Str) (e:Pos) (b:Expr) (ifs:List Expr) (a:Scope) (ρ:Env):M (List D):=match e6 (e8 c.N) (o0 a) with
 | some caps=>nx (cH caps (r.i c (.Name x e) b) (testsE r (j2 c a [x]) ifs) (r.e (j2 c a [x]) d) ρ)
 | none=>bad
def aY (q:EvK) (c:Lc) (e:Expr) (x:Str) (h:Pos) (b:Expr) (ifs:List Expr) (a:Scope) (ρ:Env) {f:Type} (k:List D->M f):M f:=match e6 (e8 c.N) (o0 a) with
 | some caps=>bind (nx (q.i c (.Name x h) b ρ λg=>f6 g.1 (λd=>testsK q (j2 c a [x]) ifs (some d :: F8 caps ρ)) (λd=>q.e (j2 c a [x]) e (some d :: F8 caps ρ) ret) g.2 0 [])) k
 | none=>bad
theorem bj (h:EqK r q) (c:Expr) (x:Str) (d:Pos) (b:Expr) (ifs:List Expr) (a:Scope) (ρ:Env) {e:Type} (k:List D->M e):aY q lc c x d b ifs a ρ k=bind (G3 r lc c x d b ifs a ρ) k:=by
 unfold aY G3;cases e6 (e8 lc.N) (o0 a) with
 | none=>rfl
 | some caps=>simp only [h.i,h.e,y7,tests_eq h,cH,aW]
theorem rR (R:EvOk T k r) (h:CxOk T k lc X) {c:Expr} {x:Str} {g pos:Pos} {b:Expr} {ifs:List Expr} {a:Scope} (m:B2 lc a [x]=true) (o:u4 b=true) :
  PE X (.ListComp c [⟨.Name x g,b,ifs,0⟩] a pos) (tD X.K T.cl (xOf X) λρ=>bind (G3 r lc c x g b ifs a ρ) λds=>ret (.lst ds)):=by
 unfold G3;cases l:e6 (e8 lc.N) (o0 a) with
 | none=>exact d4
 | some caps=>
  obtain ⟨n,e,j,f,i⟩:=M2 h m l;refine kW (fv n (h.calm f) e rfl (j x (by simp)) (PI.x0 (R.ix h _ _)) (λpins C d s H=>?_) (λpins C d s H=>?_) o)
  ·exact PTL.x0 (tests_ok R (B5 h f i e pins C d s H))
  ·exact PE.x0 (R.ex (B5 h f i e pins C d s H) c)
def AA:RuE where
 is _ lc e:=match e with
  | .ListComp _ [⟨.Name x _,b,_,0⟩] a _=>B2 lc a [x]&&u4 b
  | _=>false
 run r _ _ lc e ρ:=match e with
  | .ListComp c [⟨.Name x d,b,ifs,0⟩] a _=>bind (G3 r lc c x d b ifs a ρ) λds=>ret (.lst ds)
  | _=>bad
 ok e R TX h hi:=by
  split at hi
  ·rw [FG] at hi;exact rR R h hi.1 hi.2
  ·cases hi
 runK q _ _ lc e ρ _ k:=match e with
  | .ListComp c [⟨.Name x d,b,ifs,0⟩] a _=>aY q lc c x d b ifs a ρ λds=>k (.lst ds)
  | _=>bad
 eq e ρ _ k h:=by
  split
  ·simp only [bj h,bind_assoc,h9]
  ·first
   | rfl
   | (rename_i f;split;exact (f _ _ _ _ _ _ _ rfl).elim;rfl)
def au (r:Ev) (c:Lc) (d:Expr) (x y:Str) (f h g:Pos) (e:Nat) (b:Expr) (ifs:List Expr) (a:Scope) (ρ:Env):M (List D):=match e6 (e8 c.N) (o0 a) with
 | some caps=>nx (dI caps (r.i c (.Tuple [.Name x f,.Name y h] e g) b) (testsE r (j2 c a [x,y]) ifs) (r.e (j2 c a [x,y]) d) ρ)
 | none=>bad
def gv (q:EvK) (c:Lc) (e:Expr) (x y:Str) (i l j:Pos) (h:Nat) (b:Expr) (ifs:List Expr) (a:Scope) (ρ:Env) {f:Type} (k:List D->M f):M f:=match e6 (e8 c.N) (o0 a) with
 | some caps=>bind (nx (q.i c (.Tuple [.Name x i,.Name y l] h j) b ρ λg=>f6 g.1 (λd=>pS (testsK q (j2 c a [x,y]) ifs) (mk2 (F8 caps ρ) d)) (λd=>q.e (j2 c a [x,y]) e (mk2 (F8 caps ρ) d) ret) g.2 0 [])) k
 | none=>bad
theorem oY (h:EqK r q) (c:Expr) (x y:Str) (f i g:Pos) (d:Nat) (b:Expr) (ifs:List Expr) (a:Scope) (ρ:Env) {j:Type} (k:List D->M j):gv q lc c x y f i g d b ifs a ρ k=bind (au r lc c x y f i g d b ifs a ρ) k:=by
 unfold gv au;cases e6 (e8 lc.N) (o0 a) with
 | none=>rfl
 | some caps=>
  have e:testsK q (j2 lc a [x,y]) ifs=testsE r (j2 lc a [x,y]) ifs:=funext λρ=>tests_eq h ifs ρ;simp only [h.i,h.e,y7,e,dI,aW]
theorem rf (R:EvOk T k r) (h:CxOk T k lc X) {c:Expr} {x y:Str} {l n m pos:Pos} {i:Nat} {b:Expr} {ifs:List Expr} {a:Scope} (p:B2 lc a [x,y]=true) (t:u4 b=true) :
  PE X (.ListComp c [⟨.Tuple [.Name x l,.Name y n] i m,b,ifs,0⟩] a pos) (tD X.K T.cl (xOf X) λρ=>bind (au r lc c x y l n m i b ifs a ρ) λds=>ret (.lst ds)):=by
 unfold au;cases o:e6 (e8 lc.N) (o0 a) with
 | none=>exact d4
 | some caps=>
  obtain ⟨q,e,g,f,j⟩:=M2 h p o;refine kW (ke q (h.calm f) e rfl rfl (g x (by simp)) (g y (by simp)) (PI.x0 (R.ix h _ _)) (λpins C d s H=>?_) (λpins C d s H=>?_) t)
  ·exact PTL.x0 (tests_ok R (B5 h f j e pins C d s H))
  ·exact PE.x0 (R.ex (B5 h f j e pins C d s H) c)
def zK:RuE where
 is _ lc e:=match e with
  | .ListComp _ [⟨.Tuple [.Name x _,.Name y _] _ _,b,_,0⟩] a _=>B2 lc a [x,y]&&u4 b
  | _=>false
 run r _ _ lc e ρ:=match e with
  | .ListComp c [⟨.Tuple [.Name x f,.Name y i] d g,b,ifs,0⟩] a _=>bind (au r lc c x y f i g d b ifs a ρ) λds=>ret (.lst ds)
  | _=>bad
 ok e R TX h hi:=by
  split at hi
  ·rw [FG] at hi;exact rf R h hi.1 hi.2
  ·cases hi
 runK q _ _ lc e ρ _ k:=match e with
  | .ListComp c [⟨.Tuple [.Name x f,.Name y i] d g,b,ifs,0⟩] a _=>gv q lc c x y f i g d b ifs a ρ λds=>k (.lst ds)
  | _=>bad
 eq e ρ _ k h:=by
  split
  ·simp only [oY h,bind_assoc,h9]
  ·first
   | rfl
   | (rename_i j;split;exact (j _ _ _ _ _ _ _ _ _ _ rfl).elim;rfl)
def zh (m:Str) (e:Expr):Bool:=match e with
 | .Call (.Attribute o n b) (a :: es) [] c=>decide (n=m)&&v8 o&&(a :: es).all noStar&&M7 (a :: es)&&(b.endLine==c.line)
 | _=>false
theorem vo (h:zh m e=true):∃ o b a es c,e=.Call (.Attribute o m b) (a :: es) [] c/\v8 o=true/\(a :: es).all noStar=true/\M7 (a :: es)=true/\(b.endLine==c.line)=true:=by
 unfold zh at h;grind
def mtE {c:Type} (g:D->M c) (op:D->List D->M D) (r:Ev) (b:Lc) (e:Expr) (ρ:Env):M D:=match e with
 | .Call (.Attribute o _ _) (a :: es) [] _=>bind (r.e b o ρ) λx=>bind (g x) λ_=>bind (q4 r b (a :: es) ρ) λds=>op x ds
 | _=>bad
def mtK {d:Type} (g:D->M d) (op:D->List D->M D) (q:EvK) (b:Lc) (e:Expr) (ρ:Env) {c:Type} (k:D->M c):M c:=match e with
 | .Call (.Attribute o _ _) (a :: es) [] _=>q.e b o ρ λx=>bind (g x) λ_=>v7 q b (a :: es) ρ λds=>bind (op x ds) k
 | _=>bad
theorem CU (g:D->M α) (op:D->List D->M D) {r:Ev} {q:EvK} {a:Lc} (e:Expr) (ρ:Env) {b:Type} (k:D->M b) (h:EqK r q):mtK g op q a e ρ k=bind (mtE g op r a e ρ) k:=by
 unfold mtK mtE;split
 ·simp only [h.e,m3 h,bind_assoc]
 ·first
  | rfl
  | (rename_i c;split;exact (c _ _ _ _ _ _ rfl).elim;rfl)
def rMt {α:Type} (m:Str) (g:D->M α) (op:D->List D->M D)
  (ok:∀ {T:Tx} {k:Nat} {lc:Lc} {X:Cx} {xe:Addr->Hp->Prop} {o a:Expr} {es:List Expr} {apos cpos:Pos} {f:Env->M D} {fs:Env->M (List D)},CxOk T k lc X->PE X o (tD X.K T.cl xe f)->PA X (a :: es) (tDs X.K T.cl xe fs)->v8 o=true->(a :: es).all noStar=true->M7 (a :: es)=true->(apos.endLine==cpos.line)=true->PE X (.Call (.Attribute o m apos) (a :: es) [] cpos) (tD X.K T.cl xe λρ=>bind (f ρ) λx=>bind (g x) λ_=>bind (fs ρ) λds=>op x ds)):RuE where
 is _ _ e:=zh m e
 run r _ _ lc e ρ:=mtE g op r lc e ρ
 ok {T k r Γ C lc X} e R TX h hi:=by
  obtain ⟨o,apos,a,es,cpos,rfl,c1,c2,c3,c4⟩:=vo hi;exact ok h (R.ex h o) (k9 R h c2) c1 c2 c3 c4
 runK q _ _ lc e ρ _ k:=mtK g op q lc e ρ k
 eq e ρ _ k h:=CU g op e ρ k h
def ET:RuE:=rMt "pop" lstOf popD λ_ e d c f a b=>kC JY PySem.F.slot_list_pop PySem.F.type_list_pop nz iP ou e d c f a b
def rAppend:RuE:=rMt "append" lstOf E5 λ_ e d c f a b=>mC e d c f a b
def Ao:RuS where
 is _ _ e:=match e with
  | .Expr e _=>m9 e
  | _=>false
 run r _ _ lc e ρ:=match e with
  | .Expr e _=>bind (r.e lc e ρ) λ_=>ret (.nx ρ)
  | _=>bad
 ok e R TX h hf hi:=by
  cases e with
  | Expr e p=>exact mm (R.ex h _) hi
  | _=>exact P3
 runK q _ _ lc e ρ _ k:=match e with
  | .Expr e _=>q.e lc e ρ λ_=>k (.nx ρ)
  | _=>bad
 eq e ρ _ k h:=by
  cases e with
  | Expr e p=>simp only [h.e,bind_assoc,h9]
  | _=>rfl
def Em:RuS where
 is _ _ e:=match e with
  | .Return (some _) _=>true
  | _=>false
 run r _ _ lc e ρ:=match e with
  | .Return (some e) _=>bind (r.e lc e ρ) λd=>ret (.rt d)
  | _=>bad
 ok e R TX h hf hi:=by
  split at hi
  ·exact sv (R.ex h _)
  ·cases hi
 runK q _ _ lc e ρ _ k:=match e with
  | .Return (some e) _=>q.e lc e ρ λd=>k (.rt d)
  | _=>bad
 eq e ρ _ k h:=by
  split
  ·simp only [h.e,bind_assoc,h9]
  ·first
   | rfl
   | (rename_i a;split;exact (a _ _ rfl).elim;rfl)
def sIf:RuS where
 is _ _ e:=match e with
  | .If _ _ _ _=>true
  | _=>false
 run r _ _ lc e ρ:=match e with
  | .If c a b _=>bind (r.t lc c ρ) λq=>if q=true then O8 r lc a ρ else O8 r lc b ρ
  | _=>bad
 ok e R TX h hf hi:=by
  cases e with
  | If c a b p=>exact zt (R.tx h _) (J2 R h hf) (J2 R h hf)
  | _=>exact P3
 runK q _ _ lc e ρ _ k:=match e with
  | .If c a b _=>q.t lc c ρ λz=>if z=true then i4 q lc a ρ k else i4 q lc b ρ k
  | _=>bad
 eq e ρ _ k h:=by
  cases e with
  | If c a b p=>simp only [h.t,W7 h,bind_assoc,m8]
  | _=>rfl
def eM (a:Lc) (x:Str):Bool:=(e8 a.N x).isSome&&cA a.sc x
def V6 (a:Lc) (x:Str) (ρ:Env) (d:D):M Fl:=match e8 a.N x with
 | some i=>ret (.nx (ρ.set i (some d)))
 | none=>bad
def u9 (b:Lc) (x:Str) (ρ:Env) (d:D) {a:Type} (k:Fl->M a):M a:=match e8 b.N x with
 | some i=>k (.nx (ρ.set i (some d)))
 | none=>bad
theorem dW (a:Lc) (x:Str) (ρ:Env) (d:D) {b:Type} (k:Fl->M b):bind (V6 a x ρ d) k=u9 a x ρ d k:=by
 unfold V6 u9;cases e8 a.N x <;> rfl
theorem qE {x:Str} {p pos:Pos} {e:Expr} {f:Env->M D} (h:CxOk T k lc X) (l:lc.fr=true) (a:eM lc x=true) (g:PE X e (tD X.K T.cl xe f)) (c:m9 e=true):PS X (.Assign [.Name x p] e pos) (sD X.K T.cl xe λρ=>bind (f ρ) (V6 lc x ρ)):=by
 rw [eM,FG,GQ] at a;obtain ⟨⟨i,b⟩,j⟩:=a;have:=tq (pos:=pos) (pos':=p) h.nd' (by rw [h.N];exact p0 b) (by rw [h.sc];exact G1 j) g c (.inl (h.fn1 l));have e:V6 lc x=λρ d=>ret (.nx (ρ.set i (some d))):=by funext ρ d;simp only [V6,b]
 simp_all
def Eh:RuS where
 is _ lc e:=match e with
  | .Assign [.Name x _] e _=>eM lc x&&m9 e
  | _=>false
 run r _ _ lc e ρ:=match e with
  | .Assign [.Name x _] e _=>bind (r.e lc e ρ) (V6 lc x ρ)
  | _=>bad
 ok e R TX h hf hi:=by
  split at hi
  ·rw [FG] at hi;exact qE h hf hi.1 (R.ex h _) hi.2
  ·cases hi
 runK q _ _ lc e ρ _ k:=match e with
  | .Assign [.Name x _] e _=>q.e lc e ρ λd=>u9 lc x ρ d k
  | _=>bad
 eq e ρ _ k h:=by
  split
  ·simp only [h.e,bind_assoc,dW]
  ·first
   | rfl
   | (rename_i a;split;exact (a _ _ _ _ rfl).elim;rfl)
def Cj:RuS where
 is _ lc e:=match e with
  | .Assign [.Name x _] (.List es _) _=>eM lc x&&decide (x∈lc.mu)&&es.all noStar
  | _=>false
 run r _ _ lc e ρ:=match e with
  | .Assign [.Name x _] (.List es _) _=>bind (bind (q4 r lc es ρ) newL) (V6 lc x ρ)
  | _=>bad
 ok e R TX h hf hi:=by
  split at hi
  ·rw [FG,FG] at hi;exact qE h hf hi.1.1 (vg (k9 R h hi.2)) rfl
  ·cases hi
 runK q _ _ lc e ρ _ k:=match e with
  | .Assign [.Name x _] (.List es _) _=>v7 q lc es ρ λds=>bind (newL ds) λd=>u9 lc x ρ d k
  | _=>bad
 eq e ρ _ k h:=by
  split
  ·simp only [m3 h,bind_assoc,dW]
  ·first
   | rfl
   | (rename_i a;split;exact (a _ _ _ _ _ rfl).elim;rfl)
def swB (c:Lc) (b:Expr) (a:Scope) (t:Str) (pos:Pos):Bool:=c.sc.names.lookup t==some .local&&pos.line==b.pos.line&&!(a.names.any λ(n,k)=>n==t&&(k==.local||k==.cell))
theorem xN (h:CxOk T k lc X) (d:Expr) (c:List Comprehension) (a:Scope) (x:Str) (pos' pos b:Pos):swapsWith (.ListComp d c a b) (some (.Name x pos')) pos.line X.env=pure (swB lc (.ListComp d c a b) a x pos'):=by
 show pure (X.env.blockKind==.function&&X.env.kindOf x==some .local&&pos'.line==(Expr.ListComp d c a b).pos.line&&!(a.names.any λ(n,k)=>n==x&&(k==.local||k==.cell)))=_;have f:X.env.blockKind=.function:=by unfold PySem.Env.blockKind;rw [h.sc,h.kd];rfl
 have e:X.env.kindOf x=lc.sc.names.lookup x:=by unfold PySem.Env.kindOf;rw [h.sc]
 rw [f,e];rfl
theorem pU {T:Tx} {k i:Nat} {f:Lc} {X:Cx} {x:Str} {p pos:Pos} {e:Expr} {fs:Env->M (List D)} {xe:Addr->Hp->Prop} (r:e8 f.N x=some i) (h:PS X (.Assign [.Name x p] e pos) (nq (pe X.K T.cl x0 fs) (ax i))):PS X (.Assign [.Name x p] e pos) (sD X.K T.cl xe λρ=>bind (bind (nx (fs ρ)) λds=>ret (.lst ds)) (V6 f x ρ)):=PS.imp h λD σ H ⟨μ,S,ρ,g,n,p⟩=>
 ⟨μ,S,ρ,g,n,p.bind.bind.nx.imp λds S1 a j l c o m ys q b=>by
  have d:=o.ret a j (Lat.refl _ _) c;simp only [V6,r] at d;exact d.ret a j (Lat.refl _ _) c _ ((g.later l).set (.lst q b) i)⟩
def oz:RuS where
 is _ lc e:=match e with
  | .Assign [.Name x _] (.ListComp _ [⟨.Name y _,b,_,0⟩] a _) _=>eM lc x&&B2 lc a [y]&&u4 b
  | _=>false
 run r _ _ lc e ρ:=match e with
  | .Assign [.Name x _] (.ListComp c [⟨.Name y g,b,ifs,0⟩] a _) _=>bind (bind (G3 r lc c y g b ifs a ρ) λds=>ret (.lst ds)) (V6 lc x ρ)
  | _=>bad
 ok {T k r Γ C lc X} e R TX h hf f:=by
  split at f
  ·rename_i x p c y g b ifs a d pos;rw [FG,FG] at f;obtain ⟨⟨N,K⟩,t⟩:=f;have m:=N;rw [eM,FG,GQ] at m;obtain ⟨⟨i,f⟩,M⟩:=m;have j:X.N[i]?=some x:=by rw [h.N];exact p0 f
   have n:L2.Loc X.env.scope x:=by rw [h.sc];exact G1 M
   have l:X.fn x=true\/X.env.scope.names.lookup x=some .local:=.inl (h.fn1 hf);have u:=xN h c [⟨.Name y g,b,ifs,0⟩] a x p pos d;unfold G3;cases L:e6 (e8 lc.N) (o0 a) with
   | none=>exact PS.imp eT λD σ H ⟨μ,S,ρ,J,F,p⟩=>p.bind.elim
   | some caps=>
    obtain ⟨z,o,I,v,E⟩:=M2 h K L;have G:=λpins C w s H=>PTL.x0 (tests_ok (ifs:=ifs) R (B5 h v E o pins C w s H));have A:=λpins C w s H=>PE.x0 (R.ex (B5 h v E o pins C w s H) c);refine pU (k:=k) f ?_;cases B:swB lc (.ListComp c [⟨.Name y g,b,ifs,0⟩] a d) a x p with
    | false=>
     rw [B] at u;exact hU h.nd' j n (fv z (h.calm v) o rfl (I y (by simp)) (PI.x0 (R.ix h _ _)) G A t) u l
    | true=>
     rw [B] at u;exact PS.imp (bR u h.nd' j n l z (h.calm v) o rfl (I y (by simp)) (PI.x0 (R.ix h _ _)) G A (y8 t)) λD σ H ⟨μ,S,ρ,J,F,p⟩=>br J F p
  ·cases f
 runK q _ _ lc e ρ _ k:=match e with
  | .Assign [.Name x _] (.ListComp c [⟨.Name y g,b,ifs,0⟩] a _) _=>aY q lc c y g b ifs a ρ λds=>u9 lc x ρ (.lst ds) k
  | _=>bad
 eq e ρ _ k h:=by
  split
  ·simp only [bj h,bind_assoc,h9,dW]
  ·first
   | rfl
   | (rename_i t;split;exact (t _ _ _ _ _ _ _ _ _ _ rfl).elim;rfl)
def t5 (a:Lc):List Expr->Option (List Nat)
 | []=>some []
 | .Name x _ :: b=>if cA a.sc x=true then (match e8 a.N x,t5 a b with
   | some i,some c=>some (i :: c)
   | _,_=>none) else none
 | _=>none
theorem aw (h:CxOk T k lc X) (hf:lc.fr=true):∀ {ts:List Expr} {is:List Nat},t5 lc ts=some is->NamesAt X ts is
 | [],is,e=>by cases e;exact .nil
 | t :: ts,is,e=>by
  cases t with
  | Name x p=>
   simp only [t5] at e;by_cases hl:cA lc.sc x=true
   ·simp only [if_pos hl] at e;cases e1:e8 lc.N x with
    | none=>rw [e1] at e;cases e
    | some i=>
     cases e2:t5 lc ts with
     | none=>grind
     | some is'=>
      rw [e1,e2] at e;cases e;exact .cons (by rw [h.N];exact p0 e1) (by rw [h.sc];exact G1 hl) (.inl (h.fn1 hf)) (aw h hf e2)
   ·grind
  | _=>simp only [t5] at e;cases e
def Ej:RuS where
 is _ lc e:=match e with
  | .Assign [.Tuple ts _ _] e _=>(t5 lc ts).isSome&&m9 e&&qG e&&!quiet lc
  | _=>false
 run r _ _ lc e ρ:=match e with
  | .Assign [.Tuple ts _ _] e _=>(match t5 lc ts with
   | some is=>bind (r.e lc e ρ) λd=>Z5 (p8 is) d ρ
   | none=>bad)
  | _=>bad
 ok {T k r Γ C lc X} e R TX h hf hi:=by
  split at hi
  ·rename_i ts n p e pos;simp at hi;obtain ⟨⟨⟨h1,h2⟩,h3⟩,h4⟩:=hi;show PS X _ (sD X.K T.cl (xOf X) λρ=>(match t5 lc ts with
    | some is=>bind (r.e lc e ρ) λd=>Z5 (p8 is) d ρ
    | none=>bad))
   cases e1:t5 lc ts with
   | none=>exact P3
   | some is=>exact wL (h.calm h4) h.nd' (aw h hf e1) (R.ex h _) h2 h3
  ·cases hi
 runK q _ _ lc e ρ _ k:=match e with
  | .Assign [.Tuple ts _ _] e _=>(match t5 lc ts with
   | some is=>q.e lc e ρ λd=>bind (Z5 (p8 is) d ρ) k
   | none=>bad)
  | _=>bad
 eq {r q Γ C lc} e ρ _ k h:=by
  split
  ·rename_i ts n p e pos;cases t5 lc ts with
   | none=>rfl
   | some is=>simp only [h.e,bind_assoc]
  ·first
   | rfl
   | (rename_i hn;split;exact (hn _ _ _ _ _ rfl).elim;rfl)
def Dh:RuS where
 is _ _ e:=match e with
  | .Assign [.Subscript _ b _] e _=>m9 e&&E8 b
  | _=>false
 run r _ _ lc e ρ:=match e with
  | .Assign [.Subscript a b _] e _=>bind (r.e lc e ρ) λv=>bind (r.e lc a ρ) λx=>bind (r.e lc b ρ) λy=>bind (K3 x y v) λ_=>ret (.nx ρ)
  | _=>bad
 ok e R TX h hf hi:=by
  split at hi
  ·rw [FG] at hi;exact nu h.u1 (R.ex h _) (R.ex h _) (R.ex h _) hi.1 hi.2
  ·cases hi
 runK q _ _ lc e ρ _ k:=match e with
  | .Assign [.Subscript a b _] e _=>q.e lc e ρ λv=>q.e lc a ρ λx=>q.e lc b ρ λy=>bind (K3 x y v) λ_=>k (.nx ρ)
  | _=>bad
 eq e ρ _ k h:=by
  split
  ·simp only [h.e,bind_assoc,h9]
  ·first
   | rfl
   | (rename_i c;split;exact (c _ _ _ _ _ rfl).elim;rfl)
def tgE (b:Lc) (a:Expr):Option (D->Env->Option Env):=match a with
 | .Name x _=>if cA b.sc x=true then (e8 b.N x).map λi=>λd ρ=>some (ρ.set i (some d)) else none
 | .Tuple c _ _=>(t5 b c).map p8
 | _=>none
theorem BO (h:CxOk T k lc X) (d:lc.fr=true) (g:quiet lc=false) {b:Expr} {tg:D->Env->Option Env} (e:tgE lc b=some tg):PG X b (vB X.K T.cl tg):=by
 unfold tgE at e;split at e
 ·rename_i x p;by_cases c:cA lc.sc x=true
  ·simp only [if_pos c] at e;cases a:e8 lc.N x with
   | none=>rw [a] at e;cases e
   | some i=>rw [a] at e;cases e;exact pz h.nd' (by rw [h.N];exact p0 a) (by rw [h.sc];exact G1 c) (.inl (h.fn1 d))
  ·grind
 ·rename_i f n p;cases a:t5 lc f with
  | none=>rw [a] at e;cases e
  | some j=>rw [a] at e;cases e;exact kA (h.calm g) h.nd' (aw h d a)
 ·cases e
def Ei:RuS where
 is _ lc e:=match e with
  | .For _ a _ [] _=>u4 a&&!quiet lc
  | _=>false
 run r _ _ lc e ρ:=match e with
  | .For b a body [] _=>(match tgE lc b with
   | some tg=>bind (r.i lc b a ρ) λp=>i6 p.1 tg (O8 r lc body) p.2 0 ρ
   | none=>bad)
  | _=>bad
 ok {T k r Γ C lc X} e R TX h hf hi:=by
  split at hi
  ·rename_i b a body pos;simp at hi;show PS X _ (sD X.K T.cl (xOf X) λρ=>(match tgE lc b with
    | some tg=>bind (r.i lc b a ρ) λp=>i6 p.1 tg (O8 r lc body) p.2 0 ρ
    | none=>bad))
   cases e:tgE lc b with
   | none=>exact P3
   | some tg=>exact vC h.po (h.calm hi.2) (R.ix h _ _) (BO h hf hi.2 e) (J2 R h hf) hi.1
  ·cases hi
 runK q _ _ lc e ρ _ k:=match e with
  | .For b a body [] _=>(match tgE lc b with
   | some tg=>q.i lc b a ρ λp=>bind (i6 p.1 tg (λc=>i4 q lc body c ret) p.2 0 ρ) k
   | none=>bad)
  | _=>bad
 eq {r q Γ C lc} e ρ _ k h:=by
  split
  ·rename_i b a body pos;cases tgE lc b with
   | none=>rfl
   | some tg=>
    have:(λc=>i4 q lc body c ret)=O8 r lc body:=funext λc=>by rw [W7 h,y7]
    simp only [h.i,bind_assoc,this]
  ·first
   | rfl
   | (rename_i d;split;exact (d _ _ _ _ rfl).elim;rfl)
def B8 (t:Env->M Bool) (g:Env->M Fl):Nat->Env->M Fl
 | 0,_=>bad
 | m+1,ρ=>bind (t ρ) λq=>if q=true then bind (g ρ) (λb=>match b with
   | .nx a=>B8 t g m a
   | .ct a=>B8 t g m a
   | .bk a=>ret (.nx a)
   | .rt d=>ret (.rt d)) else ret (.nx ρ)
theorem kx {c:Expr} {body:List Stmt} {pos:Pos} {t:Env->M Bool} {g:Env->M Fl} (n:Nat) (hp:PassesOwn (model X.prog X.w) X.A X.env X.xe) (hc:PT X c (tBo X.K cl xe t)) (hb:PSs X body (sD X.K cl xe g)) :
  PS X (.While c body [] pos) (sD X.K cl xe λρ=>B8 t g n ρ):=PS.imp (qL hp hc hb) λD σ H ⟨μ,S,ρ,eo,rp,p⟩=>by
 refine ⟨λm σ H=>∃ μ2 S2 ρ2,EnvOk X.K μ2 H ρ2 σ/\Rep X.K cl μ2 S2 H/\Post X.K cl xe μ2 H (B8 t g m ρ2 S2) (λfl _ μ' H'=>FlOk X.K D fl μ' H'),⟨n,μ,S,ρ,eo,rp,p⟩,?_⟩;rintro m σ2 H2 ⟨μ2,S2,ρ2,eo2,r2,p2⟩;cases m with
 | zero=>exact p2.elim
 | succ m=>
  refine ⟨μ2,S2,ρ2,eo2,r2,p2.bind.imp λq S3 μ3 H3 l3 r3 p3=>?_⟩;cases q with
  | false=>exact p3.ret μ3 H3 (Lat.refl _ _) r3 σ2 (eo2.later l3)
  | true=>
   refine si ?_;rw [if_pos rfl] at p3;refine ⟨λσ' H'=>∃ μ4 S4 ρ4,EnvOk X.K μ4 H' ρ4 σ'/\Rep X.K cl μ4 S4 H'/\Post X.K cl xe μ4 H' (B8 t g m ρ4 S4) (λfl _ μ' H'=>FlOk X.K D fl μ' H'),λσ' H' q=>⟨m,Go _,q⟩,?_⟩;refine ⟨μ3,S3,ρ2,eo2.later l3,r3,p3.bind.imp λfl S4 μ4 H4 l4 r4 p4=>?_⟩;cases fl with
   | nx ρ4=>exact λσ4 eo4=>⟨μ4,S4,ρ4,eo4,r4,p4⟩
   | ct ρ4=>exact λσ4 eo4=>⟨μ4,S4,ρ4,eo4,r4,p4⟩
   | bk ρ4=>exact p4.ret μ4 H4 (Lat.refl _ _) r4
   | rt d=>exact p4.ret μ4 H4 (Lat.refl _ _) r4
def yZ:RuS where
 is _ _ e:=match e with
  | .While _ _ [] _=>true
  | _=>false
 run r _ _ lc e ρ:=match e with
  | .While c body [] _=>B8 (r.t lc c) (O8 r lc body) 10000 ρ
  | _=>bad
 ok e R TX h hf hi:=by
  split at hi
  ·exact kx 10000 h.po (R.tx h _) (J2 R h hf)
  ·cases hi
 runK q _ _ lc e ρ _ k:=match e with
  | .While c body [] _=>bind (B8 (λa=>q.t lc c a ret) (λa=>i4 q lc body a ret) 10000 ρ) k
  | _=>bad
 eq {r q Γ C lc} e ρ _ k h:=by
  split
  ·rename_i c body pos;have b:(λa=>i4 q lc body a ret)=O8 r lc body:=funext λa=>by rw [W7 h,y7]
   have f:(λa=>q.t lc c a ret)=r.t lc c:=funext λa=>by rw [h.t,y7]
   rw [b,f]
  ·first
   | rfl
   | (rename_i d;split;exact (d _ _ _ rfl).elim;rfl)
def PB (X:Cx) (cl:Nat->Addr) (st:Stmt) (g:Env->M Fl):Prop:=∀ (pins:List (Addr×Obj)) (s:Shared) (σ:L2.St) (H:Hp) (D:Ends) (F:Addr->Hp->Prop),L2.Inv X pins σ H s->sD X.K cl F g D σ H ->
 wpAny (model X.prog X.w) X.A (exec st X.env) (SP X pins D) (xD X pins σ F) s
def jA (b:Option Nat) (a:Fl):Fl:=match b with
 | none=>a
 | some i=>match a with
  | .nx ρ=>.nx (ρ.set i none)
  | .bk ρ=>.bk (ρ.set i none)
  | .ct ρ=>.ct (ρ.set i none)
  | .rt d=>.rt d
def rl (a:Option Nat) (n:Nat) (ρ:Env):Env:=match a with
 | none=>ρ
 | some i=>ρ.set i (some (.ref n))
def Z3 (g:Env->M Fl) (a:Nat->Bool) (b:Option Nat) (h:Env->M Fl) (ρ:Env):M Fl:=λS=>match g ρ S with
 | .exn n S1=>(match S1[n]? with
  | some (.exc c _)=>if a c=true then bind (nx (h (rl b n ρ))) (λd=>ret (jA b d)) S1 else .bad
  | _=>.bad)
 | r=>r
section
variable {X:Cx} {cl:Nat->Addr} {e:Expr} {f:Env->M D} {pos:Pos} {st:Stmt} {g:Env->M Fl}
theorem wJ (h:PX X cl e f) (m:m9 e=true):PB X cl (.Expr e pos) λρ=>bind (f ρ) λ_=>ret (.nx ρ):=by
 intro pins s σ H D F I ⟨μ,S,ρ,c,l,p⟩;exact wpAny_Expr_any (thn (h pins s σ H (λ_ a=>D.nx σ a) F I ⟨μ,S,ρ,c,l,p.bind.imp λd S1 b a j g n v o=>n.ret b a (Lat.refl _ _) g σ (c.later j)⟩) λv q ⟨x,a,k,g,i⟩=>⟨σ,a,k,i⟩) I.quiet (D6 m)
theorem yk (h:PX X cl e f):PB X cl (.Return (some e) pos) λρ=>bind (f ρ) λd=>ret (.rt d):=by
 intro pins s σ H D F I ⟨μ,S,ρ,j,l,p⟩;exact wpAny_Return_some (thn (h pins s σ H D.rt F I ⟨μ,S,ρ,j,l,p.bind.imp λd S1 a c n b m v i=>m.ret a c (Lat.refl _ _) b v i⟩) λv o ⟨x,c,k,b,g⟩=>⟨x,σ,c,k,b,g⟩)
theorem AK (r:X.N.Nodup) (z:X.N[i]?=some x) (t:Loc X.env.scope x) (h:PX X cl e f) (u:m9 e=true) (o:X.fn x=true\/X.env.scope.names.lookup x=some .local) :
  PB X cl (.Assign [.Name x pos'] e pos) λρ=>bind (f ρ) λd=>ret (.nx (ρ.set i (some d))):=by
 intro pins s σ H D F I ⟨μ,S,ρ,g,q,p⟩;exact wpAny_Assign_Name (thn (h pins s σ H (λv a=>D.nx (σ.set i (some v)) a) F I ⟨μ,S,ρ,g,q,p.bind.imp λd S1 b a k c w v l=>w.ret b a (Lat.refl _ _) c _ ((g.later k).set l i)⟩) λv B ⟨y,a,m,c,j⟩=>U2 m r z t c (λA n=>⟨_,a,n,j⟩) o) (D6 u)
theorem EnvOk.setN {K:PySem.W.Frag} {μ:Mp} {H:Hp} {ρ:Env} {σ:L2.St} (h:EnvOk K μ H ρ σ) (i:Nat):EnvOk K μ H (ρ.set i none) (σ.set i none):=by
 refine ⟨by simp [h.1],λj d e=>?_⟩;by_cases hij:i=j
 ·subst hij;have hi:i<ρ.length:=by simpa using (Fv.mp e).1
  rw [Ge hi] at e;cases e
 ·rw [FS hij] at e;obtain ⟨v,q,r⟩:=h.2 j d e;exact ⟨v,by rw [FS hij];exact q,r⟩
def iw (a:Option Nat) (D:Ends):Ends:=match a with
 | none=>D
 | some i=>{ nx:=λσ H=>D.nx (σ.set i none) H,rt:=D.rt,bk:=λσ H=>D.bk (σ.set i none) H,ct:=λσ H=>D.ct (σ.set i none) H }
theorem FlOk.goes {K:PySem.W.Frag} {D:Ends} {ie:Option Nat} {fl:Fl} {μ:Mp} {H:Hp} (h:FlOk K D (jA ie fl) μ H):FlOk K (iw ie D) fl μ H:=by
 cases ie with
 | none=>exact h
 | some i=>
  cases fl with
  | nx ρ=>exact λσ eo=>h _ (eo.setN i)
  | bk ρ=>exact λσ eo=>h _ (eo.setN i)
  | ct ρ=>exact λσ eo=>h _ (eo.setN i)
  | rt d=>exact h
structure TryAt (X:Cx) (nm:Option Str) (ie:Option Nat):Prop where
 nd:X.N.Nodup
 ex:(nm=none/\ie=none)\/∃ x i,nm=some x/\ie=some i/\X.N[i]?=some x/\X.env.scope.names.lookup x=some .local
theorem xt {Tn:Str} {c0:Nat} {b0:Stmt} {suite:List Stmt} {hp tp:Pos} {sub:Nat->Bool} {h:Env->M Fl} (hst:X.stack=X.env :: X.outer) (hfr:X.env.frame=some X.env.locals) (hb:PB X cl st g)
  (hg:Gl X Tn) (hm:X.mg Tn=some (.ref (cl c0))) (hdb:(Tn==("__debug__" : Str))=false) (MT:XC X.K (cl c0)) (hk:∀ c,XC X.K (cl c)->PySem.W.kitOne X.K (.ref (cl c)) (.ref (cl c0))=some (sub c))
  (ta:TryAt X nm ie) (hs:∀ v,PSs (fC X v) (b0 :: suite) (sD X.K cl x0 h)) :
  PS X (.Try [st] [.ExceptHandler (some (.Name Tn tp)) nm (b0 :: suite) hp] [] [] pos) (sD X.K cl (xOf X) (Z3 g sub ie h)):=by
 intro pins s σ H D I ⟨μ,S,ρ,eo,rp,p⟩;rw [arm_exec_Try];have hpost:sD X.K cl (λa H1=>∃ n S1 μ1,g ρ S=.exn n S1/\Lat μ H μ1 H1/\Rep X.K cl μ1 S1 H1/\μ1.pl[n]?=some a) g D σ H:=⟨μ,S,ρ,eo,rp,by
  unfold Z3 at p;cases e:g ρ S with
  | ok fl S1=>rw [e] at p;exact p
  | exn n S1=>exact λμ' H' a l r q=>⟨n,S1,μ',rfl,l,r,q⟩
  | bad=>rw [e] at p;exact p⟩
 refine Fq (Iv (wpAny_tryStmt_except (JV (Gs (hb pins s σ H D _ I hpost) (λf s1 q=>?_) λev s1 fl=>?_))))
 ·cases f with
  | next=>exact HR (HR q)
  | ret v=>exact q
  | brk=>exact q
  | cont=>exact q
 ·obtain ⟨a,H1,C,d,tb,he,I1,fx,n,S1,μ1,eg,l1,r1,e1⟩:=fl;subst he;refine ik I1 I1.ok.frames hst hfr fx λH2 s2 T I2 fx2 m2=>M9 I2 fx2 λs3 I3=>?_;obtain ⟨l2,r2⟩:=r1.mv I1.hok e1 fx.at_ m2;unfold Z3 at p;rw [eg] at p;simp only at p;cases eo1:S1[n]? with
  | none=>rw [eo1] at p;exact p.elim
  | some o=>
   rw [eo1] at p;cases o with
   | lst _=>exact p.elim
   | dct _=>exact p.elim
   | exc c fs=>
    simp only at p;by_cases hsub:sub c=true
    case neg=>rw [if_neg hsub] at p;exact p.elim
    rw [if_pos hsub] at p;have ec:=(nN I1.hok (r1.ats n _ a eo1 e1) fx.at_ fx.tb_).1;have hkc:=hk c (ec▸fx.xc);rw [<- ec,hsub] at hkc;have J3:=I3.hushed (.ref a);have p':=(Post.later p (l1.trans l2)).bind.nx (xe':=x0);have post:∀ σ',EnvOk X.K μ1 H2 (rl ie n ρ) σ'->sD X.K cl x0 h (iw ie D) σ' H2:=λσ' eo'=>⟨μ1,S1,_,eo',r2,p'.imp λfl S2 μ2 H3 l3 r3 p3=>FlOk.goes (p3.ret μ2 H3 (Lat.refl _ _) r3)⟩;refine wpAny_handleBy_cons (codeAny_handlers_test (G4 J3 hg hm ?_ hdb)) (by intro z;cases z);refine hG J3.kIn fx2.xc MT (fx2.isX (X:=fC X (.ref a)) J3) hkc ?_;rcases ta.ex with ⟨rfl,rfl⟩ | ⟨x,i,rfl,rfl,hi,hl⟩
    ·refine codeAny_handlers_suite (M9 (X:=fC X (.ref a)) J3 fx2 λs4 J4=>?_);refine Gs (hs (.ref a) pins s4 σ H2 (iw none D) J4 (post σ (eo.later (l1.trans l2)))) (λf s5 q=>?_) λ_ _ z=>False.elim z;cases f with
     | next=>obtain ⟨σ',H',J,q⟩:=q;exact ⟨σ',H',J.unhush I.ok,q⟩
     | brk=>obtain ⟨σ',H',J,q⟩:=q;exact ⟨σ',H',J.unhush I.ok,q⟩
     | cont=>obtain ⟨σ',H',J,q⟩:=q;exact ⟨σ',H',J.unhush I.ok,q⟩
     | ret u=>obtain ⟨v,σ',H',J,r,q⟩:=q;exact ⟨v,σ',H',J.unhush I.ok,r,q⟩
    ·refine codeAny_handlers_suite_as (M9 (X:=fC X (.ref a)) J3 fx2 λs4 J4=>?_);refine U2 (X:=fC X (.ref a)) (v:=.ref a) J4 ta.nd hi (.inl hl) rfl (λs5 J5=>?_) (.inr hl);refine Gs (hs (.ref a) pins s5 _ H2 (iw (some i) D) J5 (post _ ((eo.later (l1.trans l2)).set (.ref e1) i))) (λf s6 q=>?_) λ_ _ z=>False.elim z;cases f with
     | next=>obtain ⟨σ',H',J,q⟩:=q;exact aH (J.unhush I.ok) ta.nd hi hl λs7 I7=>⟨_,H',I7,q⟩
     | brk=>obtain ⟨σ',H',J,q⟩:=q;exact aH (J.unhush I.ok) ta.nd hi hl λs7 I7=>⟨_,H',I7,q⟩
     | cont=>obtain ⟨σ',H',J,q⟩:=q;exact aH (J.unhush I.ok) ta.nd hi hl λs7 I7=>⟨_,H',I7,q⟩
     | ret u=>obtain ⟨v,σ',H',J,r,q⟩:=q;exact aH (J.unhush I.ok) ta.nd hi hl λs7 I7=>⟨v,_,H',I7,r,q⟩
end
def yD:RuS where
 is Γ lc e:=match e with
  | .Raise (some (.Call (.Name x _) (a :: es) [] _)) none _=>n4 x&&glB lc.sc x&&(a :: es).all noStar&&!quiet lc
  | _=>false
 run r Γ _ lc e ρ:=match e with
  | .Raise (some (.Call (.Name x _) (a :: es) [] _)) none _=>bind (mI r Γ lc x (a :: es) ρ) A3
  | _=>bad
 ok {T k r Γ C lc X} e R TX h hf hi:=by
  split at hi
  ·simp only [FG,GV] at hi;exact qS (h.calm hi.2) (ic R TX h hi.1.1.1 hi.1.1.2 hi.1.2 hi.2)
  ·cases hi
 runK q Γ _ lc e ρ _ k:=match e with
  | .Raise (some (.Call (.Name x _) (a :: es) [] _)) none _=>uL q Γ lc x (a :: es) ρ λd=>bind (A3 d) k
  | _=>bad
 eq {r q Γ C lc} e ρ _ k h:=by
  split
  ·simp only [pi h,bind_assoc]
  ·first
   | rfl
   | (rename_i b;split;exact (b _ _ _ _ _ _ rfl).elim;rfl)
def isR (Γ:Gm):Expr->Bool
 | .Call (.Name x _) (_ :: _) [] _=>og Γ x λi _=>decide (i∉Γ.qs)
 | _=>false
def oq (r:Ev) (Γ:Gm) (C:Cf) (a:Lc) (x:Str) (es:List Expr) (ρ:Env):M D:=if n4 x=true/\glB a.sc x=true/\es.all noStar=true then (match Γ.gl.lookup x with
 | some (.fn i n)=>bind (nx (q4 r a es ρ)) λds=>if ds.length=n then C i ds else bad
 | _=>bad) else bad
def eB (r:Ev) (Γ:Gm) (C:Cf) (a:Lc) (e:Expr) (ρ:Env):M D:=if isR Γ e=true then (match e with
 | .Call (.Name x _) es [] _=>oq r Γ C a x es ρ
 | _=>bad) else nx (r.e a e ρ)
def qY (q:EvK) (Γ:Gm) (C:Cf) (a:Lc) (x:Str) (es:List Expr) (ρ:Env):M D:=if n4 x=true/\glB a.sc x=true/\es.all noStar=true then (match Γ.gl.lookup x with
 | some (.fn i n)=>bind (nx (v7 q a es ρ ret)) λds=>if ds.length=n then C i ds else bad
 | _=>bad) else bad
def eBK (q:EvK) (Γ:Gm) (C:Cf) (a:Lc) (e:Expr) (ρ:Env):M D:=if isR Γ e=true then (match e with
 | .Call (.Name x _) es [] _=>qY q Γ C a x es ρ
 | _=>bad) else nx (q.e a e ρ ret)
theorem DB (h:EqK r q) (e:Expr) (ρ:Env):eBK q Γ C lc e ρ=eB r Γ C lc e ρ:=by
 unfold eBK eB qY oq;simp only [m3 h,h.e,y7]
theorem xE {T:Tx} {k:Nat} {r:Ev} {Γ:Gm} {C:Cf} {lc:Lc} {X:Cx} (R:EvOk T k r) (TX:TxOk T Γ k C) (h:CxOk T k lc X) (hq:quiet lc=false) (e:Expr):PX X T.cl e (eB r Γ C lc e):=by
 have pbad:PX X T.cl e λ_=>bad:=λ_ _ _ _ _ _ _ ⟨_,_,_,_,_,z⟩=>z.elim;unfold eB;by_cases hr:isR Γ e=true
 ·simp only [if_pos hr];unfold isR at hr;split at hr
  ·rename_i x p e0 es pos;obtain ⟨i,n,e1,hi⟩:=dY hr;simp only;unfold oq;by_cases hc:n4 x=true/\glB lc.sc x=true/\(e0 :: es).all noStar=true
   ·simp only [if_pos hc,e1];obtain ⟨c1,c2,c3⟩:=hc;obtain ⟨n1,n2,n3⟩:=n8 c1;obtain ⟨a,fd,ps,f1,f2,f3,f4,f5⟩:=(TX.fn x i n e1 (Gg hi)).ex;exact vZ f1 (by rw [h.prog,h.w,h.K,h.mg,h.base];exact f2) (h.room0 hq) (h.gl c2) (by rw [h.mg];exact f3) (by rw [h.K];exact f4) (by rw [h.K];exact f5) (PA.x0 (k9 R h.nox c3)) n1 c3
   ·simp only [if_neg hc];exact pbad
  ·cases hr
 ·simp only [if_neg hr];exact PX.of (PE.x0 (R.ex h.nox e))
def bX (g:Expr->Env->M D) (a:Lc) (st:Stmt) (ρ:Env):M Fl:=match st with
 | .Expr e _=>if m9 e=true then bind (g e ρ) λ_=>ret (.nx ρ) else bad
 | .Return (some e) _=>bind (g e ρ) λd=>ret (.rt d)
 | .Assign [.Name x _] e _=>(match e8 a.N x with
  | some i=>if cA a.sc x=true/\m9 e=true then bind (g e ρ) λd=>ret (.nx (ρ.set i (some d))) else bad
  | none=>bad)
 | _=>bad
theorem BJ (h:CxOk T k lc X) (f:lc.fr=true) (b:∀ e,PX X T.cl e (g e)) (st:Stmt):PB X T.cl st (bX g lc st):=by
 have a:PB X T.cl st λ_=>bad:=λ_ _ _ _ _ _ _ ⟨_,_,_,_,_,z⟩=>z.elim;unfold bX;split
 ·rename_i e p;by_cases d:m9 e=true
  ·simp only [if_pos d];exact wJ (b e) d
  ·grind
 ·exact yk (b _)
 ·rename_i x l e p;cases j:e8 lc.N x with
  | none=>exact a
  | some i=>
   by_cases c:cA lc.sc x=true/\m9 e=true
   ·simp only [if_pos c];exact AK h.nd' (by rw [h.N];exact p0 j) (by rw [h.sc];exact G1 c.1) (b e) c.2 (.inl (h.fn1 f))
   ·grind
 ·exact a
def nmI (a:Lc) (b:Option Str):Option (Option Nat):=match b with
 | none=>some none
 | some x=>match e8 a.N x with
  | some i=>if a.sc.names.lookup x=some .local then some (some i) else none
  | none=>none
def A6 (a:Lc):Lc:=⟨a.N,a.sc,a.fr,"~" :: a.mu⟩
theorem CxOk.hushed (h:CxOk T k lc X) (v:Value):CxOk T k (A6 lc) (fC X v):=by
 have a:quiet (A6 lc)=true:=by simp [quiet,A6]
 exact ⟨h.prog,h.w,h.K,h.mg,h.base,h.N,h.nd,h.sc,λz=>(by rw [a] at z;exact absurd z (by decide)),⟨λz=>(by rw [a] at z;exact absurd z (by decide)),h.room.dp,h.room.un,h.room.gd⟩,PassesOwn.never,h.fn,h.kd,λ_ z=>(by rw [a] at z;exact absurd z (by decide))⟩
def xS (Γ:Gm) (a:Lc) (e:Stmt):Bool:=match e with
 | .Try [_] [.ExceptHandler (some (.Name b _)) c (_ :: _) _] [] [] _=>n4 b&&glB a.sc b&&!quiet a&&vk Γ b&&(nmI a c).isSome
 | _=>false
def Ap (g:Ev->Gm->Cf->Lc->Expr->Env->M D) (r:Ev) (Γ:Gm) (C:Cf) (b:Lc) (e:Stmt) (ρ:Env):M Fl:=match e with
 | .Try [st] [.ExceptHandler (some (.Name i _)) d (f :: a) _] [] [] _=>(match Γ.gl.lookup i,nmI b d with
  | some (.err c0 _),some h=>Z3 (bX (g r Γ C b) b st) (λc=>Γ.sub c c0) h (O8 r (A6 b) (f :: a)) ρ
  | _,_=>bad)
 | _=>bad
def BR (g:EvK->Gm->Cf->Lc->Expr->Env->M D) (q:EvK) (Γ:Gm) (C:Cf) (b:Lc) (e:Stmt) (ρ:Env) {f:Type} (k:Fl->M f):M f:=match e with
 | .Try [st] [.ExceptHandler (some (.Name l _)) h (i :: a) _] [] [] _=>(match Γ.gl.lookup l,nmI b h with
  | some (.err c0 _),some j=>bind (Z3 (bX (g q Γ C b) b st) (λc=>Γ.sub c c0) j (λd=>i4 q (A6 b) (i :: a) d ret) ρ) k
  | _,_=>bad)
 | _=>bad
def DI (g:Ev->Gm->Cf->Lc->Expr->Env->M D) (gK:EvK->Gm->Cf->Lc->Expr->Env->M D) (hg:∀ {T:Tx} {k:Nat} {r:Ev} {Γ:Gm} {C:Cf} {lc:Lc} {X:Cx},EvOk T k r->TxOk T Γ k C->CxOk T k lc X->quiet lc=false->∀ e,PX X T.cl e (g r Γ C lc e))
  (hk:∀ {r:Ev} {q:EvK} {Γ:Gm} {C:Cf} {lc:Lc},EqK r q->∀ e ρ,gK q Γ C lc e ρ=g r Γ C lc e ρ):RuS where
 is:=xS
 run r Γ C lc e ρ:=Ap g r Γ C lc e ρ
 ok {T k r Γ C lc X} e R TX h hf hi:=by
  unfold xS at hi;split at hi
  ·rename_i st Tn tp nm b0 suite hp pos;simp at hi;obtain ⟨⟨⟨⟨c1,c2⟩,c3⟩,c4⟩,c5⟩:=hi;obtain ⟨n1,n2,n3⟩:=n8 c1;obtain ⟨hst,hfr⟩:=h.own hf c3;show PS X _ (sD X.K T.cl (xOf X) λρ=>(match Γ.gl.lookup Tn,nmI lc nm with
    | some (.err c0 _),some ie=>Z3 (bX (g r Γ C lc) lc st) (λc=>Γ.sub c c0) ie (O8 r (A6 lc) (b0 :: suite)) ρ
    | _,_=>bad))
   unfold vk at c4;split at c4
   ·rename_i c0 fs e;rw [e];obtain ⟨ea,na⟩:=TX.err Tn c0 fs e;cases hi:nmI lc nm with
    | none=>exact P3
    | some ie=>
     have ta:TryAt X nm ie:=by
      refine ⟨h.nd',?_⟩;unfold nmI at hi;split at hi
      ·grind
      ·rename_i x;split at hi
       ·rename_i i e1;split at hi
        ·rename_i hl;cases hi;exact .inr ⟨x,i,rfl,rfl,by rw [h.N];exact p0 e1,by rw [h.sc];exact hl⟩
        ·cases hi
       ·cases hi
     exact xt hst hfr (BJ h hf (hg R TX h c3) st) (h.gl c2) (by rw [h.mg];exact ea.mg_) n1 (by rw [h.K];exact ea.xc) (λc xc=>by rw [h.K] at xc ⊢;exact TX.sub Tn c c0 fs e xc) ta λv=>PSs.x0 (J2 R (h.hushed v) hf)
   ·cases c4
  ·cases hi
 runK q Γ C lc e ρ _ k:=BR gK q Γ C lc e ρ k
 eq {r q Γ C lc} e ρ _ k h:=by
  unfold BR Ap;split
  ·rename_i st Tn tp nm b0 suite hp pos;have e1:(λρ'=>i4 q (A6 lc) (b0 :: suite) ρ' ret)=O8 r (A6 lc) (b0 :: suite):=funext λρ'=>by rw [W7 h,y7]
   have e2:gK q Γ C lc=g r Γ C lc:=funext λe=>funext λρ=>hk h e ρ;rw [e1,e2];cases Γ.gl.lookup Tn with
   | none=>rfl
   | some z=>
    cases z with
    | err c fs=>cases nmI lc nm <;> rfl
    | _=>rfl
  ·first
   | rfl
   | (rename_i hn;split;exact (hn _ _ _ _ _ _ _ _ rfl).elim;rfl)
structure Fd where
 ps:List Str
 N:List Str
 sc:Scope
 body:List Stmt
 mu:List Str
def V3 (N:List Str) (ds:List D):Env:=ds.map some++List.replicate (N.length-ds.length) none
def endD (a:Fl):M D:=match a with
 | .rt d=>ret d
 | .nx _=>ret .non
 | _=>bad
abbrev A0 (fd:Fd):Lc:=⟨fd.N,fd.sc,true,fd.mu⟩
def P2 (Rs:Rules) (Γ:Gm) (a:List Fd):Nat->Nat->List D->M D
 | 0,_,_=>bad
 | k+1,i,ds=>match a[i]? with
  | none=>bad
  | some fd=>if ds.length=fd.ps.length then bind (O8 (ev Rs Γ (P2 Rs Γ a k) 40) (A0 fd) fd.body (V3 fd.N ds)) endD else bad
structure FnTx (T:Tx) (x:Str) (fd:Fd):Prop where
 ex:∃ (f:Addr) (da:FuncData) (qual:Str) (st:Stmt),Fun T.K x qual st f da/\h7 st=fd.body/\b7 st=fd.sc/\FnScope fd.N fd.ps fd.sc/\Binds T.K da fd.ps []/\T.mg x=some (.ref f)
theorem fZ {K:PySem.W.Frag} {μ:Mp} {H:Hp} {N:List Str} {ds:List D} {vs:List V} (r:RDs K μ H ds vs):EnvOk K μ H (V3 N ds) (L2.start N vs):=by
 unfold V3 L2.start;refine ⟨by simp [r.length],λi d e=>?_⟩;by_cases hi:i<ds.length
 ·rw [FI (by simpa using hi),FY] at e;cases q:ds[i]? with
  | none=>rw [q] at e;cases e
  | some d'=>
   rw [q] at e;cases e;obtain ⟨v,e1,r1⟩:=r.get q;refine ⟨v,?_,r1⟩;rw [FI (by rw [Fu,<- r.length];exact hi),FY,e1];rfl
 ·rw [Gq (by simpa using Ij hi),HH] at e;split at e <;> cases e
section
variable {P:Program} {w:World} {K:PySem.W.Frag} {mg:Str->Option Value} {base:Heap}
theorem pJ {x b:Str} {st:Stmt} {f:Addr} {fd:FuncData} {N ps:List Str} {k:Nat} {sp:Sp} (F:Fun K x b st f fd) (S:FnScope N ps (b7 st)) (g:∀ vs H Q E,sp vs H Q E->vs.length=ps.length)
  (d:∀ (c:Value) (A:Around) (a:List PySem.Env) (s:Shared) (H:Hp) (vs:List V) (Q:VK) (E:XK),Room CX.q k (A.deeper (envOfC b (b7 st) s.heap.objs.size f c))->sp vs H Q E ->
   ∃ t,PSs (bz CX P w K mg base N b (b7 st) f c A a s H E) (h7 st) t/\t { nx:=λ_ H'=>Q .non H',rt:=Q } (start N vs) H):FnOk P w K mg base CX (k+1) f fd ps sp:=by
 obtain ⟨r,od,n,i,o,p,c,q,l,rfl,m,h⟩:=F.ex;exact wt m h S g λA a s H vs Q E j e=>d c A a s H vs Q E j e
theorem Post.fly {H0 H:Hp} {E:XK} {μ:Mp} {r:R α} {G:α->Sto->Mp->Hp->Prop} (p:Post K cl (gp E) μ H r G) :
  Post K cl (xOf (bz (CXd P w K) P w K mg base N qual scope f cd A outer s H0 E)) μ H r G:=by
 cases r with
 | ok a S=>exact p
 | bad=>exact p
 | exn n S=>
  intro μ' H' a l rp e pins σ s' C d tb I fx;refine gT I I.ok.frames rfl rfl fx λH2 s2 T I2 fx2 m2=>?_;obtain ⟨l2,r2⟩:=rp.mv I.hok e fx.at_ m2;exact ⟨a,C,d,some T,H2,rfl,I2.os,I2.bare,I2.base,I2.hok,fx2,p μ' H2 a (l.trans l2) r2 e⟩
end
theorem FnOk.unX {K:PySem.W.Frag} {mg:Str->Option Value} {base:Heap} {k n:Nat} {f:Addr} {fd:FuncData} {ps:List Str} {cl:Nat->Addr} {run:List D->M D} (F:FnOk P w K mg base (CXd P w K) k f fd ps (spX K cl n run)):FnOk P w K mg base (CXq false) k f fd ps (spD K cl n run):=
 ⟨λvs H Q E h=>F.len vs H Q E0 h,λA outer s H args us vs Q E hr e0 hb r h=>Hm (F.run A outer s H args us vs Q E0 hr e0 hb r h) λres s' hq=>by
  cases res with
  | ok fl=>cases fl <;> exact hq
  | error e=>obtain ⟨_,_,_,_,_,_,_,_,_,_,_,z⟩:=hq;exact z⟩
section
variable {Rs:Rules} {T:Tx} {Γ:Gm} {Tb:List Fd} {k i:Nat} {x qual:Str} {st:Stmt} {f:Addr} {da:FuncData} {fd:Fd}
theorem gD (TX:TxOk T Γ (k+3) (P2 Rs Γ Tb k)) (hi:Tb[i]?=some fd) (F:Fun T.K x qual st f da) (h1:h7 st=fd.body) (h2:b7 st=fd.sc) (S:FnScope fd.N fd.ps fd.sc) (hq:quiet (A0 fd)=false) :
  FnOk T.P T.w T.K T.mg T.base (CXd T.P T.w T.K) (k+4) f da fd.ps (spX T.K T.cl fd.ps.length (P2 Rs Γ Tb (k+1) i)):=by
 have S':FnScope fd.N fd.ps (b7 st):=by rw [h2];exact S
 refine pJ F S' (λvs H Q E h=>h.1) λcdv A outer s H vs Q E hr hsp=>?_;obtain ⟨hl,μ,S0,ds,rds,rp,p⟩:=hsp;have cx:CxOk T (k+3) (A0 fd) (bz (CXd T.P T.w T.K) T.P T.w T.K T.mg T.base fd.N qual (b7 st) f cdv A outer s H E):=⟨rfl,rfl,rfl,rfl,rfl,rfl,S.nd,h2,λ_=>rfl,by rw [hq];exact hr,λe s' z=>wpAny_leaving_again (SameStack.refl _) z,rfl,S.kind,λ_ _=>⟨rfl,rfl⟩⟩;have R:=qB (Rs:=Rs) TX 40;refine ⟨_,by rw [h1];exact J2 R cx rfl,?_⟩;refine ⟨μ,S0,V3 fd.N ds,fZ rds,rp,?_⟩;have hd:ds.length=fd.ps.length:=by rw [rds.length];exact hl
 simp only [P2,hi,if_pos hd] at p;refine Post.fly (p.bind.imp λfl S1 μ1 H1 l1 r1 p1=>?_);cases fl with
 | nx ρ=>exact λσ _=>p1 μ1 H1 (Lat.refl _ _) r1 _ .non
 | rt d=>exact λv rv=>p1 μ1 H1 (Lat.refl _ _) r1 v rv
 | bk ρ=>exact False.elim p1
 | ct ρ=>exact False.elim p1
theorem nk (TX:TxOk T Γ (k+3) (P2 Rs Γ Tb k)) (hi:Tb[i]?=some fd) (F:Fun T.K x qual st f da) (h1:h7 st=fd.body) (h2:b7 st=fd.sc) (S:FnScope fd.N fd.ps fd.sc) (hq:quiet (A0 fd)=true) :
  FnOk T.P T.w T.K T.mg T.base (CXq true) (k+4) f da fd.ps (spD T.K T.cl fd.ps.length (P2 Rs Γ Tb (k+1) i)):=by
 have S':FnScope fd.N fd.ps (b7 st):=by rw [h2];exact S
 refine pJ F S' (λvs H Q E h=>h.1) λcdv A outer s H vs Q E hr hsp=>?_;obtain ⟨hl,μ,S0,ds,rds,rp,p⟩:=hsp;have cx:CxOk T (k+3) (A0 fd) (bz (CXq true) T.P T.w T.K T.mg T.base fd.N qual (b7 st) f cdv A outer s H E).nox:=⟨rfl,rfl,rfl,rfl,rfl,rfl,S.nd,h2,λz=>(by rw [hq] at z;exact absurd z (by decide)),by rw [hq];exact hr,PassesOwn.never,rfl,S.kind,λ_ z=>(by rw [hq] at z;exact absurd z (by decide))⟩;have R:=qB (Rs:=Rs) TX 40;refine ⟨_,by rw [h1];exact PSs.nox (PSs.x0 (J2 R cx rfl)),?_⟩;refine ⟨μ,S0,V3 fd.N ds,fZ rds,rp,?_⟩;have hd:ds.length=fd.ps.length:=by rw [rds.length];exact hl
 simp only [P2,hi,if_pos hd] at p;refine p.bind.imp λfl S1 μ1 H1 l1 r1 p1=>?_;cases fl with
 | nx ρ=>exact λσ _=>p1 μ1 H1 (Lat.refl _ _) r1 _ .non
 | rt d=>exact λv rv=>p1 μ1 H1 (Lat.refl _ _) r1 v rv
 | bk ρ=>exact False.elim p1
 | ct ρ=>exact False.elim p1
theorem vM (d:TxOk T Γ (k+3) (P2 Rs Γ Tb k)) (a:Tb[i]?=some fd) (F:Fun T.K x qual st f da) (e:h7 st=fd.body) (b:b7 st=fd.sc) (S:FnScope fd.N fd.ps fd.sc) (c:quiet (A0 fd)=false:=by rfl) :
  FnOk T.P T.w T.K T.mg T.base (CXq false) (k+4) f da fd.ps (spD T.K T.cl fd.ps.length (P2 Rs Γ Tb (k+1) i)):=FnOk.unX (gD d a F e b S c)
def yE (Γ:Gm) (a:List Fd):Bool:=(List.range a.length).all λi=>match a[i]? with
 | some fd=>quiet (A0 fd)==Γ.qs.contains i
 | none=>false
theorem jo (h:yE Γ Tb=true) (hi:Tb[i]?=some fd):quiet (A0 fd)=Γ.qs.contains i:=by
 unfold yE at h;have:=(FX.mp h) i (Gc.mpr (Fv.mp hi).1);rw [hi] at this;simpa using this
end
structure TxSt (T:Tx) (Γ:Gm):Prop where
 blt:∀ x∈bnames,Γ.gl.lookup x=none->T.mg x=none
 val:∀ x d,Γ.gl.lookup x=some (.val d)->∃ u v,T.mg x=some u/\RelV v u/\∀ μ H,RD T.K μ H d v
 err:∀ x c fs,Γ.gl.lookup x=some (.err c fs)->ErrAt T x c fs/\(∀ g∈fs,t8 T.K (T.cl c) g)
 sub:∀ x c c0 fs,Γ.gl.lookup x=some (.err c0 fs)->XC T.K (T.cl c)->PySem.W.kitOne T.K (.ref (T.cl c)) (.ref (T.cl c0))=some (Γ.sub c c0)
 subV:∀ c,XC T.K (T.cl c)->PySem.W.kitOne T.K (.ref (T.cl c)) (.type "ValueError")=some true
 subT:∀ c,XC T.K (T.cl c)->∀ t∈tys,PySem.W.kitOne T.K (.ref (T.cl c)) (.type t)=some false
 fld:∀ g∈Γ.flds,∀ c,XC T.K (T.cl c)->t8 T.K (T.cl c) g
 dct:∀ x kvs,Γ.gl.lookup x=some (.dct kvs)->mq T x kvs
def rM (T:Tx) (Γ:Gm) (a:List Fd):Prop:=∀ x i n,Γ.gl.lookup x=some (.fn i n)->∃ fd,a[i]?=some fd/\fd.ps.length=n/\FnTx T x fd
theorem TxSt.ok (h:TxSt T Γ) {k:Nat} {C:Cf} (f:∀ x i n,Γ.gl.lookup x=some (.fn i n)->i∉Γ.qs->FnX T (k+3) i n x (C i)) (a:∀ x i n,Γ.gl.lookup x=some (.fn i n)->i∈Γ.qs->FnAt T (k+3) i n x (C i)):TxOk T Γ (k+3) C:=⟨h.blt,h.val,f,a,h.err,h.sub,h.subV,h.subT,h.fld,h.dct,by omega⟩
theorem wF {T:Tx} {Γ:Gm} {q:List Fd} (h:TxSt T Γ) (fs:rM T Γ q) (k:Nat) (w:yE Γ q=true:=by rfl):TxOk T Γ (k+3) (P2 Rs Γ q k):=by
 induction k with
 | zero=>
  have l:∀ x i n,Γ.gl.lookup x=some (.fn i n)->∃ (a:Addr) (fd:FuncData) (ps:List Str),ps.length=n/\(∀ CX,FnOk T.P T.w T.K T.mg T.base CX 3 a fd ps (spX T.K T.cl n (P2 Rs Γ q 0 i)))/\T.mg x=some (.ref a)/\PySem.W.keepIn T.K (.ref a)=true/\Binds T.K fd ps []:=λx i n e=>by
   obtain ⟨fd,d,c,g⟩:=fs x i n e;obtain ⟨f,o,j,st,F,_,_,_,b,m⟩:=g.ex;refine ⟨f,o,fd.ps,c,λCX=>⟨λvs H Q E h=>by rw [c];exact h.1,λA v s H z us vs Q E _ _ _ _ u=>?_⟩,m,F.kp,b⟩;obtain ⟨_,μ,S,ds,_,_,p⟩:=u;exact p.elim
  refine h.ok (λx i n e _=>?_) λx i n e _=>?_
  ·obtain ⟨a,fd,ps,d,c,g⟩:=l x i n e;exact ⟨a,fd,ps,d,c _,g⟩
  ·obtain ⟨a,fd,ps,d,c,g⟩:=l x i n e;exact ⟨a,fd,ps,d,FnOk.imp (c _) λvs H Q E ⟨_,μ,S,ds,_,_,p⟩=>p.elim,g⟩
 | succ k y=>
  refine h.ok (λx i n e B=>?_) λx i n e m=>?_
  ·obtain ⟨fd,d,c,g⟩:=fs x i n e;subst c;obtain ⟨f,o,j,st,F,r,t,S,b,m2⟩:=g.ex;exact ⟨f,o,fd.ps,rfl,gD y d F r t S (by rw [jo w d];simpa using B),m2,F.kp,b⟩
  ·obtain ⟨fd,d,c,g⟩:=fs x i n e;subst c;obtain ⟨f,o,j,st,F,r,t,S,b,m2⟩:=g.ex;exact ⟨f,o,fd.ps,rfl,nk y d F r t S (by rw [jo w d];simpa using m),m2,F.kp,b⟩
def runK (Rs:Rules) (Γ:Gm) (C:Cf) (fd:Fd) (ds:List D):M D:=if ds.length=fd.ps.length then i4 (evK Rs Γ C 40) ⟨fd.N,fd.sc,true,fd.mu⟩ fd.body (V3 fd.N ds) endD else bad
theorem b8 {a:List Fd} {k i:Nat} {fd:Fd} (h:a[i]?=some fd) (ds:List D):P2 Rs Γ a (k+1) i ds=runK Rs Γ (P2 Rs Γ a k) fd ds:=by
 simp only [P2,h,runK];split
 ·rw [W7 (wv 40)]
 ·rfl
def oh (a:Arguments):List Str:=a.args.map (·.arg)
def vz (ps:List Str) (a:Scope):List Str:=ps++(a.names.filter λy=>(y.2==.local||y.2==.cell)&&!ps.contains y.1).map (·.1)
def j1 (st:Stmt) (a:List Str):Fd:=⟨oh (j3 st),vz (oh (j3 st)) (b7 st),b7 st,h7 st,a⟩
def dD (fd:Fd):Bool:=decide (fd.sc.kind=.function)&&!fd.sc.isCoroutine&&!fd.sc.isGenerator&&decide fd.N.Nodup&&decide (fd.N.take fd.ps.length=fd.ps)&&fd.ps.all (λx=>cA fd.sc x)&&fd.sc.names.all (λy=>decide (y.2≠.free))
theorem aT (h:dD fd=true):FnScope fd.N fd.ps fd.sc:=by
 simp only [dD,FG,FW,FX,GV] at h;obtain ⟨⟨⟨⟨⟨⟨i,b⟩,c⟩,d⟩,f⟩,e⟩,a⟩:=h;exact ⟨i,b,c,d,f,λx g=>G1 (e x g),a⟩
section
variable {K:PySem.W.Frag} {cl:Nat->Addr} {xe:Addr->Hp->Prop} {μ:Mp} {H:Hp} {S:Sto}
theorem eP {p:Addr} {u:HO} {ob:O} {rs:List Addr} {kz:List V} (er:μ.rs=p :: rs) (nr:p∉rs) (hp:H p=some (.lst kz)) (rp:Rep K cl μ S H) (ho:OAt K cl ⟨μ.pl++[p],rs⟩ (upd H p u) p ob):Rep K cl ⟨μ.pl++[p],rs⟩ (S++[ob]) (upd H p u):=by
 have np:p∉μ.pl:=(rp.res p (by rw [er];exact FO)).1;have hp':∀ (n:Nat) (a:Addr),μ.pl[n]?=some a->(μ.pl++[p])[n]?=some a:=λn a e=>by rw [FI (Fv.mp e).1];exact e
 have ho':∀ a w,H a=some w->a∉μ.pl->a∉μ.rs->upd H p u a=some w/\a∉(⟨μ.pl++[p],rs⟩:Mp).pl/\a∉(⟨μ.pl++[p],rs⟩:Mp).rs:=λa w e n1 n2=>by
  have ne:a≠p:=λz=>n2 (by rw [er,z];exact FO);refine ⟨by rw [a8 ne];exact e,λz=>?_,λz=>n2 (by rw [er];exact FQ _ z)⟩;rcases Gh.mp z with z | z
  ·exact n1 z
  ·exact ne (Gb.mp z)
 refine ⟨by simp [rp.len],?_,λn o a e1 e2=>?_,λa m=>?_⟩
 ·show (μ.pl++[p]).Nodup;rw [IP];exact ⟨rp.nd,by simp,λa m b m2=>by rw [Gb.mp m2];rintro rfl;exact np m⟩
 ·have e2:(μ.pl++[p])[n]?=some a:=e2;by_cases hn:n<S.length
  ·rw [FI hn] at e1;rw [FI (by rw [rp.len];exact hn)] at e2;have h:=rp.ats n o a e1 e2;have ka:upd H p u a=H a:=a8 λz=>np (z▸FT e2);cases o with
   | lst ds=>obtain ⟨xs,e,q⟩:=h;exact ⟨xs,by rw [ka];exact e,q.move hp' ho'⟩
   | dct kvs=>obtain ⟨xs,e,q⟩:=h;exact ⟨xs,by rw [ka];exact e,Paired.mono (λ_ _ ⟨z,w⟩=>⟨z,w.move hp' ho'⟩) q⟩
   | exc c fs=>
    obtain ⟨xc,gs,q,fr,h⟩:=h;refine ⟨xc,gs,Paired.mono (λ_ _ ⟨z,w⟩=>⟨z,w.move hp' ho'⟩) q,fr,?_⟩;rcases h with ⟨z,e⟩ | ⟨d,h1,h2,e,e3⟩
    ·exact .inl ⟨z,by rw [ka];exact e⟩
    ·have ne:d≠p:=jc e3 hp (by intro z;cases z);refine .inr ⟨d,h1,λz=>?_,by rw [ka];exact e,by rw [a8 ne];exact e3⟩;rcases Gh.mp z with z | z
     ·exact h2 z
     ·exact ne (Gb.mp z)
  ·have hn2:n=S.length:=by
    have:=(Fv.mp e1).1;simp at this;omega
   subst hn2;rw [<- rp.len] at e2;simp at e1 e2;subst e1;subst e2;exact ho
 ·have m:a∈rs:=m;obtain ⟨h1,w,h2⟩:=rp.res a (by rw [er];exact FQ _ m);have ne:a≠p:=λz=>nr (z▸m);refine ⟨λz=>?_,w,by rw [a8 ne];exact h2⟩;rcases Gh.mp z with z | z
  ·exact h1 z
  ·exact ne (Gb.mp z)
theorem fK (h:H p=some u):upd H p u=H:=by
 funext a;by_cases e:a=p
 ·rw [e,b6,h]
 ·rw [a8 e]
theorem vx (src:Src) (t:Env->M Bool) (f:Env->M D) (mk:D->Env) (m i:Nat) (es:List D) (S:Sto):bind (p9 src t f mk (m+1) i es) newL S=(match src i S with
  | none=>.bad
  | some none=>newL es S
  | some (some d)=>bind (t (mk d)) (λb=>if b=true then bind (f (mk d)) (λy=>if es.length<sizeLine then bind (p9 src t f mk m (i+1) (es++[y])) newL else bad) else bind (p9 src t f mk m (i+1) es) newL) S):=by
 have a:∀ {c m2:M (List D)},c S=m2 S->bind c newL S=bind m2 newL S:=λe=>by unfold L3.bind;rw [e]
 cases h:src i S with
 | none=>exact (a (by simp only [p9,h];rfl)).trans rfl
 | some o=>
  cases o with
  | none=>exact (a (by simp only [p9,h];rfl)).trans rfl
  | some d=>
   refine (a (m2:=bind (t (mk d)) (λb=>if b=true then bind (f (mk d)) (λy=>if es.length<sizeLine then p9 src t f mk m (i+1) (es++[y]) else bad) else p9 src t f mk m (i+1) es)) (by simp only [p9,h])).trans ?_;rw [bind_assoc];congr 1;congr 1;funext b;cases b with
   | true=>
    rw [if_pos rfl,if_pos rfl,bind_assoc];congr 1;funext y;split <;> rfl
   | false=>rfl
theorem Y6 {σ:L2.St} {ρ:Env} {Q:VK} (eo:EnvOk K μ H ρ σ) (rp:Rep K cl μ S H)
  (p:Post K cl xe μ H (bind (cH caps fi t f ρ) newL S) λd _ μ' H'=>∀ v,RD K μ' H' d v->Q v H'):jz caps (tIt K cl xe fi) (tBo K cl xe t) (tD K cl xe f) σ H Q:=by
 unfold cH at p;rw [bind_assoc] at p;refine ⟨μ,S,ρ,eo,rp,p.bind.imp λsm S1 l H1 l1 U p1 J yl g c=>?_⟩;obtain ⟨src,m0⟩:=sm;have Z:=U.notrs c;refine ⟨λi m ys A=>∃ μ2 S2 es,HLat l H1 g μ2 A/\g∉μ2.pl/\A g=some (.lst ys)/\EnvOk K μ2 A ρ σ/\Rep K cl μ2 S2 A/\RDs K μ2 A es ys/\Post K cl xe l H1 (bind (p9 src t f (λd=>some d :: F8 caps ρ) m i es) newL S2) (λd _ μ' H'=>∀ v,RD K μ' H' d v->Q v H'),⟨m0,l.hold g,S1,[],?_,U.notin c,b6,T7 U c (eo.later l1),U5 U c,.nil,p1⟩,?_⟩
 ·refine ⟨⟨λ_ _ e=>e,λa o e _=>by rw [a8 (b9 e c)];exact e,λa m=>.inl m,λa m=>?_⟩,rfl⟩;rcases FP.mp (m) with rfl | m
  ·exact .inr c
  ·exact .inl m
 rintro i m ys A ⟨μ2,S2,es,E,O,D,B,W,h,k⟩;refine ⟨D,?_⟩;cases m with
 | zero=>exact k.elim
 | succ m=>
  have y:ak K cl J i μ2 A S2 (src i S2):=yl i μ2 A S2 E.r.u W;rw [vx] at k;cases e1:src i S2 with
  | none=>rw [e1] at k;exact k.elim
  | some o=>
   rw [e1] at k y;cases o with
   | none=>
    refine .inl ⟨y,?_⟩;simp only [newL] at k;by_cases hz:es.length<=sizeLine
    ·rw [if_pos hz] at k;have C:=E.rs;have mv:RDs K ⟨μ2.pl++[g],l.rs⟩ A es ys:=h.move (λn a e=>by
      rw [FI (Fv.mp e).1];exact e) λa u e n1 n2=>⟨e,λz=>by
       rcases Gh.mp z with z | z
       ·exact n1 z
       ·exact n2 (by rw [C,Gb.mp z];exact FO),λz=>n2 (by rw [C];exact FQ _ z)⟩
     have G:=eP (ob:=.lst es) C Z D W ⟨ys,b6,by rw [fK D];exact mv⟩;rw [fK D] at G;refine k ⟨μ2.pl++[g],l.rs⟩ A ⟨λn a e=>?_,λa o e n=>E.r.oth a o e n,λa ma=>?_,rfl⟩ G _ (.ref ?_)
     ·have e':=E.r.pre n a e;rw [FI (Fv.mp e').1];exact e'
     ·rcases Gh.mp ma with z | z
      ·exact E.r.new a z
      ·grind
     ·show (μ2.pl++[g])[S2.length]?=some g;rw [<- W.len];simp
    ·rw [if_neg hz] at k;exact k.elim
   | some d=>
    obtain ⟨y1,y2⟩:=y;refine .inr ⟨y1,λx H3 hy=>?_⟩;obtain ⟨T,r3,L⟩:=y2 x H3 hy;have h3:=E.step T;refine ⟨μ2,S2,_,T6 (B.later T) L,r3,(Post.at k h3).imp λb S5 I H5 X r5 p5=>?_⟩;have V:=h3.step X;have s:=T.trans X;have a5:=s.oth _ _ D O;have Y:=s.out D O;cases b with
    | false=>exact ⟨m,Go _,I,S5,es,V,Y,a5,B.later s,r5,h.later s,p5⟩
    | true=>
     refine si ?_;rw [if_pos rfl] at p5;refine ⟨I,S5,_,(T6 (B.later T) L).later X,r5,(Post.at p5 V).imp λyv S6 μ6 H6 R r6 P v rv=>?_⟩;have F:=V.step R;have N:=s.trans R;have a6:=R.oth _ _ a5 Y;have n6:=R.out a5 Y;by_cases hz:es.length<sizeLine
     ·rw [if_pos hz] at P;have C:=F.rs;refine ⟨a6,by rw [<- h.length];exact hz,m,Go _,μ6,S6,es++[yv],?_,n6,b6,?_,V5 C a6 r6,V2 C ((h.later N).append (.cons rv .nil)),P⟩
      ·refine ⟨⟨F.r.pre,λa o e n=>?_,F.r.new,F.r.rsw⟩,C⟩;rw [a8 (b9 e c)];exact F.r.oth a o e n
      ·have M:=B.later N;exact ⟨M.1,λj e he=>let ⟨w,q,r⟩:=M.2 j e he;⟨w,q,aa C r⟩⟩
     ·rw [if_neg hz] at P;exact P.elim
end
theorem uN (m:M (List D)) (S:Sto):bind (nx m) newL S=nx (bind m newL) S:=by
 cases h:m S with
 | ok a S1=>
  have e2:nx m S=.ok a S1:=by unfold L3.nx;rw [h]
  have e3:bind (nx m) newL S=newL a S1:=by unfold L3.bind;rw [e2]
  have e:bind m newL S=newL a S1:=by unfold L3.bind;rw [h]
  rw [e3];unfold L3.nx;rw [e];simp only [newL];split <;> rfl
 | exn n S1=>
  have e:bind m newL S=.exn n S1:=by unfold L3.bind;rw [h]
  have e2:nx m S=.bad:=by unfold L3.nx;rw [h]
  have e3:bind (nx m) newL S=.bad:=by unfold L3.bind;rw [e2]
  rw [e3];unfold L3.nx;rw [e]
 | bad=>
  have e:bind m newL S=.bad:=by unfold L3.bind;rw [h]
  have e2:nx m S=.bad:=by unfold L3.nx;rw [h]
  have e3:bind (nx m) newL S=.bad:=by unfold L3.bind;rw [e2]
  rw [e3];unfold L3.nx;rw [e]
theorem rc {T:Tx} {k i:Nat} {c:Lc} {X:Cx} {x:Str} {p pos:Pos} {e:Expr} {fs:Env->M (List D)} {xe:Addr->Hp->Prop} (g:e8 c.N x=some i) (h:PS X (.Assign [.Name x p] e pos) (nq (tD X.K T.cl x0 λρ=>bind (fs ρ) newL) (ax i))):PS X (.Assign [.Name x p] e pos) (sD X.K T.cl xe λρ=>bind (bind (nx (fs ρ)) newL) (V6 c x ρ)):=PS.imp h λD σ H ⟨μ,S,ρ,b,m,p⟩=>by
 have p:=p.bind;rw [uN] at p;refine ⟨μ,S,ρ,b,m,p.nx.imp λd S1 a j n l f v o=>?_⟩;simp only [V6,g] at f;exact f.ret a j (Lat.refl _ _) l _ ((b.later n).set o i)
def mH:RuS where
 is _ lc e:=match e with
  | .Assign [.Name x _] (.ListComp _ [⟨.Name y _,b,_,0⟩] a _) _=>eM lc x&&B2 lc a [y]&&u4 b&&decide (x∈lc.mu)
  | _=>false
 run r _ _ lc e ρ:=match e with
  | .Assign [.Name x _] (.ListComp c [⟨.Name y j,b,ifs,0⟩] a _) _=>bind (bind (G3 r lc c y j b ifs a ρ) newL) (V6 lc x ρ)
  | _=>bad
 ok {T k r Γ C lc X} e R TX h hf g:=by
  split at g
  ·rename_i x p c y j b ifs a f pos;rw [FG,FG,FG] at g;obtain ⟨⟨⟨O,N⟩,z⟩,_⟩:=g;have o:=O;rw [eM,FG,GQ] at o;obtain ⟨⟨i,g⟩,M⟩:=o;have l:X.N[i]?=some x:=by rw [h.N];exact p0 g
   have n:L2.Loc X.env.scope x:=by rw [h.sc];exact G1 M
   have m:X.fn x=true\/X.env.scope.names.lookup x=some .local:=.inl (h.fn1 hf);have A:=xN h c [⟨.Name y j,b,ifs,0⟩] a x p pos f;unfold G3;cases L:e6 (e8 lc.N) (o0 a) with
   | none=>exact PS.imp eT λD σ H ⟨μ,S,ρ,w,t,p⟩=>p.bind.elim
   | some caps=>
    obtain ⟨I,v,J,u,E⟩:=M2 h N L;have K:=λpins C B s H=>PTL.x0 (tests_ok (ifs:=ifs) R (B5 h u E v pins C B s H));have G:=λpins C B s H=>PE.x0 (R.ex (B5 h u E v pins C B s H) c);refine rc (k:=k) g ?_;cases F:swB lc (.ListComp c [⟨.Name y j,b,ifs,0⟩] a f) a x p with
    | false=>
     rw [F] at A;exact hU h.nd' l n (PE.imp (jS I (h.calm u) v rfl (J y (by simp)) (PI.x0 (R.ix h _ _)) K G (y8 z)) λσ H Q ⟨μ,S,ρ,w,t,p⟩=>Y6 w t p) A m
    | true=>
     rw [F] at A;exact PS.imp (bR A h.nd' l n m I (h.calm u) v rfl (J y (by simp)) (PI.x0 (R.ix h _ _)) K G (y8 z)) λD σ H ⟨μ,S,ρ,w,t,p⟩=>Y6 w t p
  ·cases g
 runK q _ _ lc e ρ _ k:=match e with
  | .Assign [.Name x _] (.ListComp c [⟨.Name y j,b,ifs,0⟩] a _) _=>aY q lc c y j b ifs a ρ λds=>bind (newL ds) λd=>u9 lc x ρ d k
  | _=>bad
 eq e ρ _ k h:=by
  split
  ·simp only [bj h,bind_assoc,h9,dW]
  ·first
   | rfl
   | (rename_i z;split;exact (z _ _ _ _ _ _ _ _ _ _ rfl).elim;rfl)
def countG (x:D) (ds:List D):M D:=match x,ds with
 | .tup xs,[d]=>λS=>match d8 64 S (.tup xs),d8 64 S d with
  | some (.tuple ps),some q=>(if q.canLay0=true/\PyData.canLayAll0 ps=true/\min (PyData.depthAll ps) q.depth<=60 then ret (.int ((ps.countP λz=>PyData.eqv z q:Nat):Int)) else bad) S
  | _,_=>.bad
 | _,_=>bad
section
variable {X:Cx} {cl:Nat->Addr} {xe:Addr->Hp->Prop}
def Df (X:Cx):V->List V->Hp->(V->Hp->Prop)->Prop:=λx vs H Q=>∃ y ps d,vs=[y]/\DAt X.K H x (.tuple ps)/\DAt X.K H y d/\(d.canLay0=true/\PyData.canLayAll0 ps=true/\min (PyData.depthAll ps) d.depth<=60)/\Q (.int ((ps.countP λz=>PyData.eqv z d:Nat):Int)) H
theorem lU (hu:X.A.units+80<cLine):MtR X "tuple.count" (Df X):=by
 intro pins s σ H x vs v us Q I rx rv h;obtain ⟨y,ps,d,rfl,hx,hy,⟨c1,c2,c3⟩,q⟩:=h;obtain ⟨u,rfl,ru⟩:=rv.one;obtain ⟨as,r1⟩:=hx.reads I rx;obtain ⟨bs,r2⟩:=hy.reads I ru;cases r1 with
 | tuple h1 h2 h3 h4=>
  rename_i a ob its n;obtain ⟨cls,dd,data,sl⟩:=ob;subst h2 h3;have em:=SeqAt.readsAll_map ps _ _ c2 h4;refine Ic JU ⟨_,h1,rfl⟩ PySem.F.entry_tuple_count (PySem.F.args_tuple_count_2 _ _) (PySem.SeqAt.tuple_countAt _ its n dd sl u (λz=>PyData.eqv (SeqAt.readOf s.heap z) d)) ⟨h1,λz hz=>?_,?_⟩
  ·exact SeqAt.items_eqAt h4 r2 c2 c1 (by omega) z hz
  ·have:its.toList.countP (λz=>PyData.eqv (SeqAt.readOf s.heap z) d)=ps.countP λz=>PyData.eqv z d:=by
    rw [<- em,Kl];rfl
   rw [this];exact ⟨.int _,H,I.tok _,⟨_,rfl⟩,q⟩
theorem fA:zi X.K cl xe (Df X) countG:=λμ S H x v ds vs Q rx rvs rp p=>by
 unfold countG at p;split at p
 ·rename_i xs d;obtain ⟨v2,rfl,rv⟩:=lT rvs;cases e1:d8 64 S (.tup xs) with
  | none=>rw [e1] at p;exact p.elim
  | some a=>
   cases e2:d8 64 S d with
   | none=>rw [e1,e2] at p;cases a <;> exact p.elim
   | some b=>
    rw [e1,e2] at p;have ha:=q5 rp 64 e1 rx;have hb:=q5 rp 64 e2 rv;cases a with
    | tuple ps=>
     dsimp only at p;by_cases c:b.canLay0=true/\PyData.canLayAll0 ps=true/\min (PyData.depthAll ps) b.depth<=60
     ·rw [if_pos c] at p;exact ⟨v2,ps,b,rfl,ha,hb,c,p μ H (Lat.refl _ _) rp _ (.int _)⟩
     ·rw [if_neg c] at p;exact p.elim
    | _=>exact p.elim
 ·exact p.elim
end
def rCountG0:RuE:=rMt "count" tupOf countG λh c d b a f e=>kC PySem.F.plainAttrs_tuple JU PySem.F.type_tuple_count (lU h.u80) mG fA c d b a f e
def wE:RuE where
 is Γ lc e:=rCountG0.is Γ lc e&&decide (("count" : Str)∈lc.mu)
 run:=rCountG0.run
 ok e R TX h hi:=rCountG0.ok e R TX h (by rw [FG] at hi;exact hi.1)
 runK:=rCountG0.runK
 eq e ρ _ k h:=rCountG0.eq e ρ k h
section
variable {X:Cx} {cl:Nat->Addr} {a t b c:Expr} {fa ft fb fc:Env->M D} {pos p2:Pos}
def lf (b a:Env->M D) (ρ:Env) (x y:D):M D:=bind (nx (isD false x y)) λz=>bind (asB z) λq=>if q=true then b ρ else a ρ
theorem vX (ha:PX X cl a fa) (ht:PX X cl t ft) (V:PX X cl b fb) (hc:PX X cl c fc):PX X cl (.IfExp (.Compare a [.Is] [t] r) b c pos) λρ=>bind (fa ρ) λx=>bind (ft ρ) λy=>lf fb fc ρ x y:=by
 intro pins s σ H Q F I ⟨μ,S,ρ,K,W,p⟩;refine wpAny_IfExp (wpAny_isTrue_Compare1 (thn (ha pins s σ H (λv i=>∃ f S1 x,EnvOk X.K f i ρ σ/\RD X.K f i x v/\Rep X.K cl f S1 i/\Post X.K cl F f i (bind (ft ρ) (λy=>lf fb fc ρ x y) S1) λd _ μ' H'=>∀ v,RD X.K μ' H' d v->Q v H') F I ⟨μ,S,ρ,K,W,p.bind.imp λx S1 f i U D C v J=>⟨f,S1,x,K.later U,J,D,C⟩⟩) λv R ⟨L,i,Z,rr,f,S1,x,m,J,D,C⟩=>thn (ht pins R σ i (λu g=>∃ μ2 S2 y,EnvOk X.K μ2 g ρ σ/\RD X.K μ2 g x L/\RD X.K μ2 g y u/\Rep X.K cl μ2 S2 g/\Post X.K cl F μ2 g (lf fb fc ρ x y S2) λd _ μ' H'=>∀ v,RD X.K μ' H' d v->Q v H') F Z ⟨f,S1,ρ,m,D,C.bind.imp λy S2 μ2 g M E r u G=>⟨μ2,S2,y,m.later M,J.later M,G,E,r⟩⟩) λu O ⟨P,g,I2,G,μ2,S2,y,B,T,ry,E,r⟩=>?_) (xZ _));have o:=zH (X:=X.nox) (xe:=x0) false pins O σ g L P v u (λw h=>∃ e k z,EnvOk X.K e h ρ σ/\RD X.K e h z w/\Rep X.K cl e k h/\Post X.K cl F e h ((bind (asB z) λq=>if q=true then fb ρ else fc ρ) k) λd _ μ' H'=>∀ v,RD X.K μ' H' d v->Q v H') (I2.wish _) rr G ⟨μ2,S2,x,y,T,ry,E,r.bind.nx.imp λz k e h l3 A j w rw=>⟨e,k,z,B.later l3,rw,A,j⟩⟩;refine Gs o (λw N ⟨w',h,n,rw,e,k,z,l,Y,A,j⟩=>?_) λ_ _ z=>False.elim z;have n:=n.unwish;cases z with
 | bl q=>
  cases Y;cases rw;refine HX ?_;have j:=j;cases q with
  | true=>exact V pins N σ h Q F n ⟨e,k,ρ,l,A,j⟩
  | false=>exact hc pins N σ h Q F n ⟨e,k,ρ,l,A,j⟩
 | _=>exact j.elim
end
def eI (r:Ev) (Γ:Gm) (C:Cf) (d:Lc) (e:Expr) (ρ:Env):M D:=match e with
 | .IfExp (.Compare a [.Is] [t] _) b c _=>bind (eB r Γ C d a ρ) λx=>bind (nx (r.e d t ρ)) λy=>lf (λρ=>nx (r.e d b ρ)) (λρ=>nx (r.e d c ρ)) ρ x y
 | e=>eB r Γ C d e ρ
def eIK (q:EvK) (Γ:Gm) (C:Cf) (d:Lc) (e:Expr) (ρ:Env):M D:=match e with
 | .IfExp (.Compare a [.Is] [t] _) b c _=>bind (eBK q Γ C d a ρ) λx=>bind (nx (q.e d t ρ ret)) λy=>lf (λρ=>nx (q.e d b ρ ret)) (λρ=>nx (q.e d c ρ ret)) ρ x y
 | e=>eBK q Γ C d e ρ
theorem BP (h:EqK r q) (e:Expr) (ρ:Env):eIK q Γ C lc e ρ=eI r Γ C lc e ρ:=by
 unfold eIK eI;split <;> simp only [DB h,h.e,y7]
theorem Ce {C:Cf} {a:Lc} {X:Cx} (R:EvOk T k r) (b:TxOk T Γ k C) (h:CxOk T k a X) (c:quiet a=false) (e:Expr):PX X T.cl e (eI r Γ C a e):=by
 unfold eI;split
 ·exact vX (xE R b h c _) (PX.of (PE.x0 (R.ex h.nox _))) (PX.of (PE.x0 (R.ex h.nox _))) (PX.of (PE.x0 (R.ex h.nox _)))
 ·exact xE R b h c e
def Bb:RuS:=DI (λr Γ C a e ρ=>eI r Γ C a e ρ) (λq Γ C a e ρ=>eIK q Γ C a e ρ) (λR b h c e=>Ce R b h c e) (λh e ρ=>BP h e ρ)
theorem _root_.L2.Inv.dr (I:Inv X pins σ H s) (d:Drawn):Inv X pins σ H { s with drawn:=d }:=
 ⟨I.ok,I.os,I.bare,I.base,I.loc,I.cell,I.free,I.freeC,I.pin,I.hok,I.len⟩
def w9 (ns:List Int):List Int:=HT.metKHt (λi=>ns.getD i 0) ns.length
theorem dR (ns:List Int):(w9 ns).Nodup:=HT.metK_nd _ _
theorem uniq_mem:k∈w9 ns↔k∈ns:=by
 unfold w9;rw [HT.metK_mem];constructor
 ·grind
 ·intro h;obtain ⟨j,a,e⟩:=Ig.mp h;exact ⟨j,a,by simp [List.getD,a,e]⟩
section
variable {X:Cx} {e:Expr} {te:TE} {p p2 pos pos2:Pos} {cl:Nat->Addr} {xe:Addr->Hp->Prop}
def sQ (K:PySem.W.Frag) (te:TE):TE:=λσ H Q=>te σ H λx b=>∃ a ns,x=.ref a/\(SqL K b a (ns.map V.int)\/SqT K b a (ns.map V.int))/\(ns.length<4000/\(w9 ns).length<64)/\∀ p,b p=none->Q (.ref p) (upd b p (.lst ((srt (w9 ns)).map V.int)))
theorem lI (M:X.calm=true) (T:Gl X "sorted") (U:X.mg "sorted" = none) (hs:Gl X "set") (ms:X.mg "set" = none) (he:PE X e te) (D:noStar e=true):PE X (.Call (.Name "sorted" p) [.Call (.Name "set" p2) [e] [] pos2] [] pos) (sQ X.K te):=by
 intro pins s σ H Q I h;have E:=I.ok.hd M;refine GR (G0 I T U (by rfl) ?_ (by decide) (by decide));refine HI ?_ rfl rfl;refine Jt ?_;refine GR (G0 I hs ms (by rfl) ?_ (by decide) (by decide));refine GT ?_ (c8 D) rfl;rw [c8 D];refine Jt (thn (he pins s σ H _ I h) λu r ⟨x,W,w,Y,a,ns,e1,m,hz,q⟩=>?_);subst e1;cases Y;refine JJ ?_;have l:∀ (d:List Value),d.length=ns.length->PyProof.Rows.IntsAre d ns->(r.heap.IsTuple a d.toArray\/r.heap.IsList a d.toArray) ->
   wpAny (model X.prog X.w) X.A (call (.type "set") [.ref a]) (λv z=>wpAny (model X.prog X.w) X.A (spliced (backTo pos (starEach [] X.env))) (λvs L=>wpAny (model X.prog X.w) X.A (call (.builtin "sorted") (v :: vs)) (EP X pins σ Q) X.xe L) X.xe z) X.xe r:=λd f hi C=>by
  refine HT.callLHt (knd:=intKind X.prog X.w) (λi=>ns.getD i 0) E C (λi v hv=>?_) (by rw [FR,f];show ns.length+1<4096;have:=hz.1;omega) λg tk ⟨B,K⟩=>?_
  ·obtain ⟨t,rfl⟩:=PyProof.Rows.IntsAre.int_at hi i v (by rw [<- HW];exact hv);exact ⟨intKind_is _ _ _ _,rfl⟩
  ·refine JJ ?_;have sz:d.toArray.size=ns.length:=by rw [FR,f]
   rw [sz] at B;refine HT.sortLHt E B (HT.metK_nd _ _) hz.2 λz y out ms c kp rs le Z J P N=>?_;have em:=dj (P.trans (u5 (w9 ns)).symm) N (ap _);subst em;have A:=λb u F=>kp b u (K b u (FK F) F);have j:r.heap.objs.size<=y:=by
    refine Gd ?_ le;obtain ⟨_,_,_,_,ho,_⟩:=B;exact II (FK ho)
   have S:=w.hok.fresh j;have G:=(w.laid (t':=z.toks) (o:=.lst ((srt (w9 ns)).map V.int)) A j ⟨by rw [Fu,(u5 _).length_eq,Gf];have:=hz.2;omega,out.toList,c,W5 J,by rw [Array.toArray_toList];exact Z⟩).dr z.drawn;refine ⟨.ref y,upd W y (.lst ((srt (w9 ns)).map V.int)),?_,rfl,q y S⟩;rw [rs];exact G
 rcases m with m | m
 ·obtain ⟨d,k,pl,hsz⟩:=w.list m;have f:d.length=ns.length:=by rw [<- k.length,Fu]
  exact l d f (Q4 k) (.inr pl.isList)
 ·obtain ⟨d,k,⟨ob,R,O,n,o3⟩,hsz⟩:=w.tuple m;have f:d.length=ns.length:=by rw [<- k.length,Fu]
  exact l d f (Q4 k) (.inl ⟨ob,R,O,n,o3⟩)
def E6 (d:D):M D:=bind (G5 d) λds=>match z0 ds with
 | some ns=>if ns.length<4000/\(w9 ns).length<64 then ret (.lst ((srt (w9 ns)).map D.int)) else bad
 | none=>bad
theorem lS (m:X.calm=true) (q:Gl X "sorted") (t:X.mg "sorted" = none) (hs:Gl X "set") (ms:X.mg "set" = none) (u:PE X e (tD X.K cl xe f)) (k:noStar e=true):PE X (.Call (.Name "sorted" p) [.Call (.Name "set" p2) [e] [] pos2] [] pos) (tD X.K cl xe λρ=>bind (f ρ) E6):=
 PE.imp (lI m q t hs ms u k) λσ H Q ⟨μ,S,ρ,r,o,p⟩=>⟨μ,S,ρ,r,o,p.bind.imp λd S1 i y A j b v x=>by
  obtain ⟨a,xs,ds,rfl,w,n,s⟩:=bP x j b.bind;have b:=b.ok_bind s;cases g:z0 ds with
  | none=>rw [g] at b;exact b.elim
  | some ns=>
   rw [g] at b;obtain ⟨hz,b⟩:=Post.guard b;have:=dU g n;subst this;refine ⟨a,ns,rfl,w,hz,λz hz=>?_⟩;obtain ⟨l,h,c⟩:=B6 j (RDs.ints (srt (w9 ns))) hz;exact b i _ l h _ c⟩
end
def vH:RuE where
 is Γ lc e:=match e with
  | .Call (.Name x _) [.Call (.Name y _) [a] [] _] [] _=>decide (x = "sorted")&&decide (y = "set")&&(Γ.gl.lookup ("sorted" : Str)).isNone&&(Γ.gl.lookup ("set" : Str)).isNone&&glB lc.sc "sorted" && glB lc.sc "set" && !quiet lc&&noStar a
  | _=>false
 run r _ _ lc e ρ:=match e with
  | .Call (.Name _ _) [.Call (.Name _ _) [a] [] _] [] _=>bind (r.e lc a ρ) E6
  | _=>bad
 ok {T k r Γ C lc X} e R TX h hi:=by
  split at hi
  ·simp only [FG,FW,GH,GV] at hi;obtain ⟨⟨⟨⟨⟨⟨⟨rfl,rfl⟩,g⟩,l⟩,b⟩,f⟩,j⟩,i⟩:=hi;exact lS (h.calm j) (h.gl b) (TX.none h (by decide) g) (h.gl f) (TX.none h (by decide) l) (R.ex h _) i
  ·cases hi
 runK q _ _ lc e ρ _ k:=match e with
  | .Call (.Name _ _) [.Call (.Name _ _) [a] [] _] [] _=>q.e lc a ρ λd=>bind (E6 d) k
  | _=>bad
 eq e ρ _ k h:=by
  split
  ·simp only [h.e,bind_assoc]
  ·first
   | rfl
   | (rename_i c;split;exact (c _ _ _ _ _ _ _ rfl).elim;rfl)
theorem a7 {k:α->M β} {S S':Sto} {a:α} (e:m S=.ok a S'):bind m k S=k a S':=by unfold bind;rw [e]
theorem aD {d:D} (h:S[p]?=some (.dct kvs)) (e:qO kvs (.inr x)=some d):ixD (.ref p) (.str x) S=.ok d S:=by
 simp only [ixD,h,O1,Ik,e,eE,ret]
theorem bF {v:D} (h:S[p]?=some (.dct kvs)) (a:kvs.length<sizeLine) (e:ki kvs (.inr x) v=kvs'):K3 (.ref p) (.str x) v S=.ok .non (S.set p (.dct kvs')):=by
 simp only [K3,h,O1,if_pos a,e]
theorem iQ {S:Sto} {p:Nat} {o o':O} (h:S[p]?=some o):(S.set p o')[p]?=some o':=Ge (Fv.mp h).1
def m4 (ns:List Int) (a l t:Int):O:=.dct [(.inr "cells",.lst (ns.map D.int)),(.inr "at",.int a),(.inr "left",.int l),(.inr "turn",.int t)]
section
variable {S:Sto} {p:Nat} {ns:List Int} {a l t:Int} (h:S[p]?=some (m4 ns a l t))
include h
theorem vS:ixD (.ref p) (.str "cells") S=.ok (.lst (ns.map D.int)) S:=aD h rfl
theorem EV:ixD (.ref p) (.str "at") S=.ok (.int a) S:=aD h rfl
theorem hF:ixD (.ref p) (.str "left") S=.ok (.int l) S:=aD h rfl
theorem rm:ixD (.ref p) (.str "turn") S=.ok (.int t) S:=aD h rfl
theorem BV (v:Int):K3 (.ref p) (.str "at") (.int v) S=.ok .non (S.set p (m4 ns v l t)):=bF h (by show 4<sizeLine;decide) rfl
theorem jx (v:Int):K3 (.ref p) (.str "left") (.int v) S=.ok .non (S.set p (m4 ns a v t)):=bF h (by show 4<sizeLine;decide) rfl
theorem vY (v:Int):K3 (.ref p) (.str "turn") (.int v) S=.ok .non (S.set p (m4 ns a l v)):=bF h (by show 4<sizeLine;decide) rfl
end
theorem bW (i j:Int) (S:Sto):i9 (.int i) (.int j) S=.ok (.int (i+j)) S:=rfl
theorem aq {i j:Int} (h:0<j) (S:Sto):N6 (.int i) (.int j) S=.ok (.int (i % j)) S:=by simp only [N6,if_pos h,ret]
theorem dy {i j:Int} (h:0<j) (b:j<1073741824) (S:Sto):Y2 (.int i) (.int j) S=.ok (.int (i / j)) S:=by
 have a:rY i j:=⟨h,b⟩;simp only [Y2,if_pos a,ret]
theorem eU (h:CMul i j) (S:Sto):Q0 (.int i) (.int j) S=.ok (.int (i * j)) S:=by simp only [Q0,if_pos h,ret]
theorem bQ (ns:List Int) (S:Sto):k8 (.lst (ns.map D.int)) S=.ok (.int ns.length) S:=by
 show R.ok (D.int ((ns.map D.int).length:Nat)) S=_;grind
theorem uU {ns:List Int} {a:Int} (f:0<=a) (g:0<ns.length) (S:Sto):∃ z:Int,ixD (.lst (ns.map D.int)) (.int (a % (ns.length:Int))) S=.ok (.int z) S:=by
 have c:(0:Int)<(ns.length:Int):=by omega
 have e:=Ji a (Ke c);have h:=IE a c;obtain ⟨j,d⟩:=Hf e;have b:j<ns.length:=by omega
 refine ⟨ns[j],?_⟩;rw [d];show eE (atI (ns.map D.int) (j:Int)) S=_;rw [aA (by rw [FY,Fy b];rfl)];rfl
theorem set_set {S:Sto} {p:Nat} {o o':O}:(S.set p o).set p o'=S.set p o':=List.set_set ..
def dL (p m e d:D):M D:=
 bind (ixD p (.str "turn")) λa=>bind (N6 d (.int 1000003)) λl=>bind (Q0 l (.int 48271)) λk=>bind (Q0 (.int 7919) a) λg=>bind (i9 k g) λi=>bind (i9 i (.int 104729)) λj=>bind (N6 j (.int 2147483647)) λc=>
 bind (Y2 c (.int 64)) λf=>bind (Q0 f (.int 69621)) λt=>bind (Q0 (.int 31) a) λh=>bind (Q0 h a) λq=>bind (i9 t q) λo=>bind (i9 o e) λn=>bind (N6 n (.int 2147483587)) λb=>
 bind (Y2 b (.int 64)) λs=>bind (N6 s m) λr=>ret r
def df (p m b a:D) (z:Bool):M D:=
 if z=true then bind (Y2 a m) λv=>bind (K3 p (.str "left") v) λ_=>bind (N6 a m) λd=>ret d
 else dL p m b a
def K6 (p m b cells a:D):M D:=
 bind (wD (.int 10) (.int 18)) λy=>bind (a9 .GtE a y) λd=>bind (asB d) λc=>
 if c=true then bind (k8 cells) λy=>bind (a9 .Lt b y) λd=>bind (asB d) λz=>df p m b a z
 else df p m b a false
def kF (p m:D):M D:=
 bind (ixD p (.str "turn")) λx=>bind (i9 x (.int 1)) λe=>bind (K3 p (.str "turn") e) λ_=>
 bind (ixD p (.str "left")) λx=>bind (a9 .Gt x (.int 0)) λd=>bind (asB d) λz=>
 if z=true then bind (ixD p (.str "left")) λx=>bind (N6 x m) λb=>bind (ixD p (.str "left")) λx=>bind (Y2 x m) λv=>bind (K3 p (.str "left") v) λ_=>ret b
 else bind (ixD p (.str "cells")) λcells=>bind (ixD p (.str "at")) λa=>bind (i9 a (.int 1)) λv=>bind (K3 p (.str "at") v) λ_=>bind (k8 cells) λx=>bind (a9 .Gt x (.int 0)) λd=>bind (asB d) λz=>
  if z=true then bind (k8 cells) λy=>bind (N6 a y) λi=>bind (ixD cells i) λc=>K6 p m a cells c
  else K6 p m a cells (.int 0)
theorem gR {a l t m c b:Int} (h:S[p]?=some (m4 ns a l t)) (d:0<m) (f:0<=t) (e:t<2000000):∃ r:Int,dL (.ref p) (.int m) (.int b) (.int c) S=.ok (.int r) S/\0<=r/\r<m:=by
 unfold dL;rw [a7 (rm h),a7 (aq (by decide) S),a7 (eU (.inr ⟨by decide,by decide⟩) S),a7 (eU (.inl ⟨by decide,by decide⟩) S),a7 (bW _ _ S),a7 (bW _ _ S),a7 (aq (by decide) S),
  a7 (dy (by decide) (by decide) S),a7 (eU (.inr ⟨by decide,by decide⟩) S),a7 (eU (.inl ⟨by decide,by decide⟩) S),a7 (eU (.inr ⟨by omega,by omega⟩) S),a7 (bW _ _ S),a7 (bW _ _ S),a7 (aq (by decide) S),a7 (dy (by decide) (by decide) S),a7 (aq d S)]
 exact ⟨_,rfl,Ji _ (Ke d),IE _ d⟩
theorem eO {S:Sto} {p:Nat} {ns:List Int} {a l t m c b:Int} (h:S[p]?=some (m4 ns a l t)) (ha:0<=a) (hl:0<=l) (ht:0<=t) (htb:t<2000000) (hm:0<m) (hm2:m<1073741824) :
  ∃ r l',K6 (.ref p) (.int m) (.int b) (.lst (ns.map D.int)) (.int c) S=.ok (.int r) (S.set p (m4 ns a l' t))/\0<=r/\r<m/\0<=l':=by
 unfold K6;have hp:wD (.int 10) (.int 18) S=.ok (.int 1000000000000000000) S:=rfl;rw [a7 hp];have hc:a9 .GtE (.int c) (.int 1000000000000000000) S=.ok (.bl (decide (1000000000000000000<=c))) S:=rfl;rw [a7 hc,a7 (show asB _ _=_ from rfl)];have same:S.set p (m4 ns a l t)=S:=by
  apply JO;intro i;by_cases e:p=i
  ·subst e;rw [iQ h,h]
  ·rw [FS e]
 have fin:∀ z:Bool,(z=true->1000000000000000000<=c)->∃ r l',df (.ref p) (.int m) (.int b) (.int c) z S=.ok (.int r) (S.set p (m4 ns a l' t))/\0<=r/\r<m/\0<=l':=λz hz=>by
  unfold df;cases z with
  | true=>
   rw [if_pos rfl,a7 (dy hm hm2 _),a7 (jx h _),a7 (aq hm _)];exact ⟨_,c / m,rfl,Ji _ (Ke hm),IE _ hm,Int.ediv_nonneg (Kf (by decide) (hz rfl)) (Int.le_of_lt hm)⟩
  | false=>
   rw [if_neg Fz];obtain ⟨r,e,r1,r2⟩:=gR (c:=c) (b:=b) h hm ht htb;exact ⟨r,l,by rw [e,same],r1,r2,hl⟩
 by_cases hz:(1000000000000000000:Int)<=c
 ·rw [FM hz,if_pos rfl,a7 (bQ ns _)];have hc2:a9 .Lt (.int b) (.int (ns.length:Int)) S=.ok (.bl (decide (b<(ns.length:Int)))) S:=rfl;rw [a7 hc2,a7 (show asB _ _=_ from rfl)];exact fin _ λ_=>hz
 ·rw [FV hz,if_neg Fz];exact fin _ λz=>by cases z
theorem pQ (h:S[p]?=some (m4 ns a l t)) (q:0<=a) (o:0<=l) (A:0<=t) (s:t<1000000) (f:0<m) (i:m<1073741824) :
  ∃ r g d,kF (.ref p) (.int m) S=.ok (.int r) (S.set p (m4 ns g d (t+1)))/\0<=r/\r<m/\0<=g/\0<=d:=by
 unfold kF;rw [a7 (rm h),a7 (bW _ _ S),a7 (vY h _)];have b:=iQ (o':=m4 ns a l (t+1)) h;have w:a9 .Gt (.int l) (.int 0) (S.set p (m4 ns a l (t+1)))=.ok (.bl (decide (0<l))) (S.set p (m4 ns a l (t+1))):=rfl;rw [a7 (hF b),a7 w,a7 (show asB _ _=_ from rfl)];by_cases hz:0<l
 ·rw [FM hz,if_pos rfl,a7 (hF b),a7 (aq f _),a7 (hF b),a7 (dy f i _),a7 (jx b _),set_set];exact ⟨_,a,l / m,rfl,Ji _ (Ke f),IE _ f,q,Int.ediv_nonneg o (Int.le_of_lt f)⟩
 ·rw [FV hz,if_neg Fz,a7 (vS b),a7 (EV b),a7 (bW _ _ _),a7 (BV b _),set_set,a7 (bQ ns _)];have y:=iQ (o':=m4 ns (a+1) l (t+1)) h;have j:a9 .Gt (.int (ns.length:Int)) (.int 0) (S.set p (m4 ns (a+1) l (t+1)))=.ok (.bl (decide (0<(ns.length:Int)))) (S.set p (m4 ns (a+1) l (t+1))):=rfl;rw [a7 j,a7 (show asB _ _=_ from rfl)];have k:∀ c:Int,∃ r g d,K6 (.ref p) (.int m) (.int a) (.lst (ns.map D.int)) (.int c) (S.set p (m4 ns (a+1) l (t+1)))=.ok (.int r) (S.set p (m4 ns g d (t+1)))/\0<=r/\r<m/\0<=g/\0<=d:=λc=>by
   obtain ⟨r,d,e,u,x,v⟩:=eO y (by omega) o (by omega) (by omega) f i;rw [set_set] at e;exact ⟨r,a+1,d,e,u,x,by omega,v⟩
  by_cases n:0<(ns.length:Int)
  ·rw [FM n,if_pos rfl,a7 (bQ ns _),a7 (aq n _)];obtain ⟨z,e⟩:=uU (ns:=ns) q (by omega) (S.set p (m4 ns (a+1) l (t+1)));rw [a7 e];exact k z
  ·simp_all
mutual
noncomputable def szP:PyData->Nat
 | .none=>4
 | .bool _=>5
 | .int _=>13
 | .str x=>(PyData.shown (.str x)).length
 | .list xs=>kf xs+3
 | .tuple xs=>kf xs+3
 | .dict _=>0
noncomputable def kf:List PyData->Nat
 | []=>0
 | x :: xs=>szP x+2+kf xs
end
def SmI (i:Int):Prop:=-999999999999<=i/\i<=999999999999
mutual
def Sm:PyData->Prop
 | .none=>True
 | .bool _=>True
 | .int i=>SmI i
 | .str _=>True
 | .list xs=>Sms xs
 | .tuple xs=>Sms xs
 | .dict _=>False
def Sms:List PyData->Prop
 | []=>True
 | x :: xs=>Sm x/\Sms xs
end
mutual
theorem xK:∀ p:PyData,Sm p->p.shown.length<=szP p
 | .none,_=>by decide
 | .bool b,_=>by cases b <;> decide
 | .int i,h=>PyData.shown_int_le2 h.1 h.2
 | .str x,_=>FH _
 | .list xs,h=>by
  have c:=iD xs h;have a:=listText_len_le (PyData.shownAll xs);have d:=HN xs;simp only [PyData.shown,szP];omega
 | .tuple xs,h=>by
  have c:=iD xs h;have a:=tupleText_len_le (PyData.shownAll xs);have d:=HN xs;simp only [PyData.shown,szP];omega
 | .dict _,h=>h.elim
theorem iD:∀ xs:List PyData,Sms xs->((PyData.shownAll xs).map (·.length)).sum+2 * xs.length<=kf xs
 | [],_=>by simp [PyData.shownAll,kf]
 | x :: xs,h=>by
  have h1:=xK x h.1;have h2:=iD xs h.2;simp only [PyData.shownAll,kf,Gk,List.sum_cons,Hs];omega
end
theorem hI {i:Int} (h:i.natAbs<2 ^ 40):decide (i.natAbs.log2<1920)=true:=by
 refine FM ?_;by_cases z:i.natAbs=0
 ·rw [z];decide
 ·have:=(Nat.log2_lt z).mpr h;omega
theorem yC (h:SmI i):PyData.showable (.int i)=true:=hI (by have:=h.1;have:=h.2;omega)
mutual
theorem jE:∀ p:PyData,Sm p->p.showable=true
 | .none,_=>rfl
 | .bool b,_=>rfl
 | .int i,h=>yC h
 | .str x,_=>rfl
 | .list xs,h=>by simp only [PyData.showable];exact ao xs h
 | .tuple xs,h=>by simp only [PyData.showable];exact ao xs h
 | .dict _,h=>h.elim
theorem ao:∀ xs:List PyData,Sms xs->PyData.showableAll xs=true
 | [],_=>rfl
 | x :: xs,h=>by simp only [PyData.showableAll,jE x h.1,ao xs h.2,IA]
end
mutual
theorem kJ:∀ p:PyData,Sm p->p.hasDict=false
 | .none,_=>rfl
 | .bool b,_=>rfl
 | .int i,h=>rfl
 | .str x,_=>rfl
 | .list xs,h=>by simp only [PyData.hasDict];exact bB xs h
 | .tuple xs,h=>by simp only [PyData.hasDict];exact bB xs h
 | .dict _,h=>h.elim
theorem bB:∀ xs:List PyData,Sms xs->PyData.hasDictAll xs=false
 | [],_=>rfl
 | x :: xs,h=>by simp only [PyData.hasDictAll,kJ x h.1,bB xs h.2,Bool.or_self]
end
structure Nice (p:PyData):Prop where
 sm:Sm p
 dp:p.depth<=60
 sz:szP p<=4000
theorem Nice.len (h:Nice p):p.shown.length<=4000:=Gd (xK p h.sm) h.sz
theorem Nice.shows (h:Nice p):Shows p:=⟨jE p h.sm,kJ p h.sm,h.dp,by have:=h.len;rw [Gf];omega⟩
theorem DR (e:d8 64 S d=some p) (h:Nice p) (hd:∀ x,d=.str x->x.length<=4000):A9 S d=true:=by
 unfold A9;rw [e];simp;refine ⟨⟨h.shows,h.len⟩,?_⟩;grind
theorem oJ (h:SmI i):Nice (.int i):=⟨h,by show PyData.depth (.int i)<=60;simp [PyData.depth],by show (13:Nat)<=4000;decide⟩
theorem sK {i:Int} (h:SmI i):A9 S (.int i)=true:=DR rfl (oJ h) (λx e=>by cases e)
theorem zL (b:ds.length=fs.length) (a:ds.all (A9 S)=true):N7 c fs ds S=.ok (.ref S.length) (S++[.exc c (fs.zip ds)]):=by
 unfold N7;grind
theorem c9 (b:Bool) (S:Sto):asB (.bl b) S=.ok b S:=rfl
def cY (o:Option (Option Value)) (x:String):Bool:=match o with
 | some (some (.builtin y))=>decide (y=x)
 | _=>false
theorem Q9 (h:cY o x=true):o=some (some (.builtin x)):=by
 unfold cY at h;grind
def isNo (o:Option (Option Value)):Bool:=match o with
 | some none=>true
 | _=>false
theorem aF (h:isNo o=true):o=some none:=by
 unfold isNo at h;grind
def isB (o:Option Bool) (b:Bool):Bool:=match o with
 | some c=>c==b
 | none=>false
theorem W1 (h:isB o b=true):o=some b:=by
 unfold isB at h;grind
def xcB (K:PySem.W.Frag) (C:Addr):Bool:=
 cY (PySem.W.findIn K (.ref C) "__getattribute__") "BaseException.__getattribute__" && (isNo (PySem.W.findIn K (.ref C) "__getattr__")&&(isB (PySem.W.mroIn K C (.type "BaseException")) true&&(isB (PySem.W.mroIn K C (.type "object")) true &&
 (PySem.W.hasDictIn K C&&(cY (PySem.W.findIn K (.ref C) "__class__") "object.__class__" && (cY (PySem.W.specialIn K (.builtin "object.__class__") "__get__") "getset_descriptor.__get__" && (isB (PySem.W.takesIn K (.builtin "object.__class__")) true &&
 (Y3 K C&&((PySem.W.clsIn K C).any (λa=>y9 a.mro)&&(cY (PySem.W.findIn K (.ref C) "__setattr__") "object.__setattr__" && PySem.W.keepIn K (.ref C)))))))))))
theorem O6 {K:PySem.W.Frag} {C:Addr} (h:xcB K C=true):XC K C:=by
 simp only [xcB,FG] at h;obtain ⟨d,e,l,m,j,f,g,i,k,a,b,c⟩:=h;exact ⟨⟨Q9 d,aF e,W1 l,W1 m,j,Q9 f,Q9 g,W1 i⟩,k,a,Q9 b,c⟩
def bm (cs:List Addr) (a:Addr) (c:Nat):Addr:=cs.getD c a
structure RowB (K:PySem.W.Frag) (Γ:Gm) (cs:List Addr) (junk:Addr):Prop where
 xc:cs.all (xcB K)=true
 jk:Y3 K junk=false
 sub:((List.range cs.length).all λc=>(List.range cs.length).all λc0=>isB (PySem.W.kitOne K (.ref (bm cs junk c)) (.ref (bm cs junk c0))) (Γ.sub c c0))=true
 sV:(cs.all λC=>isB (PySem.W.kitOne K (.ref C) (.type "ValueError")) true)=true
 sT:(cs.all λC=>tys.all λt=>isB (PySem.W.kitOne K (.ref C) (.type t)) false)=true
 fl:(Γ.flds.all λg=>cs.all λC=>isNo (PySem.W.findIn K (.ref C) g))=true
 bl:(bnames.all λx=>(Γ.gl.lookup x).isSome||isNo (PySem.W.nsIn K mainGlobals x))=true
theorem CJ {K:PySem.W.Frag} {cs:List Addr} {a:Addr} (d:Y3 K a=false) {c:Nat} (h:XC K (bm cs a c)):c<cs.length/\bm cs a c∈cs:=by
 by_cases b:c<cs.length
 ·refine ⟨b,?_⟩;unfold bm;rw [FU,Fy b];exact GC b
 ·have e:bm cs a c=a:=by
   unfold bm;rw [FU,Gr (Ij b)];rfl
  rw [e] at h;have:=h.ex;rw [d] at this;cases this
theorem RowB.st {Γ:Gm} {cs:List Addr} {j:Addr} {h:Heap} (B:RowB T.K Γ cs j) (X:T.K.In h) (G:h.Ns mainGlobals T.mg) (o:T.cl=bm cs j) (w:∀ x d,Γ.gl.lookup x=some (.val d)->∃ u v,T.mg x=some u/\RelV v u/\∀ μ H,RD T.K μ H d v)
  (r:∀ x c fs,Γ.gl.lookup x=some (.err c fs)->c<cs.length/\ErrAt T x c fs/\∀ g∈fs,g∈Γ.flds) (hd:∀ x k,Γ.gl.lookup x=some (.dct k)->mq T x k):TxSt T Γ:=by
 have i:∀ c,XC T.K (T.cl c)->c<cs.length/\T.cl c∈cs:=λc f=>by rw [o] at f ⊢;exact CJ B.jk f
 have p:=λg l c f=>by
  have:=(FX.mp B.fl) g l;exact aF ((FX.mp this) _ (i c f).2)
 refine ⟨λx s y=>?_,w,λx c fs e=>?_,λx c c0 fs e f=>?_,λc f=>?_,λc f t z=>?_,p,hd⟩
 ·have:=(FX.mp B.bl) x s;rw [y] at this;exact PySem.W.mg_none_of X G (aF this)
 ·obtain ⟨n,m,q⟩:=r x c fs e;exact ⟨m,λg l=>p g (q g l) c m.xc⟩
 ·obtain ⟨n,m,q⟩:=r x c0 fs e;have a:=(FX.mp B.sub) c (Gc.mpr (i c f).1);have b:=(FX.mp a) c0 (Gc.mpr n);rw [o];exact W1 b
 ·exact W1 ((FX.mp B.sV) _ (i c f).2)
 ·have a:=(FX.mp B.sT) _ (i c f).2;exact W1 ((FX.mp a) t z)
def dZ (K:PySem.W.Frag):Sp:=λvs H Q _=>∃ (a:Addr) (ns:List Int),vs=[.ref a]/\SqL K H a (ns.map V.int)/\∀ H',Q (.bl true) H'
theorem lH {K:PySem.W.Frag} {cl:Nat->Addr} {b:List D->M D} (d:∀ ns:List Int,∃ S',b [.scr (ns.map D.int)] []=.ok (.bl true) S'):∀ vs H Q E,dZ K vs H Q E->spD K cl 1 b vs H Q E:=by
 rintro vs H Q E ⟨a,ns,rfl,c,q⟩;obtain ⟨S',e⟩:=d ns;refine ⟨rfl,⟨[],[]⟩,[],[.scr (ns.map D.int)],.cons (.scr ?_ (RDs.ints ns)) .nil,⟨rfl,by simp,λn o a e=>by simp at e,λa m=>by simp at m⟩,?_⟩
 ·rcases c with h | h
  ·exact .inl ⟨h,by simp,by simp⟩
  ·exact .inr h
 ·rw [e];intro μ' H' l r v f;cases f;exact q H'
theorem ln1 {α:Type} {p:List α->Prop} {us:List α} (hl:us.length=1) (h:∀ a,p [a]):p us:=by
 obtain ⟨a,rfl⟩:=List.length_eq_one_iff.mp hl;exact h a
theorem lnS {α:Type} {p:List α->Prop} {us:List α} {n:Nat} (hl:us.length=n+1) (h:∀ a ws,ws.length=n->p (a :: ws)):p us:=by
 cases us with
 | nil=>cases hl
 | cons a ws=>exact h a ws (Nat.succ.inj hl)
theorem ln2 {α:Type} {p:List α->Prop} {us:List α} (hl:us.length=2) (h:∀ a b,p [a,b]):p us:=lnS hl λa _ e=>ln1 (p:=λw=>p (a :: w)) e (h a)
theorem ln3 {α:Type} {p:List α->Prop} {us:List α} (hl:us.length=3) (h:∀ a b c,p [a,b,c]):p us:=lnS hl λa _ e=>ln2 (p:=λw=>p (a :: w)) e (h a)
theorem lR {fd:FuncData} {ps:List Str} {us:List Value} (hl:us.length=1) (h:∀ a,bindArgs fd ⟨[a],[]⟩=pure (ps.zip [a])):bindArgs fd ⟨us,[]⟩=pure (ps.zip us):=ln1 (p:=λus=>bindArgs fd ⟨us,[]⟩=pure (ps.zip us)) hl h
theorem w8 {fd:FuncData} {ps:List Str} {us:List Value} (hl:us.length=2) (h:∀ a b,bindArgs fd ⟨[a,b],[]⟩=pure (ps.zip [a,b])):bindArgs fd ⟨us,[]⟩=pure (ps.zip us):=ln2 (p:=λus=>bindArgs fd ⟨us,[]⟩=pure (ps.zip us)) hl h
theorem dt {fd:FuncData} {ps:List Str} {us:List Value} (hl:us.length=3) (h:∀ a b c,bindArgs fd ⟨[a,b,c],[]⟩=pure (ps.zip [a,b,c])):bindArgs fd ⟨us,[]⟩=pure (ps.zip us):=ln3 (p:=λus=>bindArgs fd ⟨us,[]⟩=pure (ps.zip us)) hl h
structure GF (K:PySem.W.Frag) (x:Str) (st:Stmt) (g:Addr):Prop where
 a:PySem.W.nsIn K mainGlobals x=some (some (.ref g))
 f:∃ fd,Fun K x x st g fd
theorem gf_mk {K:PySem.W.Frag} {x:Str} {st:Stmt} {g:Addr} {oc:Value} {od an:Option Addr} {osl:Array (Option Value)} {kV doc pm cdv ct:Value} (a:PySem.W.nsIn K mainGlobals x=some (some (.ref g))) (l:K.lookup g=some ⟨oc,od,.func (PySem.W.fnOf x x (j3 st) (h7 st) (b7 st) .none kV doc pm an cdv ct),osl⟩) (c:PySem.W.codeIn K cdv x=true) (k:PySem.W.keepIn K (.ref g)=true):GF K x st g:=⟨a,_,J6 l c k⟩
theorem fe {T:Tx} {h:Heap} (X:T.K.In h) (G:h.Ns mainGlobals T.mg) {x:Str} {st:Stmt} {g:Addr} {m:List Str} {Tb:List Fd} {i n:Nat} (d:GF T.K x st g) (sc:dD (j1 st m)=true) (hb:∀ (kV doc pm:Value) (an:Option Addr) (cdv ct:Value) (us:List Value),us.length=(j1 st m).ps.length->bindArgs (PySem.W.fnOf x x (j3 st) (h7 st) (b7 st) .none kV doc pm an cdv ct) ⟨us,[]⟩=pure ((j1 st m).ps.zip us)) (hT:Tb[i]?=some (j1 st m)) (hn:(j1 st m).ps.length=n):∃ fd,Tb[i]?=some fd/\fd.ps.length=n/\FnTx T x fd:=by
 obtain ⟨fd,F⟩:=d.f;exact ⟨_,hT,hn,⟨g,_,_,st,F,rfl,rfl,aT sc,F.binds hb,He X G d.a⟩⟩
def Ad (T:Tx) (Tb:List Fd):List (Str×G)->Prop
 | []=>True
 | (x,.fn i n) :: l=>(∃ fd,Tb[i]?=some fd/\fd.ps.length=n/\FnTx T x fd)/\Ad T Tb l
 | _ :: l=>Ad T Tb l
theorem Ca {T:Tx} {Γ:Gm} {Tb:List Fd} (h:Ad T Tb Γ.gl):rM T Γ Tb:=λx i n e=>by
 have m:=L2.mem_of_lookup e;generalize Γ.gl=l at h m;induction l with
 | nil=>cases m
 | cons y l ih=>
  obtain ⟨z,g⟩:=y;rcases FP.mp m with q | q
  ·cases q;exact h.1
  ·refine ih ?_ q;cases g with
   | fn j k=>exact h.2
   | _=>exact h
theorem bn {n:Nat} (I:Nat->Sto->List D->Prop) (a:∀ S es,I n S es->src n S=some none)
  (c:∀ i S es,i<n->I i S es->∃ d b S1,src i S=some (some d)/\t d S=.ok b S1/\(if b=true then ∃ y S2,f d S1=.ok y S2/\es.length<sizeLine/\I (i+1) S2 (es++[y]) else I (i+1) S1 es)) :
  ∀ (k i:Nat) (S:Sto) (es:List D),k+i=n->I i S es->∃ es' S',f6 src t f (k+1) i es S=.ok es' S'/\I n S' es'
 | 0,i,S,es,j,h=>by
  have:i=n:=by omega
  subst this;refine ⟨es,S,?_,h⟩;simp only [f6,a S es h]
 | k+1,i,S,es,j,h=>by
  obtain ⟨d,b,S1,l,m,e⟩:=c i S es (by omega) h;have g:f6 src t f (k+1+1) i es S=bind (t d) (λb=>if b=true then bind (f d) (λy=>if es.length<sizeLine then f6 src t f (k+1) (i+1) (es++[y]) else bad) else f6 src t f (k+1) (i+1) es) S:=by
   conv=>lhs;unfold f6
   simp only [l]
  rw [g,a7 m];cases b with
  | true=>
   rw [if_pos rfl] at e ⊢;obtain ⟨y,S2,p,o,q⟩:=e;rw [a7 p,if_pos o];exact bn I a c k (i+1) S2 _ (by omega) q
  | false=>
   rw [if_neg Fz] at e ⊢;exact bn I a c k (i+1) S1 _ (by omega) e
def Ok {b:Type} (m:M b) (S:Sto) (Q:b->Sto->Prop):Prop:=∃ a S',m S=.ok a S'/\Q a S'
section
variable {α β:Type} {S S1:Sto} {m m':M α} {k:α->M β} {a:α} {Q Q':α->Sto->Prop} {P:β->Sto->Prop}
theorem Ok.ret (h:Q a S):Ok (ret a) S Q:=⟨a,S,rfl,h⟩
theorem Ok.of (e:m S=.ok a S1) (h:Q a S1):Ok m S Q:=⟨a,S1,e,h⟩
theorem Ok.bind (h:Ok m S λa S1=>Ok (k a) S1 P):Ok (L3.bind m k) S P:=by
 obtain ⟨a,S1,e,b,S2,c,q⟩:=h;exact ⟨b,S2,by rw [a7 e];exact c,q⟩
theorem Ok.eq (e:m S=.ok a S1) (h:Ok (k a) S1 P):Ok (L3.bind m k) S P:=Ok.bind ⟨a,S1,e,h⟩
theorem Ok.mono (h:Ok m S Q) (i:∀ a S1,Q a S1->Q' a S1):Ok m S Q':=by
 obtain ⟨a,S1,e,q⟩:=h;exact ⟨a,S1,e,i _ _ q⟩
theorem Ok.cg (e:m=m') (h:Ok m' S Q):Ok m S Q:=e▸h
theorem Ok.cgS (e:m S=m' S) (h:Ok m' S Q):Ok m S Q:=by
 obtain ⟨a,S1,b,q⟩:=h;exact ⟨a,S1,by rw [e];exact b,q⟩
theorem Ok.ite {c:Prop} [Decidable c] {a m2:M α} (b:c->Ok a S Q) (d:¬ c->Ok m2 S Q):Ok (if c then a else m2) S Q:=by grind
end
theorem Ok.comp {n:Nat} (I:Nat->Sto->List D->Prop) (c:∀ S es,I n S es->src n S=some none)
  (a:∀ i S es,i<n->I i S es->∃ d,src i S=some (some d)/\Ok (t d) S λb S1=>if b=true then Ok (f d) S1 λy S2=>es.length<sizeLine/\I (i+1) S2 (es++[y]) else I (i+1) S1 es) {S:Sto} (h:I 0 S []) :
  Ok (f6 src t f (n+1) 0 []) S λes S'=>I n S' es:=by
 obtain ⟨es,S',e,q⟩:=bn I c (λi S es o h=>by
  obtain ⟨d,l,b,S1,m,q⟩:=a i S es o h;refine ⟨d,b,S1,l,m,?_⟩;cases b with
  | true=>
   rw [if_pos rfl] at q ⊢;obtain ⟨y,S2,g,j,k⟩:=q;exact ⟨y,S2,g,j,k⟩
  | false=>
   rw [if_neg Fz] at q ⊢;exact q) n 0 S [] (by omega) h
 exact ⟨es,S',e,q⟩
def FlI (I:L3.Env->Sto->Prop) (J:L3.Env->Sto->Prop) (R:D->Sto->Prop) (a:Fl) (S:Sto):Prop:=match a with
 | .nx ρ=>I ρ S
 | .ct ρ=>I ρ S
 | .bk ρ=>J ρ S
 | .rt d=>R d S
theorem Ok.for_ {n:Nat} (I:Nat->L3.Env->Sto->Prop) (J:L3.Env->Sto->Prop) (R:D->Sto->Prop) (hend:∀ ρ S,I n ρ S->src n S=some none)
  (step:∀ i ρ S,i<n->I i ρ S->∃ d ρ1,src i S=some (some d)/\tg d ρ=some ρ1/\Ok (body ρ1) S (FlI (I (i+1)) J R)) :
  ∀ (k i:Nat) (ρ:L3.Env) (S:Sto),k+i=n->I i ρ S->Ok (i6 src tg body (k+1) i ρ) S λfl S'=>match fl with
   | .nx ρ'=>I n ρ' S'\/J ρ' S'
   | .rt d=>R d S'
   | _=>False
 | 0,i,ρ,S,hk,h=>by
  have:i=n:=by omega
  subst this;exact ⟨.nx ρ,S,by simp only [i6,hend ρ S h],.inl h⟩
 | k+1,i,ρ,S,hk,h=>by
  obtain ⟨d,ρ1,e1,e2,h2⟩:=step i ρ S (by omega) h;have un:i6 src tg body (k+1+1) i ρ S=L3.bind (body ρ1) (λfl=>match fl with
    | .nx ρ2=>i6 src tg body (k+1) (i+1) ρ2
    | .ct ρ2=>i6 src tg body (k+1) (i+1) ρ2
    | .bk ρ2=>L3.ret (.nx ρ2)
    | .rt d=>L3.ret (.rt d)) S:=by
   conv=>lhs;unfold i6
   simp only [e1,e2]
   all_goals rfl
  refine Ok.cgS un (Ok.bind (h2.mono λfl S1 q=>?_));cases fl with
  | nx ρ2=>exact Ok.for_ I J R hend step k (i+1) ρ2 S1 (by omega) q
  | ct ρ2=>exact Ok.for_ I J R hend step k (i+1) ρ2 S1 (by omega) q
  | bk ρ2=>exact Ok.ret (.inr q)
  | rt d=>exact Ok.ret q
theorem Ok.while_ (I:Nat->L3.Env->Sto->Prop) (J:L3.Env->Sto->Prop) (R:D->Sto->Prop)
  (step:∀ k ρ S,I k ρ S->Ok (t ρ) S λb S1=>if b=true then Ok (body ρ) S1 (FlI (λρ2 S2=>∃ j,j<k/\I j ρ2 S2) J R) else J ρ S1) :
  ∀ (m k:Nat) (ρ:L3.Env) (S:Sto),k<m->I k ρ S->Ok (B8 t body m ρ) S λfl S'=>match fl with
   | .nx ρ'=>J ρ' S'
   | .rt d=>R d S'
   | _=>False
 | 0,k,ρ,S,hk,h=>by omega
 | m+1,k,ρ,S,hk,h=>by
  refine Ok.bind ((step k ρ S h).mono λb S1 q=>?_);cases b with
  | false=>
   rw [if_neg Fz] at q ⊢;exact Ok.ret q
  | true=>
   rw [if_pos rfl] at q ⊢;refine Ok.bind (q.mono λfl S2 q2=>?_);cases fl with
   | nx ρ2=>obtain ⟨j,hj,q3⟩:=q2;exact Ok.while_ I J R step m j ρ2 S2 (by omega) q3
   | ct ρ2=>obtain ⟨j,hj,q3⟩:=q2;exact Ok.while_ I J R step m j ρ2 S2 (by omega) q3
   | bk ρ2=>exact Ok.ret q2
   | rt d=>exact Ok.ret q2
theorem dh {c:Type} {l:List c} {h g:c->D} {p:c->Bool} {t:D->M Bool} {f:D->M D} {S:Sto} (s:l.length<sizeLine) (m:∀ a∈l,t (h a) S=.ok (p a) S) (k:∀ a∈l,p a=true->f (h a) S=.ok (g a) S):f6 (bv (l.map h)) t f (l.length+1) 0 [] S=.ok ((l.filter p).map g) S:=by
 obtain ⟨es,S',e,q,r⟩:=Ok.comp (src:=bv (l.map h)) (λi S' es=>S'=S/\es=((l.take i).filter p).map g) (λS es _=>by show some (l.map h)[l.length]?=some none;rw [Gr (by simp)])
  (λi S' es b ⟨j,o⟩=>by
   subst j o;refine ⟨h l[i],?_,p l[i],S',m _ (GC b),?_⟩
   ·show some (l.map h)[i]?=some (some (h l[i]));rw [FY,Fy b];rfl
   ·have n:=HD b;cases d:p l[i] with
    | true=>
     dsimp only;rw [if_pos rfl];refine ⟨g l[i],S',k _ (GC b) d,?_,rfl,?_⟩
     ·grind
     ·grind
    | false=>
     dsimp only;rw [if_neg Fz];refine ⟨rfl,?_⟩;rw [n,HP,IH (by rw [d];exact Fz),List.filter_nil,Gv]) ⟨rfl,rfl⟩
 grind
def Asc (x:Str):Prop:=∀ c∈x.cps.toList,c<128
def C9 (j:Nat):Nat:=1000000000000000000000000000000000000000+j
mutual
def Pln (j:Nat):D->Prop
 | .non=>True
 | .bl _=>True
 | .int i=>i.natAbs<=C9 j
 | .str x=>x.length<=45+j/\Asc x
 | .tup ds=>Plns j ds
 | .lst ds=>Plns j ds
 | .scr _=>False
 | .ref _=>False
def Plns (j:Nat):List D->Prop
 | []=>True
 | d :: ds=>Pln j d/\Plns j ds
end
mutual
noncomputable def py:D->PyData
 | .non=>.none
 | .bl b=>.bool b
 | .int i=>.int i
 | .str x=>.str x
 | .tup ds=>.tuple (pys ds)
 | .lst ds=>.list (pys ds)
 | .scr _=>.none
 | .ref _=>.none
noncomputable def pys:List D->List PyData
 | []=>[]
 | d :: ds=>py d :: pys ds
end
mutual
noncomputable def dp:D->Nat
 | .tup ds=>dps ds+1
 | .lst ds=>dps ds+1
 | _=>0
noncomputable def dps:List D->Nat
 | []=>0
 | d :: ds=>max (dp d) (dps ds)
end
mutual
noncomputable def sz:D->Nat
 | .int _=>60
 | .str x=>10 * x.length+2
 | .tup ds=>szs ds+3
 | .lst ds=>szs ds+3
 | _=>5
noncomputable def szs:List D->Nat
 | []=>0
 | d :: ds=>sz d+2+szs ds
end
theorem Plns.mem:∀ {ds:List D},Plns j ds->∀ d∈ds,Pln j d
 | _ :: _,h,d,hd=>by
  rcases FP.mp hd with rfl | hd
  ·exact h.1
  ·exact Plns.mem h.2 d hd
theorem Plns.of:∀ {ds:List D},(∀ d∈ds,Pln j d)->Plns j ds
 | [],_=>trivial
 | d :: ds,h=>⟨h d (FO ..),Plns.of λe a=>h e (FQ _ a)⟩
mutual
theorem Pln.up:∀ (d:D),Pln j d->Pln (j+1) d
 | .non,_=>trivial
 | .bl _,_=>trivial
 | .int i,h=>by have h:i.natAbs<=C9 j:=h;show i.natAbs<=C9 (j+1);unfold C9 at *;omega
 | .str x,h=>⟨by have:=h.1;omega,h.2⟩
 | .tup ds,h=>Plns.up ds h
 | .lst ds,h=>Plns.up ds h
 | .scr _,h=>h.elim
 | .ref _,h=>h.elim
theorem Plns.up:∀ (ds:List D),Plns j ds->Plns (j+1) ds
 | [],_=>trivial
 | d :: ds,h=>⟨Pln.up d h.1,Plns.up ds h.2⟩
end
theorem R5:∀ {ds:List D} {d:D},d∈ds->dp d<=dps ds
 | e :: ds,d,h=>by
  rcases FP.mp h with rfl | h
  ·show dp d<=max (dp d) (dps ds);omega
  ·have:=R5 h;show dp d<=max (dp e) (dps ds);omega
theorem aR:∀ {ds:List D},(∀ d∈ds,dp d<=n)->dps ds<=n
 | [],_=>Gu _
 | d :: ds,h=>by
  have:=h d (FO ..);have:=aR λe a=>h e (FQ _ a);show max (dp d) (dps ds)<=n;omega
theorem N0:∀ (xs ys:List D),szs (xs++ys)=szs xs+szs ys
 | [],_=>by simp [szs]
 | d :: xs,ys=>by
  show sz d+2+szs (xs++ys)=sz d+2+szs xs+szs ys;rw [N0 xs ys];omega
theorem kR:∀ (xs:List D),szs xs.reverse=szs xs
 | []=>rfl
 | d :: xs=>by
  rw [HZ,N0,kR xs];show szs xs+(sz d+2+0)=sz d+2+szs xs;omega
theorem aL:∀ (xs:List D),2 * xs.length<=szs xs
 | []=>FH _
 | d :: xs=>by
  have:=aL xs;show 2 * (xs.length+1)<=sz d+2+szs xs;omega
theorem cz (h:xs.Sublist ys):szs xs<=szs ys:=by
 induction h with
 | slnil=>exact FH _
 | cons d _ ih=>show szs _<=sz d+2+szs _;omega
 | cons_cons d _ ih=>show sz d+2+szs _<=sz d+2+szs _;omega
theorem oM (h:xs[i]?=some d):szs xs=szs (xs.take i)+(sz d+2)+szs (xs.drop (i+1)):=by
 have a:=(Fv.mp h).1;have e:xs=xs.take i++(d :: xs.drop (i+1)):=by
  have:=Fv.mp h
  conv=>lhs;rw [<- List.take_append_drop i xs,List.drop_eq_getElem_cons a]
  rw [this.2]
 conv=>lhs;rw [e,N0]
 show szs _+(sz d+2+szs _)=_;omega
mutual
theorem B4 (S:Sto):∀ (d:D) (n:Nat),Pln j d->dp d<n->d8 n S d=some (py d)
 | .non,n+1,_,_=>rfl
 | .bl _,n+1,_,_=>rfl
 | .int _,n+1,_,_=>rfl
 | .str _,n+1,_,_=>rfl
 | .tup ds,n+1,h,a=>by
  show (e6 (d8 n S) ds).map PyData.tuple=_;rw [bU S ds n h (by have:dps ds+1<n+1:=a;omega)];rfl
 | .lst ds,n+1,h,a=>by
  show (e6 (d8 n S) ds).map PyData.list=_;rw [bU S ds n h (by have:dps ds+1<n+1:=a;omega)];rfl
 | .scr _,_,h,_=>h.elim
 | .ref _,_,h,_=>h.elim
 | .non,0,_,h=>by omega
 | .bl _,0,_,h=>by omega
 | .int _,0,_,h=>by omega
 | .str _,0,_,h=>by omega
 | .tup _,0,_,h=>by omega
 | .lst _,0,_,h=>by omega
theorem bU (S:Sto):∀ (ds:List D) (n:Nat),Plns j ds->dps ds<n->e6 (d8 n S) ds=some (pys ds)
 | [],n,_,_=>rfl
 | d :: ds,n,h,hn=>by
  have hn:max (dp d) (dps ds)<n:=hn;simp only [e6,B4 S d n h.1 (by omega),bU S ds n h.2 (by omega)];rfl
end
theorem pN (h:Asc x):PyData.strOk x=true:=by
 unfold PyData.strOk;rw [Array.all_eq_true'];intro c a;have:=h c (by simpa using a);grind
mutual
theorem O7:∀ d:D,Pln j d->(py d).canLay0=true
 | .non,_=>rfl
 | .bl _,_=>rfl
 | .int _,_=>rfl
 | .str x,h=>by show PyData.canLay0 (.str x)=true;simp only [PyData.canLay0];exact pN h.2
 | .tup ds,h=>by show PyData.canLay0 (.tuple (pys ds))=true;simp only [PyData.canLay0];exact dv ds h
 | .lst ds,h=>by show PyData.canLay0 (.list (pys ds))=true;simp only [PyData.canLay0];exact dv ds h
 | .scr _,h=>h.elim
 | .ref _,h=>h.elim
theorem dv:∀ ds:List D,Plns j ds->PyData.canLayAll0 (pys ds)=true
 | [],_=>rfl
 | d :: ds,h=>by show PyData.canLayAll0 (py d :: pys ds)=true;simp only [PyData.canLayAll0,O7 d h.1,dv ds h.2,IA]
end
mutual
theorem K9:∀ d:D,(py d).depth<=dp d
 | .non=>by show PyData.depth .none<=_;simp [PyData.depth]
 | .bl b=>by show PyData.depth (.bool b)<=_;simp [PyData.depth]
 | .int i=>by show PyData.depth (.int i)<=_;simp [PyData.depth]
 | .str x=>by show PyData.depth (.str x)<=_;simp [PyData.depth]
 | .tup ds=>by show PyData.depth (.tuple (pys ds))<=dps ds+1;simp only [PyData.depth];have:=U8 ds;omega
 | .lst ds=>by show PyData.depth (.list (pys ds))<=dps ds+1;simp only [PyData.depth];have:=U8 ds;omega
 | .scr _=>by show PyData.depth .none<=_;simp [PyData.depth]
 | .ref _=>by show PyData.depth .none<=_;simp [PyData.depth]
theorem U8:∀ ds:List D,PyData.depthAll (pys ds)<=dps ds
 | []=>by show PyData.depthAll []<=0;simp [PyData.depthAll]
 | d :: ds=>by
  have:=K9 d;have:=U8 ds;show PyData.depthAll (py d :: pys ds)<=max (dp d) (dps ds);simp only [PyData.depthAll];omega
end
theorem kK {i:Int} (h:i.natAbs<=C9 j) (hj:j<=1000):decide (i.natAbs.log2<1920)=true:=by
 refine FM ?_;by_cases z:i.natAbs=0
 ·rw [z];decide
 ·have:i.natAbs<2 ^ 140:=by unfold C9 at h;omega
  have:=(Nat.log2_lt z).mpr this;omega
mutual
theorem jV (f:j<=1000):∀ d:D,Pln j d->(py d).showable=true/\(py d).hasDict=false/\(py d).shown.length<=sz d
 | .non,_=>⟨rfl,rfl,by show (PyData.shown .none).length<=5;decide⟩
 | .bl b,_=>⟨rfl,rfl,by show (PyData.shown (.bool b)).length<=5;cases b <;> decide⟩
 | .int i,h=>⟨kK h f,rfl,by
   have h:i.natAbs<=C9 j:=h;have e:=int_text_length_le10 (k:=40) (a:=i) (by decide) (by unfold C9 at h;omega);show (Str.ofString (toString i)).length<=60;rw [PySem.ofString_length];omega⟩
 | .str x,h=>⟨rfl,rfl,by
   show (PyData.shown (.str x)).length<=10 * x.length+2;rw [PyData.shown_str];exact StrLaws.reprText_len x λc m=>by have:=h.2 c m;omega⟩
 | .tup ds,h=>by
  obtain ⟨a,b,c⟩:=ar f ds h;refine ⟨by show PyData.showable (.tuple (pys ds))=true;simp only [PyData.showable];exact a,by show PyData.hasDict (.tuple (pys ds))=false;simp only [PyData.hasDict];exact b,?_⟩;have g:=tupleText_len_le (PyData.shownAll (pys ds));have l:=HN (pys ds);show (PyData.shown (.tuple (pys ds))).length<=szs ds+3;simp only [PyData.shown];omega
 | .lst ds,h=>by
  obtain ⟨a,b,c⟩:=ar f ds h;refine ⟨by show PyData.showable (.list (pys ds))=true;simp only [PyData.showable];exact a,by show PyData.hasDict (.list (pys ds))=false;simp only [PyData.hasDict];exact b,?_⟩;have g:=listText_len_le (PyData.shownAll (pys ds));have l:=HN (pys ds);show (PyData.shown (.list (pys ds))).length<=szs ds+3;simp only [PyData.shown];omega
 | .scr _,h=>h.elim
 | .ref _,h=>h.elim
theorem ar (hj:j<=1000):∀ ds:List D,Plns j ds->PyData.showableAll (pys ds)=true/\PyData.hasDictAll (pys ds)=false/\((PyData.shownAll (pys ds)).map (·.length)).sum+2 * (pys ds).length<=szs ds
 | [],_=>⟨rfl,rfl,by show ((PyData.shownAll []).map (·.length)).sum+2 * 0<=0;simp [PyData.shownAll]⟩
 | d :: ds,h=>by
  obtain ⟨a,b,c⟩:=jV hj d h.1;obtain ⟨a2,b2,c2⟩:=ar hj ds h.2;refine ⟨by show PyData.showableAll (py d :: pys ds)=true;simp only [PyData.showableAll,a,a2,IA],by show PyData.hasDictAll (py d :: pys ds)=false;simp only [PyData.hasDictAll,b,b2,Bool.or_self],?_⟩;show ((PyData.shownAll (py d :: pys ds)).map (·.length)).sum+2 * (py d :: pys ds).length<=sz d+2+szs ds;simp only [PyData.shownAll,Gk,List.sum_cons,Hs];omega
end
structure Any (j N:Nat) (d:D):Prop where
 pl:Pln j d
 dp:dp d<=3+j
 sz:sz d<=N
theorem eG (h:Any j N d) (i:j<=40) (g:N<=10000000) (S:Sto):X7 d S=.ok (.str (py d).shown) S:=by
 obtain ⟨a,b,c⟩:=jV (by omega) d h.pl;have e:=B4 S d 64 h.pl (by have:=h.dp;omega);have f:X7 d S=(match d8 64 S d with
  | some p=>(if Shows p then ret (D.str p.shown) else bad) S
  | none=>.bad):=rfl
 rw [f,e];show (if Shows (py d) then ret (D.str (py d).shown) else bad) S=_;rw [if_pos ⟨a,b,by have:=K9 d;have:=h.dp;omega,by have:=h.sz;rw [Gf];omega⟩];rfl
theorem iR (h:Any j N (.tup ds)) (hj:j<=40) (S:Sto):a9 .NotEq (.tup ds) (.tup []) S=.ok (.bl (!ds.isEmpty)) S:=by
 show eqP true (.tup ds) (.tup []) S=_;unfold eqP;rw [B4 S (.tup ds) 64 h.pl (by have:=h.dp;omega)];show (if PyData.canLay0 (py (.tup ds))=true/\PyData.canLay0 (.tuple [])=true/\min (PyData.depth (py (.tup ds))) (PyData.depth (.tuple []))<=60 then ret (D.bl (!PyData.eqv (py (.tup ds)) (.tuple []))) else bad) S=_;have hd:PyData.depth (.tuple [])<=60:=by simp [PyData.depth,PyData.depthAll]
 rw [if_pos ⟨O7 _ h.pl,rfl,by omega⟩];cases ds <;> rfl
def inW (ws:List Str):D->Bool
 | .str x=>decide (x∈ws)
 | _=>false
theorem uF (ws:List Str) (x:Str):((ws.map PyData.str).any λy=>PyData.eqv y (.str x))=decide (x∈ws):=by
 induction ws with
 | nil=>rfl
 | cons w ws a=>
  rw [Gk,Hq,a];rw [HS,Jf,FW,FW,FP];have:PyData.eqv (.str w) (.str x)=(w==x):=by simp only [PyData.eqv]
  rw [this];constructor
  ·grind
  ·grind
theorem uD (a:∀ x,p≠.str x) (ws:List Str):((ws.map PyData.str).any λy=>PyData.eqv y p)=false:=by
 induction ws with
 | nil=>rfl
 | cons w ws b=>
  rw [Gk,Hq,b,Bool.or_false];cases p <;> first | (simp only [PyData.eqv];done) | exact absurd rfl (a _)
theorem BL (h:Pln j d) (ws:List Str):((ws.map PyData.str).any λy=>PyData.eqv y (py d))=inW ws d:=by
 cases d with
 | str x=>exact uF ws x
 | scr _=>exact h.elim
 | ref _=>exact h.elim
 | _=>exact uD (λx e=>by cases e) ws
theorem cL (n:Nat) (S:Sto):∀ ws:List Str,e6 (d8 (n+1) S) (ws.map D.str)=some (ws.map PyData.str)
 | []=>rfl
 | w :: ws=>by
  have e:d8 (n+1) S (.str w)=some (.str w):=rfl;simp only [Gk,e6,e,cL n S ws]
theorem gC:∀ ws:List Str,(∀ w∈ws,Asc w)->PyData.canLayAll0 (ws.map PyData.str)=true
 | [],_=>rfl
 | w :: ws,h=>by simp only [Gk,PyData.canLayAll0,PyData.canLay0,pN (h w (FO ..)),gC ws λv a=>h v (FQ _ a),IA]
theorem zY (h:Any j N d) (b:j<=40) {ws:List Str} (a:∀ w∈ws,Asc w) (S:Sto):a9 .In d (.tup (ws.map D.str)) S=.ok (.bl (inW ws d)) S:=by
 show inD false d (.tup (ws.map D.str)) S=_;unfold inD;have e:d8 64 S (.tup (ws.map D.str))=some (.tuple (ws.map PyData.str)):=by
  show (e6 (d8 63 S) (ws.map D.str)).map PyData.tuple=_;rw [cL 62 S ws];rfl
 rw [B4 S d 64 h.pl (by have:=h.dp;omega),e];show Z6 false (py d) (ws.map PyData.str) S=_;unfold Z6;have hd:=K9 d;rw [if_pos ⟨O7 d h.pl,gC ws a,by have:=h.dp;omega⟩,BL h.pl];rfl
theorem vV (b:Asc x) (d:Asc y):Asc (x++y):=λc a=>by
 have:(x++y).cps.toList=x.cps.toList++y.cps.toList:=by show (x.cps++y.cps).toList=_;simp
 rw [this] at a;rcases Gh.mp a with h | h
 ·exact b c h
 ·exact d c h
theorem tU (i:Int):Asc (Str.ofString (toString i)):=by
 intro c hc;rw [signs_ofString] at hc;obtain ⟨z,hz,rfl⟩:=GI.mp hc;have dig:∀ n:Nat,∀ z∈(toString n).toList,z.toNat<128:=λn z hz=>by
  have:z∈Nat.toDigits 10 n:=by
   have e:(toString n).toList=Nat.toDigits 10 n:=by show (Nat.repr n).toList=_;simp [Nat.repr]
   rw [e] at hz;exact hz
  have:=Nat.isDigit_of_mem_toDigits (by decide) (by decide) this;unfold Char.isDigit at this;simp at this;have h2:=this.2;show z.val.toNat<128;have:z.val.toNat<=57:=h2;omega
 cases i with
 | ofNat n=>exact dig n z hz
 | negSucc n=>
  have e:(toString (Int.negSucc n)).toList='-' :: (toString (n+1)).toList:=by
   show ("-" ++ toString (n+1)).toList=_;simp
  rw [e] at hz;rcases FP.mp hz with rfl | hz
  ·decide
  ·exact dig _ z hz
theorem fm (n:Nat) (S:Sto):∀ a:List Bool,e6 (d8 (n+1) S) (a.map D.bl)=some (a.map PyData.bool)
 | []=>rfl
 | b :: a=>by
  have e:d8 (n+1) S (.bl b)=some (.bool b):=rfl;simp only [Gk,e6,e,fm n S a]
theorem jm:∀ a:List Bool,PyData.canLayAll0 (a.map PyData.bool)=true
 | []=>rfl
 | b :: a=>by simp only [Gk,PyData.canLayAll0,PyData.canLay0,jm a,IA]
theorem jd (b:Bool):∀ a:List Bool,((a.map PyData.bool).any λy=>PyData.eqv y (.bool b))=a.any (·==b)
 | []=>rfl
 | x :: a=>by simp only [Gk,Hq,jd b a,PyData.eqv]
theorem rh (c b:Bool) (a:List Bool) (S:Sto):inD c (.bl b) (.lst (a.map D.bl)) S=.ok (.bl (if c then !(a.any (·==b)) else a.any (·==b))) S:=by
 have e:d8 64 S (.lst (a.map D.bl))=some (.list (a.map PyData.bool)):=by
  show (e6 (d8 63 S) (a.map D.bl)).map PyData.list=_;rw [fm 62 S a];rfl
 unfold inD;rw [e];show Z6 c (.bool b) (a.map PyData.bool) S=_;unfold Z6;have hd:PyData.depth (.bool b)=0:=by simp [PyData.depth]
 rw [if_pos ⟨rfl,jm a,by rw [hd];omega⟩,jd];rfl
theorem vQ (bs:List Bool) (S:Sto):a9 .NotIn (.bl false) (.lst (bs.map D.bl)) S=.ok (.bl (bs.all id)) S:=by
 show inD true _ _ S=_;rw [rh];congr 2;rw [if_pos rfl];induction bs with
 | nil=>rfl
 | cons b bs ih=>cases b <;> simp_all
theorem jj:∀ a:List Bool,U3 (a.map D.bl)=some a
 | []=>rfl
 | b :: a=>by simp only [Gk,U3,jj a,Ki]
theorem gN (a:List Bool) (S:Sto):mh (.lst (a.map D.bl)) S=.ok (.bl (a.all id)) S:=by
 show bind (lstOf (.lst (a.map D.bl))) _ S=_;rw [a7 (show lstOf (.lst (a.map D.bl)) S=.ok (a.map D.bl) S from rfl),jj];rfl
mutual
noncomputable def plB:D->Bool
 | .non=>true
 | .bl _=>true
 | .int i=>decide (i.natAbs<=C9 0)
 | .str x=>decide (x.length<=45)&&x.cps.toList.all (· < 128)
 | .tup ds=>qI ds
 | .lst ds=>qI ds
 | .scr _=>false
 | .ref _=>false
noncomputable def qI:List D->Bool
 | []=>true
 | d :: ds=>plB d&&qI ds
end
mutual
theorem rV:∀ d:D,plB d=true->Pln 0 d
 | .non,_=>trivial
 | .bl _,_=>trivial
 | .int i,h=>by
  have h:decide (i.natAbs<=C9 0)=true:=h;exact (Gg h:i.natAbs<=C9 0)
 | .str x,h=>by
  have h:(decide (x.length<=45)&&x.cps.toList.all (· < 128))=true:=h;rw [FG,FW,FX] at h;exact ⟨h.1,λc hc=>Gg (h.2 c hc)⟩
 | .tup ds,h=>dF ds h
 | .lst ds,h=>dF ds h
 | .scr _,h=>Bool.noConfusion h
 | .ref _,h=>Bool.noConfusion h
theorem dF:∀ ds:List D,qI ds=true->Plns 0 ds
 | [],_=>trivial
 | d :: ds,h=>by
  have h:(plB d&&qI ds)=true:=h;rw [FG] at h;exact ⟨rV d h.1,dF ds h.2⟩
end
def smB (n N:Nat) (d:D):Bool:=plB d&&decide (dp d<=n)&&decide (sz d<=N)
theorem u8 (h:smB n N d=true):Pln 0 d/\dp d<=n/\sz d<=N:=by
 unfold smB at h;rw [FG,FG,FW,FW] at h;exact ⟨rV d h.1.1,h.1.2,h.2⟩
theorem dQ (ds:List D) (lo a:Option Int):(u6 ds lo a).Sublist ds:=(IJ _ _).trans (JM _ _)
theorem Pln.ups {d:D} (h:Pln 0 d):Pln j d:=by
 induction j with
 | zero=>exact h
 | succ j a=>exact a.up
theorem aE (h:∀ d∈xs,d∈ys):dps xs<=dps ys:=aR λd hd=>R5 (h d hd)
theorem U4 (n:Nat) (S:Sto):∀ ns:List Int,e6 (d8 (n+1) S) (ns.map D.int)=some (ns.map PyData.int)
 | []=>rfl
 | b :: a=>by
  have e:d8 (n+1) S (.int b)=some (.int b):=rfl;simp only [Gk,e6,e,U4 n S a]
theorem P1:∀ ns:List Int,PyData.canLayAll0 (ns.map PyData.int)=true
 | []=>rfl
 | b :: a=>by simp only [Gk,PyData.canLayAll0,PyData.canLay0,P1 a,IA]
theorem fT {i:Nat} (h:i<=ds.length):u6 ds none (some (i:Int))=ds.take i:=by
 have e:HT.sIx ds.length ds.length (some (i:Int))=i:=by
  show (if (i:Int)<0 then ((i:Int)+(ds.length:Int)).toNat else min (i:Int).toNat ds.length)=i;rw [if_neg (by omega)];simp;omega
 unfold u6;rw [e,HT.sIx_none];simp
theorem fG {i:Nat} (h:i<=ds.length):u6 ds (some (i:Int)) none=ds.drop i:=by
 have e:HT.sIx ds.length 0 (some (i:Int))=i:=by
  show (if (i:Int)<0 then ((i:Int)+(ds.length:Int)).toNat else min (i:Int).toNat ds.length)=i;rw [if_neg (by omega)];simp;omega
 unfold u6;rw [e,HT.sIx_none];rw [HM (by simp)]
theorem cat_tup (h:xs.length+ys.length<=sizeLine):i9 (.tup xs) (.tup ys) S=.ok (.tup (xs++ys)) S:=by
 show (if xs.length+ys.length<=sizeLine then ret (D.tup (xs++ys)) else bad) S=_;rw [if_pos h];rfl
theorem B0 (ds:List D) (S:Sto):k8 (.tup ds) S=.ok (.int ds.length) S:=rfl
theorem M3 (ds:List D) (S:Sto):G9 (.tup ds) S=.ok (bv ds,ds.length+1) S:=rfl
theorem q9 {n:Nat} (h:n<1000) (S:Sto):j6 [.int (n:Int)] S=.ok (E3 0 n,n+1) S:=by
 unfold j6;have a:(n:Int)<1000:=by omega
 have b:(0:Int)<=n:=by omega
 have c:-(2 ^ 62)<=(n:Int)/\(n:Int)<2 ^ 62:=⟨Kf (by decide) b,Int.lt_trans a (by decide)⟩;simp only [if_pos c,GX];rfl
theorem j8 {i:Nat} {d:D} (S:Sto) (h:ds[i]?=some d):ixD (.tup ds) (.int (i:Int)) S=.ok d S:=by
 show eE (atI ds (i:Int)) S=_;rw [aA h];rfl
theorem mU {i:Nat} {d:D} (S:Sto) (h:ds[i]?=some d):ixD (.lst ds) (.int (i:Int)) S=.ok d S:=by
 show eE (atI ds (i:Int)) S=_;rw [aA h];rfl
theorem zf {i n:Nat} {d:D} {S:Sto} (e:S[n]?=some (.lst ds)) (h:ds[i]?=some d):ixD (.ref n) (.int (i:Int)) S=.ok d S:=by
 simp only [ixD,e,aA h];rfl
theorem y4 {α:Type} {src:Src} {l:List α} {h g:α->D} {p:α->Bool} {t:D->M Bool} {f:D->M D} {S:Sto} (hs:∀ i,src i S=some (l.map h)[i]?) (hl:l.length<sizeLine) (ht:∀ a∈l,t (h a) S=.ok (p a) S) (hf:∀ a∈l,p a=true->f (h a) S=.ok (g a) S):f6 src t f (l.length+1) 0 [] S=.ok ((l.filter p).map g) S:=by
 obtain ⟨es,S',e,e1,e2⟩:=Ok.comp (src:=src) (t:=t) (f:=f) (n:=l.length) (λi S' es=>S'=S/\es=((l.take i).filter p).map g) (λS' es q=>by obtain ⟨q,_⟩:=q;subst q;rw [hs,Gr (by simp)])
  (λi S' es hi ⟨h1,h2⟩=>by
   subst h1 h2;refine ⟨h l[i],?_,p l[i],S',ht _ (GC hi),?_⟩
   ·rw [hs,FY,Fy hi];rfl
   ·have ta:l.take (i+1)=l.take i++[l[i]]:=HD hi;cases hp:p l[i] with
    | true=>
     dsimp only;rw [if_pos rfl];refine ⟨g l[i],S',hf _ (GC hi) hp,?_,rfl,?_⟩
     ·rw [Fu];have:=Ha p (l.take i);have:=List.length_take_le i l;omega
     ·rw [ta,HP,GN,Kc hp];rfl
    | false=>
     dsimp only;rw [if_neg Fz];refine ⟨rfl,?_⟩;rw [ta,HP,IH (by rw [hp];exact Fz),List.filter_nil,Gv]) (S:=S) ⟨rfl,rfl⟩
 rw [e];subst e1 e2;rw [List.take_length]
theorem aS (n i:Nat) (S:Sto):E3 0 n i S=some ((List.range n).map λ(k:Nat)=>D.int (k:Int))[i]?:=by
 show some (if i<n then some (D.int (0+i)) else none)=_;grind
theorem cZ (e:S[n]?=some (.lst ds)) (i:Nat):W8 n i S=some ds[i]?:=by
 simp only [W8,e]
theorem h8 {α β:Type} {f:α->β} {l:List α} {i:Nat} {a:α} (h:l[i]?=some a):(l.map f)[i]?=some (f a):=by rw [FY,h];rfl
theorem gW (x:Int):∀ ns:List Int,((ns.map PyData.int).any λy=>PyData.eqv y (.int x))=decide (x∈ns)
 | []=>by simp
 | y :: ns=>by
  simp only [Gk,Hq,gW x ns,PyData.eqv];rw [HS,Jf,FW,FW,FP];constructor
  ·grind
  ·grind
theorem jr (x:Int) (ns:List Int) (S:Sto):a9 .In (.int x) (.tup (ns.map D.int)) S=.ok (.bl (decide (x∈ns))) S:=by
 have e:d8 64 S (.tup (ns.map D.int))=some (.tuple (ns.map PyData.int)):=by
  show (e6 (d8 63 S) (ns.map D.int)).map PyData.tuple=_;rw [U4 62 S ns];rfl
 show inD false (.int x) (.tup (ns.map D.int)) S=_;unfold inD;rw [e];show Z6 false (.int x) (ns.map PyData.int) S=_;unfold Z6;have hd:PyData.depth (.int x)=0:=by simp [PyData.depth]
 rw [if_pos ⟨rfl,P1 ns,by rw [hd];omega⟩,gW];rfl
theorem Q7 (e:S[n]?=some (.lst es)):lstOf (.ref n) S=.ok es S:=by simp only [lstOf,e]
theorem Cb {n j:Nat} {es:List D} {y:D} (e:S[n]?=some (.lst es)) (h:es[j]?=some y) (hs:j<1000):popD (.ref n) [.int (j:Int)] S=.ok y (S.set n (.lst (es.eraseIdx j))):=by
 have hj:=(Fv.mp h).1;have c:-(2 ^ 63)<=(j:Int)/\(j:Int)<2 ^ 63:=⟨Kf (by decide) (Int.natCast_nonneg j),Int.lt_trans (show (j:Int)<1000 by omega) (by decide)⟩;have i:ixN es.length (j:Int)=some j:=by
  unfold ixN;rw [if_pos (by omega)];simp only [GX];rw [if_pos (by omega)]
 simp only [popD,e,if_pos c,i,h]
theorem nw (e:S[n]?=some (.lst es)):k8 (.ref n) S=.ok (.int es.length) S:=by simp only [k8,e]
theorem bp {y:D} (e:S[n]?=some (.lst es)) (a:es.length<sizeLine):E5 (.ref n) [y] S=.ok .non (S.set n (.lst (es++[y]))):=by simp only [E5,e,if_pos a]
theorem Plns.sub {xs ys:List D} (h:Plns j ys) (hs:∀ d∈xs,d∈ys):Plns j xs:=Plns.of λd hd=>h.mem d (hs d hd)
theorem jB (x y:Str):(x++y).length=x.length+y.length:=by show (x.cps++y.cps).size=x.cps.size+y.cps.size;simp
def Fw (ns:List Int) (p N:Nat) (S:Sto):Prop:=∃ a l t:Int,S[p]?=some (m4 ns a l t)/\0<=a/\0<=l/\0<=t/\t+N<1000000
theorem Fw.less {p N K:Nat} {S:Sto} (h:Fw ns p N S) (g:K<=N):Fw ns p K S:=by
 obtain ⟨a,l,t,e,b,d,c,f⟩:=h;exact ⟨a,l,t,e,b,d,c,by omega⟩
theorem Fw.keep (h:Fw ns p N S) (e:S'[p]?=S[p]?):Fw ns p N S':=by
 obtain ⟨a,l,t,c,b⟩:=h;exact ⟨a,l,t,by rw [e];exact c,b⟩
theorem Fw.lt (h:Fw ns p N S):p<S.length:=by
 obtain ⟨a,l,t,e,_⟩:=h;grind
theorem Fw.push (h:Fw ns p N S) (o:O):Fw ns p N (S++[o]):=h.keep (by rw [FI h.lt])
theorem nt {ns:List Int} {p N m:Nat} {S:Sto} (h:Fw ns p (N+1) S) (hm:0<m) (hm2:m<1073741824):Ok (kF (.ref p) (.int (m:Int))) S λd S'=>∃ r:Nat,d=.int (r:Int)/\r<m/\Fw ns p N S'/\S'.length=S.length/\∀ q,q≠p->S'[q]?=S[q]?:=by
 obtain ⟨a,l,t,e,h1,h2,h3,h4⟩:=h;obtain ⟨r,a',l',e1,r0,r1,ha,hl⟩:=pQ (m:=(m:Int)) e h1 h2 h3 (by omega) (by omega) (by omega);obtain ⟨r,rfl⟩:=Hf r0;refine ⟨_,_,e1,r,rfl,by omega,⟨a',l',t+1,?_,ha,hl,by omega,by omega⟩,by simp,λq hq=>?_⟩
 ·rw [Ge (Fv.mp e).1]
 ·rw [FS (Ne.symm hq)]
def Xn {a:Type} (m:M a) (S:Sto) (Q:Nat->Sto->Prop):Prop:=∃ n S',m S=.exn n S'/\Q n S'
theorem Xn.bind {k:α->M β} {S:Sto} {Q:Nat->Sto->Prop} (h:Xn m S Q):Xn (L3.bind m k) S Q:=by
 obtain ⟨n,S',e,q⟩:=h;exact ⟨n,S',by unfold L3.bind;rw [e],q⟩
theorem Xn.ok {k:α->M β} {S:Sto} {Q:Nat->Sto->Prop} (h:Ok m S λa S1=>Xn (k a) S1 Q):Xn (L3.bind m k) S Q:=by
 obtain ⟨a,S1,e,n,S',b,q⟩:=h;exact ⟨n,S',by unfold L3.bind;rw [e];exact b,q⟩
theorem Xn.cg (e:m=m') (h:Xn m' S Q):Xn m S Q:=e▸h
theorem Ok.nx (h:Ok m S Q):Ok (L3.nx m) S Q:=by
 obtain ⟨a,S1,e,q⟩:=h;exact ⟨a,S1,by unfold L3.nx;rw [e],q⟩
theorem Ok.try_ {b:Nat->Bool} {c:Option Nat} {ρ:L3.Env} {S:Sto} {Q:Fl->Sto->Prop} (k:Ok (g ρ) S Q):Ok (Z3 g b c h ρ) S Q:=by
 obtain ⟨a,S1,e,q⟩:=k;exact ⟨a,S1,by unfold Z3;rw [e],q⟩
theorem Ok.caught {a:Nat->Bool} {b:Option Nat} {ρ:L3.Env} {S:Sto} {Q:Fl->Sto->Prop} (k:Xn (g ρ) S λn S1=>∃ c fs,S1[n]?=some (.exc c fs)/\a c=true/\Ok (h (rl b n ρ)) S1 λd S2=>Q (jA b d) S2):Ok (Z3 g a b h ρ) S Q:=by
 obtain ⟨n,S1,e,c,fs,j,hs,i⟩:=k;obtain ⟨d,S2,f,q⟩:=i;refine ⟨jA b d,S2,?_,q⟩;unfold Z3;rw [e];simp only [j,hs,Ky];unfold L3.bind L3.nx;rw [f];rfl
def nxt {d:Type} (q:EvK) (e:Lc) (c:List Stmt) (k:Fl->M d):Fl->M d:=λb=>match b with
 | .nx a=>i4 q e c a k
 | b=>k b
section
variable {α:Type} {q:EvK} {lc:Lc} {st:Stmt} {sts:List Stmt} {ρ:L3.Env} {k:Fl->M α} {S:Sto} {Q:α->Sto->Prop} {P:Nat->Sto->Prop}
theorem Ok.first (h:Ok (q.s lc st ρ (nxt q lc sts k)) S Q):Ok (i4 q lc (st :: sts) ρ k) S Q:=h
theorem Ok.nxt (h:Ok (q.s lc st ρ (L3.nxt q lc sts k)) S Q):Ok (L3.nxt q lc (st :: sts) k (.nx ρ)) S Q:=h
theorem Xn.first (h:Xn (q.s lc st ρ (nxt q lc sts k)) S P):Xn (i4 q lc (st :: sts) ρ k) S P:=h
theorem Xn.nxt (h:Xn (q.s lc st ρ (L3.nxt q lc sts k)) S P):Xn (L3.nxt q lc (st :: sts) k (.nx ρ)) S P:=h
theorem Ok.pos [Decidable c] {a b:M α} (h:c) (k:Ok a S Q):Ok (if c then a else b) S Q:=by rw [if_pos h];exact k
theorem Ok.neg [Decidable c] {a b:M α} (h:¬ c) (k:Ok b S Q):Ok (if c then a else b) S Q:=by rw [if_neg h];exact k
theorem Xn.pos [Decidable c] {a b:M α} (h:c) (k:Xn a S P):Xn (if c then a else b) S P:=by rw [if_pos h];exact k
theorem Xn.neg [Decidable c] {a b:M α} (h:¬ c) (k:Xn b S P):Xn (if c then a else b) S P:=by rw [if_neg h];exact k
end
def fin {b:Type} (κ:Fl->M b):Fl->M b:=λa=>match a with
 | .nx ρ=>κ (.nx ρ)
 | a=>κ a
theorem Xn.cgS (e:m S=m' S) (h:Xn m' S Q):Xn m S Q:=by
 obtain ⟨n,S1,a,q⟩:=h;exact ⟨n,S1,by rw [e];exact a,q⟩
theorem Xn.eq {k:α->M β} {S S1:Sto} {a:α} {Q:Nat->Sto->Prop} (e:m S=.ok a S1) (h:Xn (k a) S1 Q):Xn (L3.bind m k) S Q:=Xn.ok ⟨a,S1,e,h⟩
theorem Xn.mono (h:Xn m S Q) (i:∀ n S1,Q n S1->Q' n S1):Xn m S Q':=by
 obtain ⟨n,S1,e,q⟩:=h;exact ⟨n,S1,e,i _ _ q⟩
theorem fJ {i:Nat} {x:D} {S:Sto} (h:i<ds.length) (n:ds.length<=1000) :
  Ok (bind (Z0 (.int (i:Int))) λc=>bind (slD (.tup ds) none c) λk=>bind (i9 k (.tup [x])) λb=>bind (i9 (.int (i:Int)) (.int 1)) λj=>bind (Z0 j) λf=>bind (slD (.tup ds) f none) λx6=>bind (i9 b x6) λx7=>ret x7) S λd S'=>d=.tup (ds.set i x)/\S'=S:=by
 have m:(1001:Nat)<=sizeLine:=by decide
 have e:((i:Int)+1)=((i+1:Nat):Int):=by omega
 have l:u6 ds none (some (i:Int))=ds.take i:=fT (by omega);have g:u6 ds (some ((i:Int)+1)) none=ds.drop (i+1):=by rw [e];exact fG (by omega)
 refine Ok.eq rfl (Ok.eq (a:=.tup (ds.take i)) (by rw [<- l];rfl) (Ok.eq (cat_tup (by simp;omega)) (Ok.eq rfl (Ok.eq rfl (Ok.eq (a:=.tup (ds.drop (i+1))) (by rw [<- g];rfl) (Ok.eq (cat_tup (by simp;omega)) (Ok.ret ⟨?_,rfl⟩)))))));rw [List.set_eq_take_append_cons_drop,if_pos h,GG];rfl
theorem jT (S:Sto) (a b:O):(S++[a]).set S.length b=S++[b]:=by simp
theorem zW {r:Nat} (h:r<100):Pln 0 (.int (r:Int)):=by
 show ((r:Int)).natAbs<=C9 0;have:C9 0≥100:=by decide +kernel
 omega
theorem jK:∀ {ds:List D},(∀ d∈ds,sz d<=n)->szs ds<=(n+2) * ds.length
 | [],_=>FH _
 | d :: ds,h=>by
  have c:=h d (by simp);have b:=jK (ds:=ds) λx a=>h x (by simp [a]);show sz d+2+szs ds<=(n+2) * (ds.length+1);rw [Nat.mul_add];omega
theorem Cz {ds:List D} {v:D} (e:S[n]?=some (.lst ds)) (h:i<ds.length):K3 (.ref n) (.int (i:Int)) v S=.ok .non (S.set n (.lst (ds.set i v))):=by
 have ix:ixN ds.length (i:Int)=some i:=by
  unfold ixN;rw [if_pos (by omega)];simp only [GX];rw [if_pos (by omega)]
 simp only [K3,e,ix]
theorem rg (e:S[n]?=some (.lst ds)):t6 (.ref n) S=.ok (.tup ds) S:=a7 (by simp only [G5,lstOf,e])
theorem rP (ns:List Int):∃ ms:List Int,u6 (ns.map D.int) none (some 63)=ms.map D.int:=⟨(ns.drop (HT.sIx ns.length 0 none)).take (HT.sIx ns.length ns.length (some 63)-HT.sIx ns.length 0 none),by simp [u6,List.map_drop,List.map_take]⟩
theorem fk (h:n<=6):n<sizeLine:=Nat.lt_of_le_of_lt h (by decide)
theorem t9 (n:Nat) (S:Sto):E3 0 n n S=some none:=by
 show some (if n<n then _ else none)=some none;grind
theorem C7 {n i:Nat} (h:i<n) (S:Sto):E3 0 n i S=some (some (.int (i:Int))):=by rw [aS,h8 (List.getElem?_range h)]
theorem Y9:k8 (.tup ds) S=.ok (.int ds.length) S:=rfl
structure Sml (n N:Nat) (d:D):Prop where
 pl:Pln 0 d
 dp:dp d<=n
 sz:sz d<=N
def Smls (n N:Nat) (ds:List D):Prop:=∀ d∈ds,Sml n N d
theorem Smls.nil:Smls n N []:=λd h=>by cases h
theorem Smls.cons (h:Sml n N d) (hs:Smls n N ds):Smls n N (d :: ds):=λx a=>by
 rcases FP.mp a with z | z
 ·rw [z];exact h
 ·exact hs x z
theorem Smls.map {b:Type} {n N:Nat} {f:b->D} {l:List b} (h:∀ a∈l,Sml n N (f a)):Smls n N (l.map f):=λx c=>by
 obtain ⟨a,d,rfl⟩:=GI.mp c;exact h a d
theorem Sml.mono {d:D} (h:Sml n N d) (b:n<=n') (a:N<=N'):Sml n' N' d:=⟨h.pl,Gd h.dp b,Gd h.sz a⟩
theorem Sml.up {n N a N':Nat} {d:D} (h:Sml n N d) (c:n<=a:=by decide) (b:N<=N':=by decide):Sml a N' d:=h.mono c b
theorem Sml.tup {ds:List D} (h:Smls n N ds) (a:ds.length<=m):Sml (n+1) ((N+2) * m+3) (.tup ds):=by
 have s:=jK λd hd=>(h d hd).sz;have b:=aR λd hd=>(h d hd).dp;refine ⟨Plns.of λd hd=>(h d hd).pl,by show dps ds+1<=n+1;omega,?_⟩;show szs ds+3<=_;have:=Nat.mul_le_mul_left (N+2) a;omega
theorem Sml.nat {n N i:Nat} (h:i<100) (a:60<=N:=by decide):Sml n N (.int (i:Int)):=⟨zW h,Gu _,a⟩
theorem Sml.non {n N:Nat} (a:5<=N:=by decide):Sml n N .non:=⟨trivial,Gu _,a⟩
theorem Sml.w (h:smB n N d=true:=by decide +kernel):Sml n N d:=⟨(u8 h).1,(u8 h).2.1,(u8 h).2.2⟩
theorem Sml.any (h:Sml n N d) (hn:n<=43):Any 40 N d:=⟨h.pl.ups,by have:=h.dp;omega,h.sz⟩
theorem D3 (a b:Int) (S:Sto):a9 .Eq (.int a) (.int b) S=.ok (.bl (decide (a=b))) S:=rfl
theorem wz (a b:Int) (S:Sto):a9 .NotEq (.int a) (.int b) S=.ok (.bl (!decide (a=b))) S:=rfl
theorem cV (a b:Int) (S:Sto):a9 .LtE (.int a) (.int b) S=.ok (.bl (decide (a<=b))) S:=rfl
theorem DA (a b:Int) (S:Sto):a9 .GtE (.int a) (.int b) S=.ok (.bl (decide (b<=a))) S:=rfl
theorem fN (a b:Int) (S:Sto):a9 .Gt (.int a) (.int b) S=.ok (.bl (decide (b<a))) S:=rfl
theorem v1 (a b:Nat) (S:Sto):i9 (.int (a:Int)) (.int (b:Int)) S=.ok (.int ((a+b:Nat):Int)) S:=by
 show R.ok (D.int ((a:Int)+(b:Int))) S=_;grind
theorem bV {a b:Nat} (h:b<=a) (S:Sto):K1 (.int (a:Int)) (.int (b:Int)) S=.ok (.int ((a-b:Nat):Int)) S:=by
 show R.ok (D.int ((a:Int)-(b:Int))) S=_;grind
theorem nx_bind {k:α->M β} {S:Sto} {Q:β->Sto->Prop} (h:Ok m S λa S1=>Ok (k a) S1 Q):Ok (L3.bind (L3.nx m) k) S Q:=Ok.bind (Ok.nx h)
theorem j4 (h:Ok m S λd S'=>d=a/\S'=S):m S=.ok a S:=by
 obtain ⟨d,S',e,rfl,rfl⟩:=h;exact e
theorem raise_k {κ:Fl->M α} (b:ds.length=fs.length) (a:ds.all (A9 S)=true):Xn (L3.bind (N7 c fs ds) λd=>L3.bind (A3 d) κ) S λn S'=>n=S.length/\S'=S++[.exc c (fs.zip ds)]:=by
 refine Xn.ok ⟨_,_,zL b a,Xn.bind ⟨S.length,S++[.exc c (fs.zip ds)],?_,rfl,rfl⟩⟩;simp [A3]
theorem Ok.loop {n:Nat} (I:Nat->L3.Env->Sto->Prop) (f:∀ ρ S,I n ρ S->src n S=some none)
  (e:∀ i ρ S,i<n->I i ρ S->∃ d b,src i S=some (some d)/\tg d ρ=some b/\Ok (body b) S λc S'=>∃ a,(c=.nx a\/c=.ct a)/\I (i+1) a S') {ρ:L3.Env} {S:Sto} (h:I 0 ρ S) :
  Ok (i6 src tg body (n+1) 0 ρ) S λc S'=>∃ a,c=.nx a/\I n a S':=by
 refine (Ok.for_ I (λ_ _=>False) (λ_ _=>False) f (λi ρ S l h=>?_) n 0 ρ S (by omega) h).mono ?_
 ·obtain ⟨d,b,g,j,k⟩:=e i ρ S l h;refine ⟨d,b,g,j,k.mono ?_⟩;rintro c S' ⟨a,rfl | rfl,q⟩
  ·exact q
  ·exact q
 ·grind
theorem Xn.for_ {i0:Nat} (I:Nat->L3.Env->Sto->Prop)
  (e:∀ i ρ S,i<i0->I i ρ S->∃ d a,src i S=some (some d)/\tg d ρ=some a/\Ok (body a) S λl S'=>∃ c,l=.nx c/\I (i+1) c S')
  (f:∀ ρ S,I i0 ρ S->∃ d a,src i0 S=some (some d)/\tg d ρ=some a/\Xn (body a) S P) :
  ∀ (k i:Nat) (ρ:L3.Env) (S:Sto),i<=i0->i0<k+i->I i ρ S->Xn (i6 src tg body k i ρ) S P
 | 0,i,ρ,S,o,n,_=>by omega
 | k+1,i,ρ,S,o,n,h=>by
  have m:∀ d a,src i S=some (some d)->tg d ρ=some a->i6 src tg body (k+1) i ρ S=L3.bind (body a) (λl=>match l with
    | .nx b=>i6 src tg body k (i+1) b
    | .ct b=>i6 src tg body k (i+1) b
    | .bk b=>L3.ret (.nx b)
    | .rt d=>L3.ret (.rt d)) S:=λd a j g=>by
   conv=>lhs;unfold i6
   simp only [j,g]
   all_goals rfl
  by_cases z:i=i0
  ·subst z;obtain ⟨d,a,j,g,x⟩:=f ρ S h;exact Xn.cgS (m d a j g) (Xn.bind x)
  ·obtain ⟨d,a,j,g,x⟩:=e i ρ S (by omega) h;refine Xn.cgS (m d a j g) (Xn.ok (x.mono ?_));rintro _ S1 ⟨c,rfl,q⟩;exact Xn.for_ I e f k (i+1) c S1 (by omega) (by omega) q
theorem P8 {β:Type} (f:Nat->Option β) (n:Nat):((∀ i,i<n->f i=none)/\(List.range n).findSome? f=none)\/∃ i x,i<n/\f i=some x/\(∀ j,j<i->f j=none)/\(List.range n).findSome? f=some x:=by
 induction n with
 | zero=>exact .inl ⟨λi h=>by omega,rfl⟩
 | succ n ih=>
  rw [Jj,List.findSome?_append];rcases ih with ⟨a,b⟩ | ⟨i,x,h1,h2,h3,h4⟩
  ·rw [b];cases e:f n with
   | none=>exact .inl ⟨λi hi=>by
     by_cases z:i=n
     ·rw [z];exact e
     ·exact a i (by omega),by simp [e]⟩
   | some x=>exact .inr ⟨n,x,by omega,e,a,by simp [e]⟩
  ·exact .inr ⟨i,x,by omega,h2,h3,by rw [h4];rfl⟩
theorem iI:∀ ns:List Int,PyData.depthAll (ns.map PyData.int)<=1
 | []=>by simp [PyData.depthAll]
 | n :: ns=>by
  have:=iI ns;simp only [Gk,PyData.depthAll,PyData.depth];omega
theorem gb:∀ a b:List Int,PyData.eqvAll (a.map PyData.int) (b.map PyData.int)=decide (a=b)
 | [],[]=>rfl
 | [],_ :: _=>rfl
 | _ :: _,[]=>rfl
 | x :: a,y :: b=>by
  simp only [Gk,PyData.eqvAll,PyData.eqv,gb a b];by_cases h:x=y
  ·subst h;simp
  ·simp [h]
theorem dH (a b:List Int) (S:Sto):a9 .Eq (.lst (a.map D.int)) (.lst (b.map D.int)) S=.ok (.bl (decide (a=b))) S:=by
 show eqP false (.lst (a.map D.int)) (.lst (b.map D.int)) S=_;have e:∀ ns:List Int,d8 64 S (.lst (ns.map D.int))=some (.list (ns.map PyData.int)):=λns=>by
  show (e6 (d8 63 S) (ns.map D.int)).map PyData.list=_;rw [U4 62 S ns];rfl
 unfold eqP;rw [e,e];show (if PyData.canLay0 (.list (a.map PyData.int))=true/\PyData.canLay0 (.list (b.map PyData.int))=true/\min (PyData.depth (.list (a.map PyData.int))) (PyData.depth (.list (b.map PyData.int)))<=60 then ret (D.bl (PyData.eqv (.list (a.map PyData.int)) (.list (b.map PyData.int)))) else bad) S=_;have hd:PyData.depth (.list (a.map PyData.int))<=60:=by
  have:=iI a;simp only [PyData.depth];omega
 rw [if_pos ⟨by simp only [PyData.canLay0];exact P1 a,by simp only [PyData.canLay0];exact P1 b,by omega⟩];show R.ok (D.bl (PyData.eqvAll (a.map PyData.int) (b.map PyData.int))) S=_;rw [gb]
theorem nQ (c:Bool) (a b:List Int) (S:Sto):eqP c (.tup (a.map D.int)) (.tup (b.map D.int)) S=.ok (.bl (if c=true then !decide (a=b) else decide (a=b))) S:=by
 have e:∀ ns:List Int,d8 64 S (.tup (ns.map D.int))=some (.tuple (ns.map PyData.int)):=λns=>by
  show (e6 (d8 63 S) (ns.map D.int)).map PyData.tuple=_;rw [U4 62 S ns];rfl
 unfold eqP;rw [e,e];have hd:PyData.depth (.tuple (a.map PyData.int))<=60:=by
  have:=iI a;simp only [PyData.depth];omega
 show (if PyData.canLay0 (.tuple (a.map PyData.int))=true/\PyData.canLay0 (.tuple (b.map PyData.int))=true/\min (PyData.depth (.tuple (a.map PyData.int))) (PyData.depth (.tuple (b.map PyData.int)))<=60 then ret (D.bl (if c=true then !PyData.eqv (.tuple (a.map PyData.int)) (.tuple (b.map PyData.int)) else PyData.eqv (.tuple (a.map PyData.int)) (.tuple (b.map PyData.int)))) else bad) S=_;rw [if_pos ⟨by simp only [PyData.canLay0];exact P1 a,by simp only [PyData.canLay0];exact P1 b,by omega⟩];have q:PyData.eqv (.tuple (a.map PyData.int)) (.tuple (b.map PyData.int))=decide (a=b):=(rfl).trans (gb a b);rw [q];rfl
theorem DO (a b:List Int) (S:Sto):a9 .NotEq (.tup (a.map D.int)) (.tup (b.map D.int)) S=.ok (.bl (!decide (a=b))) S:=nQ true a b S
theorem aJ (h:Any n N d) (hn:n<=40) (hc:Pln 0 c) (c1:dp c<=50) (neg:Bool) (S:Sto):eqP neg d c S=.ok (.bl (if neg=true then !PyData.eqv (py d) (py c) else PyData.eqv (py d) (py c))) S:=by
 have dp:=h.dp;have hd:=K9 d;unfold eqP;rw [B4 S d 64 h.pl (by omega),B4 S c 64 hc (by omega)];show (if PyData.canLay0 (py d)=true/\PyData.canLay0 (py c)=true/\min (PyData.depth (py d)) (PyData.depth (py c))<=60 then ret (D.bl (if neg=true then !PyData.eqv (py d) (py c) else PyData.eqv (py d) (py c))) else bad) S=_;rw [if_pos ⟨O7 _ h.pl,O7 _ hc,by omega⟩];rfl
theorem nl (d:D) (w:Str) (hs:∀ x,d≠.scr x) (hr:∀ x,d≠.ref x):PyData.eqv (py d) (.str w)=inW [w] d:=by
 cases d with
 | str x=>
  show (x==w)=decide (x∈[w]);rw [HS,FW,Gb];exact ⟨λh=>Kt h,λh=>by rw [h];exact beq_self_eq_true _⟩
 | scr x=>grind
 | ref x=>grind
 | _=>rfl
theorem E7 (h:Any n N d) (hn:n<=40) {w:Str} (hw:Pln 0 (.str w)) (S:Sto):a9 .Eq d (.str w) S=.ok (.bl (inW [w] d)) S/\a9 .NotEq d (.str w) S=.ok (.bl (!inW [w] d)) S:=by
 have pl:=h.pl;have e0:=aJ h hn hw (Gu _) false S;have e1:=aJ h hn hw (Gu _) true S;cases d with
 | str x=>
  have q:inW [w] (.str x)=decide (x=w):=by
   show decide (x∈[w])=_;simp
  rw [q];exact ⟨rfl,rfl⟩
 | scr x=>exact pl.elim
 | ref x=>exact pl.elim
 | _=>exact ⟨e0,e1⟩
def is1 (w:Str) (d:D):Bool:=PyData.eqv (py d) (.tuple [.str w])
theorem sS (w:Str) (a:D) (hs:∀ x,a≠.scr x) (b:∀ x,a≠.ref x):is1 w (.tup [a])=inW [w] a:=by
 show (PyData.eqv (py a) (.str w)&&true)=_;rw [IB,nl a w hs b]
theorem qU {d:D} (h:∀ a,d≠.tup [a]):is1 w d=false:=by
 cases d with
 | tup ds=>
  cases ds with
  | nil=>rfl
  | cons a ds=>
   cases ds with
   | nil=>grind
   | cons b ds=>show (_&&false)=false;exact Ks _
 | _=>rfl
theorem rE (h:Any n N d) (hn:n<=40) {w:Str} (hw:Pln 0 (.str w)) (S:Sto):a9 .Eq d (.tup [.str w]) S=.ok (.bl (is1 w d)) S/\a9 .NotEq d (.tup [.str w]) S=.ok (.bl (!is1 w d)) S:=by
 have pl:=h.pl;have e0:=aJ h hn (c:=.tup [.str w]) ⟨hw,trivial⟩ (by show max 0 0+1<=50;omega) false S;have e1:=aJ h hn (c:=.tup [.str w]) ⟨hw,trivial⟩ (by show max 0 0+1<=50;omega) true S;cases d with
 | scr x=>exact pl.elim
 | ref x=>exact pl.elim
 | _=>exact ⟨e0,e1⟩
def isW:D->Bool
 | .int _=>true
 | _=>false
def whB (lo a:Int):D->Bool
 | .int i=>decide (lo<=i)&&decide (i<=a)
 | _=>false
def D7 (n:Nat):D->Bool
 | .tup ds=>decide (ds.length=n)
 | _=>false
def els:D->List D
 | .tup ds=>ds
 | _=>[]
theorem s0 (h:Any n N (.tup ds)) {d:D} (hd:d∈ds):Any n N d:=by
 refine ⟨Plns.mem h.pl d hd,?_,?_⟩
 ·have:=R5 hd;have:dps ds+1<=3+n:=h.dp;omega
 ·have z:szs ds+3<=N:=h.sz;obtain ⟨i,a,e⟩:=Hk hd;have:=oM (by rw [Fy a,e]);omega
theorem fq (a b:Nat):decide ((a:Int)=(b:Int))=decide (a=b):=by grind
theorem U0 {f:D->M D} {S:Sto} (a:ds.length<sizeLine) (b:∀ d∈ds,f d S=.ok (.bl (p d)) S):f6 (bv ds) (λ_=>ret true) f (ds.length+1) 0 [] S=.ok ((ds.map p).map D.bl) S:=by
 have c:=dh (h:=id) (t:=λ_=>ret true) a (λ_ _=>rfl) (λd hd _=>b d hd);rw [List.map_id,Ir.mpr (λ_ _=>rfl)] at c;simp_all
theorem S8 (h:D7 m d=true):∃ ds,d=.tup ds/\ds.length=m:=by
 cases d with
 | tup ds=>exact ⟨ds,rfl,Gg h⟩
 | _=>cases h
theorem all_map (ds:List D) (p:D->Bool):(ds.map p).all id=ds.all p:=by rw [List.all_map];rfl
theorem EE (ds:List D) (p:D->Bool):((ds.map p).any (·==false))=!ds.all p:=by
 induction ds with
 | nil=>rfl
 | cons d ds ih=>grind
theorem inF (ds:List D) (p:D->Bool) (S:Sto):a9 .In (.bl false) (.lst ((ds.map p).map D.bl)) S=.ok (.bl (!ds.all p)) S:=by
 show inD false _ _ S=_;rw [rh,if_neg Fz,EE]
theorem jG {lo hi:Int} {d:D} (h:whB lo hi d=true):∃ i,d=.int i/\lo<=i/\i<=hi:=by
 cases d with
 | int i=>
  have h:(decide (lo<=i)&&decide (i<=hi))=true:=h;rw [FG,FW,FW] at h;exact ⟨i,rfl,h⟩
 | _=>cases h
theorem yX (h:inW ws d=true):∃ w,d=.str w/\w∈ws:=by
 cases d with
 | str w=>exact ⟨w,rfl,Gg h⟩
 | _=>cases h
theorem oX {c:Type} {p:D->Bool} {f:c->D} {q:c->Prop} (h:∀ d,p d=true->∃ b,f b=d/\q b):∀ {ds:List D},ds.all p=true->∃ a:List c,a.map f=ds/\∀ b∈a,q b
 | [],_=>⟨[],rfl,λb z=>by cases z⟩
 | d :: ds,e=>by
  rw [Gy,FG] at e;obtain ⟨b,rfl,g⟩:=h d e.1;obtain ⟨a,rfl,hs⟩:=oX h e.2;exact ⟨b :: a,rfl,λx i=>by
   rcases FP.mp i with rfl | z
   ·exact g
   ·exact hs x z⟩
theorem pY {lo a g:Nat} (b:lo<=g) (c:g<=a):whB (lo:Int) (a:Int) (.int (g:Int))=true:=by
 show (decide ((lo:Int)<=(g:Int))&&decide ((g:Int)<=(a:Int)))=true;grind
def j7:D->Int
 | .int i=>i
 | _=>0
theorem R8 {lo e:Int}:∀ {ds:List D},ds.all (whB lo e)=true->ds=(ds.map j7).map D.int/\∀ x∈ds.map j7,lo<=x/\x<=e
 | [],_=>⟨rfl,λx c=>by cases c⟩
 | d :: ds,h=>by
  rw [Gy,FG] at h;obtain ⟨i,rfl,f,g⟩:=jG h.1;obtain ⟨a,b⟩:=R8 h.2;refine ⟨?_,λx c=>?_⟩
  ·simp only [Gk,j7];rw [<- a]
  ·simp only [Gk,j7] at c;rcases FP.mp c with rfl | c
   ·exact ⟨f,g⟩
   ·exact b x c
theorem P4:∀ ns:List Int,z0 (ns.map D.int)=some ns
 | []=>rfl
 | n :: ns=>by
  have:=P4 ns;simp only [Gk,z0] at *;simp [e6] at *;first | exact this | simp [this]
theorem iU {v l:List Int} (f:v.Nodup) (h:∀ x∈v,x∈l):v.length<=l.length:=by
 induction v generalizing l with
 | nil=>exact Gu _
 | cons a v g=>
  have d:=h a (FO ..);have b:=Hz.mp f;have e:=Iz d;have:=g (l:=l.erase a) b.2 λx c=>(Je (λz=>b.1 (by rw [<- z];exact c))).mpr (h x (FQ _ c));have:=GY d;rw [Hs];omega
theorem fY {m:Nat} (h:∀ x∈ns,0<=x/\x<=(m:Int)-1):(w9 ns).length<=m:=by
 have:=iU (l:=(List.range m).map λ(i:Nat)=>(i:Int)) (dR ns) λx a=>by
  obtain ⟨b,c⟩:=h x (uniq_mem.mp a);exact GI.mpr ⟨x.toNat,Gc.mpr (by omega),by omega⟩
 grind
theorem fh (a:ns.length<4000) (b:(w9 ns).length<64) (S:Sto):E6 (.tup (ns.map D.int)) S=.ok (.lst ((srt (w9 ns)).map D.int)) S:=by
 unfold E6;rw [a7 (show G5 (.tup (ns.map D.int)) S=.ok (ns.map D.int) S from rfl)];simp only [P4,if_pos (And.intro a b)];rfl
theorem rises_iff:ns=srt (w9 ns)↔ns.Pairwise (· < ·):=by
 have f:∀ {l:List Int},l.Pairwise (·<=·)->l.Nodup->l.Pairwise (· < ·):=λ{l} h c=>by
  have:=h.and c;exact this.imp λ⟨a,b⟩=>by omega
 constructor
 ·intro e;have c:=(u5 _).nodup_iff.mpr (dR ns);rw [e];exact f (ap _) c
 ·intro h;have c:ns.Nodup:=h.imp λa=>by omega
  have g:ns.Pairwise (·<=·):=h.imp λa=>by omega
  refine dj ?_ g (ap _);refine List.Perm.trans ?_ (u5 _).symm;exact HT.perm_sub c (λx d=>uniq_mem.mpr d) (Nat.le_antisymm (iU c λx d=>uniq_mem.mpr d) (iU (dR ns) λx d=>uniq_mem.mp d))
theorem bb:∀ ns:List Int,szs (ns.map D.int)=62 * ns.length
 | []=>rfl
 | n :: ns=>by
  show 60+2+szs (ns.map D.int)=62 * (ns.length+1);rw [bb ns];omega
theorem vA {p:Nat->D->Bool} {t:D->M Bool} {f:D->M D} {S:Sto} (h:ds.length<sizeLine) (a:∀ (i:Nat) d,ds[i]?=some d->t (.tup [.int (i:Int),d]) S=.ok true S) (b:∀ (i:Nat) d,ds[i]?=some d->f (.tup [.int (i:Int),d]) S=.ok (.bl (p i d)) S):f6 (y0 ds) t f (ds.length+1) 0 [] S=.ok (((List.range ds.length).map λi=>p i (ds.getD i .non)).map D.bl) S:=by
 refine j4 ((Ok.comp (λi S' es=>S'=S/\es=((List.range i).map λi=>p i (ds.getD i .non)).map D.bl) (λS' es _=>?_) ?_ ⟨rfl,rfl⟩).mono ?_)
 ·have e:ds[ds.length]?=none:=Gr (FH _);simp only [y0,e,Ky]
 ·rintro i S' es c ⟨rfl,rfl⟩;have e:=Fy c;have g:ds.getD i .non=ds[i]:=by rw [FU,e];rfl
  refine ⟨.tup [.int (i:Int),ds[i]],by simp only [y0,e],true,S',a i _ e,?_⟩
  ·show if true=true then _ else _
   rw [if_pos rfl];refine ⟨_,_,b i _ e,?_,rfl,?_⟩
   ·grind
   ·rw [Jj,GN,GN,List.map_singleton,g];rfl
 ·grind
theorem oW (p:Nat->Bool):((List.range m).map p).all id=(List.range m).all p:=by rw [List.all_map];rfl
theorem chk {β:Type} {src:Src} {tg:D->L3.Env->Option L3.Env} {body:L3.Env->M Fl} {n:Nat} {f:Nat->Option β} {E:L3.Env->Prop} {S:Sto} {R:β->Nat->Sto->Prop} (hend:src n S=some none)
  (step:∀ i,i<n->∃ d,src i S=some (some d)/\∀ ρ,E ρ->∃ ρ1,tg d ρ=some ρ1/\(f i=none->Ok (body ρ1) S λfl S'=>(∃ ρ',fl=.nx ρ'/\E ρ')/\S'=S)/\∀ x,f i=some x->Xn (body ρ1) S (R x)) {ρ:L3.Env} (h:E ρ) :
  ((List.range n).findSome? f=none->Ok (i6 src tg body (n+1) 0 ρ) S λfl S'=>∃ ρ',fl=.nx ρ'/\E ρ'/\S'=S)/\∀ x,(List.range n).findSome? f=some x->Xn (i6 src tg body (n+1) 0 ρ) S (R x):=by
 rcases P8 f n with ⟨a,b⟩ | ⟨i,y,h1,h2,h3,h4⟩
 ·refine ⟨λ_=>?_,λx e=>(by rw [b] at e;cases e)⟩;refine Ok.loop (n:=n) (λ_ ρ S'=>E ρ/\S'=S) (λρ S' q=>by rw [q.2];exact hend) (λi ρ S' hi ⟨e1,e2⟩=>?_) ⟨h,rfl⟩;subst e2;obtain ⟨d,s1,s2⟩:=step i hi;obtain ⟨ρ1,t1,t2,_⟩:=s2 ρ e1;refine ⟨d,ρ1,s1,t1,(t2 (a i hi)).mono ?_⟩;rintro fl S1 ⟨⟨ρ',rfl,q⟩,rfl⟩;exact ⟨ρ',.inl rfl,q,rfl⟩
 ·refine ⟨λe=>(by rw [h4] at e;cases e),λx e=>?_⟩;rw [h4] at e;cases e;refine Xn.for_ (i0:=i) (λ_ ρ S'=>E ρ/\S'=S) (λj ρ S' hj ⟨e1,e2⟩=>?_) (λρ S' ⟨e1,e2⟩=>?_) (n+1) 0 ρ S (by omega) (by omega) ⟨h,rfl⟩
  ·subst e2;obtain ⟨d,s1,s2⟩:=step j (by omega);obtain ⟨ρ1,t1,t2,_⟩:=s2 ρ e1;refine ⟨d,ρ1,s1,t1,(t2 (h3 j hj)).mono ?_⟩;rintro fl S1 ⟨⟨ρ',rfl,q⟩,rfl⟩;exact ⟨ρ',rfl,q,rfl⟩
  ·subst e2;obtain ⟨d,s1,s2⟩:=step i h1;obtain ⟨ρ1,t1,_,t3⟩:=s2 ρ e1;exact ⟨d,ρ1,s1,t1,t3 _ h2⟩
theorem pV {c:Type} {f:c->D}:∀ {ds:List D} {q:Nat->c->Prop},(∀ (i:Nat) d,ds[i]?=some d->∃ b,f b=d/\q i b)->∃ a:List c,a.map f=ds/\∀ (i:Nat) b,a[i]?=some b->q i b
 | [],_,_=>⟨[],rfl,λi b z=>by simp at z⟩
 | d :: ds,q,h=>by
  obtain ⟨b,rfl,j⟩:=h 0 d rfl;obtain ⟨a,rfl,hs⟩:=pV λi d e=>h (i+1) d (by simpa using e);exact ⟨b :: a,rfl,λi x g=>by
   cases i with
   | zero=>grind
   | succ i=>exact hs i x (by simpa using g)⟩
theorem yw (h:is1 w (.tup [a])=true):a=.str w:=by
 have h:(PyData.eqv (py a) (.str w)&&true)=true:=h;rw [IB] at h;cases a with
 | str x=>
  have h:=h;rw [Kt h]
 | _=>cases h
end L3
namespace L3.Lev
open PySem PySem.Spec PyProof.Rows L2
inductive Hd where
 | out | look (l:Nat) | put (l:Nat) | holds (v:List Nat)
def nD (n:Nat):D:=.int (n:Int)
def Hd.d:Hd->D
 | .out=>.tup [.str "out"]
 | .look l=>.tup [.str "look",.int (l:Int)]
 | .put l=>.tup [.str "put",.int (l:Int)]
 | .holds v=>.tup [.str "holds",.tup (v.map nD)]
def bxD:Option Nat->D
 | none=>.non
 | some b=>.int (b:Int)
def boxOf:Hd->Option Nat
 | .out=>none
 | .look l=>some l
 | .put l=>some (l+1)
 | .holds v=>some v.length
def upB (bx:List (Option Nat)) (m i:Nat):Bool:=match bx[i]? with
 | some (some b)=>decide (b<=m)
 | _=>false
def ups (bx:List (Option Nat)) (m:Nat):List Nat:=(List.range bx.length).filter (upB bx m)
def hat (hs:List Hd) (i:Nat):Hd:=hs.getD i .out
def bxB (l:Nat) (h:Hd):Bool:=match boxOf h with
 | some b=>decide (b<=l)
 | none=>false
def efB (l:Nat):Hd->Bool
 | .out=>false
 | .look e=>decide (e<=l)
 | .put e=>decide (e<=l)
 | .holds v=>decide (v.length<=l)
def nE (hs:List Hd) (l:Nat):Nat:=(List.range hs.length).countP λi=>efB l (hat hs i)
theorem dS (e:hs[i]?=some h):hat hs i=h:=by unfold hat;rw [FU,e];rfl
theorem t4 {i:Nat} (a:i<hs.length):hs[i]?=some (hat hs i):=by
 have e:=Fy a;rw [dS e,e]
theorem U1 {i:Nat} (hi:i<hs.length) (h:Hd) (j:Nat):hat (hs.set i h) j=if j=i then h else hat hs j:=by
 unfold hat;grind
theorem aZ (hs:List Hd) (l i:Nat):upB (hs.map boxOf) l i=bxB l (hat hs i):=by
 unfold upB hat bxB;rw [FY,FU];cases hs[i]? with
 | none=>rfl
 | some h=>cases h <;> rfl
theorem pP (q:bxB l h=true):efB l h=true:=by
 cases h with
 | out=>cases q
 | look e=>exact q
 | put e=>
  have q:=q;exact FM (by have:=Gg q;omega)
 | holds v=>exact q
theorem Aj (q:efB l h=true):bxB (l+1) h=true:=by
 cases h with
 | out=>cases q
 | look e=>exact FM (by have:=Gg q;omega)
 | put e=>exact FM (by have:=Gg q;omega)
 | holds v=>exact FM (by have:=Gg q;omega)
theorem iS {d:Type} {p q:d->Bool} {x:d}:∀ {v:List d},(∀ a∈v,p a=true->q a=true)->x∈v->p x=false->q x=true->v.countP p<v.countP q
 | [],_,h,_,_=>by cases h
 | a :: v,h,f,i,j=>by
  have k:=Hv λb c=>h b (FQ _ c);rw [GO,GO];rcases FP.mp f with z | z
  ·grind
  ·have:=iS (λb c=>h b (FQ _ c)) z i j;have g:=h a (FO ..);cases e:p a with
   | true=>rw [g e];simp;omega
   | false=>grind
theorem L8 (hs:List Hd) (l:Nat):(ups (hs.map boxOf) l).length=(List.range hs.length).countP λi=>bxB l (hat hs i):=by
 unfold ups;rw [<- Jk,Fu];exact List.countP_congr λi _=>by rw [aZ]
theorem lr {l:Nat} (b:bx.length=bx'.length) (h:∀ i,i<bx.length->upB bx l i=upB bx' l i):ups bx l=ups bx' l:=by
 unfold ups;rw [<- b];exact List.filter_congr λi a=>h i (Gc.mp a)
theorem sP {l i:Nat} (h:i∈ups (hs.map boxOf) l):i<hs.length/\bxB l (hat hs i)=true:=by
 obtain ⟨a,b⟩:=Hx.mp h;rw [aZ] at b;grind
theorem jO {l i:Nat} (a:i<hs.length) (h:bxB l (hat hs i)=true):i∈ups (hs.map boxOf) l:=Hx.mpr ⟨by rw [Gc,Fu];exact a,by rw [aZ];exact h⟩
structure Good (hs:List Hd):Prop where
 cnt:∀ l,nE hs l<=l
 view:∀ i v,i<hs.length->hat hs i=.holds v->v=ups (hs.map boxOf) v.length
 top:∀ i b,i<hs.length->boxOf (hat hs i)=some b->b<=hs.length
def X1 (bx:List (Option Nat)) (l:Nat):Hd:=if l<=(ups bx l).length then .holds (ups bx l) else .put (l-1)
def j9 (hs:List Hd) (i:Nat):Hd:=match hat hs i with
 | .out=>.look hs.length
 | .put l=>.look l
 | .look l=>X1 (hs.map boxOf) l
 | .holds v=>.holds v
section
variable {hs:List Hd} (G:Good hs) {i:Nat} (hi:i<hs.length)
include G hi
theorem Good.put {h:Hd} (c:∀ l,nE (hs.set i h) l<=l) (o:∀ j v,j<hs.length->j≠i->hat hs j=.holds v->bxB v.length (hat hs i)=bxB v.length h) (w:∀ v,h=.holds v->v=ups ((hs.set i h).map boxOf) v.length) (t:∀ b,boxOf h=some b->b<=hs.length):Good (hs.set i h):=by
 refine ⟨c,λj v hj e=>?_,λj b hj e=>?_⟩
 ·rw [GZ] at hj;rw [U1 hi] at e;by_cases q:j=i
  ·rw [if_pos q] at e;exact w v e
  ·rw [if_neg q] at e;refine (G.view j v hj e).trans (lr (by simp) λx hx=>?_);rw [aZ,aZ,U1 hi];by_cases z:x=i
   ·rw [if_pos z,z];exact o j v hj q e
   ·rw [if_neg z]
 ·rw [GZ] at hj ⊢;rw [U1 hi] at e;by_cases q:j=i
  ·rw [if_pos q] at e;exact t b e
  ·rw [if_neg q] at e;exact G.top j b hj e
omit G in
theorem iY {l:Nat} (e:efB l h=true->efB l (hat hs i)=true):nE (hs.set i h) l<=nE hs l:=by
 unfold nE;rw [GZ];refine Hv λj _ q=>?_;rw [U1 hi] at q;grind
theorem Good.look (e:hat hs i=.look l):((ups (hs.map boxOf) l).length=l/\X1 (hs.map boxOf) l=.holds (ups (hs.map boxOf) l))\/((ups (hs.map boxOf) l).length<l/\2<=l/\X1 (hs.map boxOf) l=.put (l-1)):=by
 have a:=jO hi (by rw [e];exact FM (FH _));have c:=GY a;have b:(ups (hs.map boxOf) l).length<=l:=by
  rw [L8];refine Gd (Hv λj _ q=>?_) (G.cnt l);exact pP q
 unfold X1;grind
theorem Good.box (n:∀ v,hat hs i≠.holds v):(hs.set i (j9 hs i)).map boxOf=(match hat hs i with
  | .out=>(hs.map boxOf).set i (some hs.length)
  | .put l=>(hs.map boxOf).set i (some l)
  | _=>hs.map boxOf):=by
 unfold j9;rw [HQ];cases e:hat hs i with
 | out=>rfl
 | put l=>rfl
 | look l=>
  have e1:(hs.map boxOf)[i]?=some (some l):=by rw [FY,t4 hi,e];rfl
  have fin:(hs.map boxOf).set i (some l)=hs.map boxOf:=by
   obtain ⟨h1,h2⟩:=Fv.mp e1;rw [<- h2];exact IU h1
  simp only;rcases G.look hi e with ⟨a,b⟩ | ⟨a,a2,b⟩
  ·rw [b];show (hs.map boxOf).set i (some (ups (hs.map boxOf) l).length)=_;rw [a];exact fin
  ·rw [b];show (hs.map boxOf).set i (some (l-1+1))=_;rw [show l-1+1=l by omega];exact fin
 | holds v=>exact absurd e (n v)
theorem Good.step:Good (hs.set i (j9 hs i)):=by
 unfold j9;cases e:hat hs i with
 | out=>
  refine G.put hi (λl=>?_) (λj v hj q ej=>?_) (λv z=>by cases z) (λb z=>by cases z;exact FH _)
  ·by_cases q:hs.length<=l
   ·refine Gd ?_ q;unfold nE;rw [GZ];exact Gd IV (by rw [Gj];exact FH _)
   ·exact Gd (iY hi λz=>absurd (Gg z) q) (G.cnt l)
  ·rw [e];symm;refine FV λz=>?_;have vw:=congrArg List.length (G.view j v hj ej);rw [L8] at vw;have:(List.range hs.length).countP (λx=>bxB v.length (hat hs x))<(List.range hs.length).countP (λ_=>true):=iS (λ_ _ _=>rfl) (Gc.mpr hi) (by rw [e];rfl) rfl;rw [List.countP_true,Gj] at this;omega
 | put l=>
  refine G.put hi (λl'=>Gd (iY hi λz=>by rw [e];exact z) (G.cnt l')) (λj v hj q ej=>?_) (λv z=>by cases z) (λb z=>by
   cases z;have:=G.top i (l+1) hi (by rw [e];rfl);omega)
  rw [e];show decide (l+1<=v.length)=decide (l<=v.length);by_cases z:l=v.length
  ·exfalso;have vw:=congrArg List.length (G.view j v hj ej);rw [L8,<- z] at vw;have lt:(List.range hs.length).countP (λx=>bxB l (hat hs x))<nE hs l:=iS (λ_ _=>pP) (Gc.mpr hi) (by rw [e];exact FV (by omega)) (by rw [e];exact FM (FH _));have:=G.cnt l;omega
  ·grind
 | look l=>
  simp only;have bq:∀ h:Hd,boxOf h=some l->(hs.set i h).map boxOf=hs.map boxOf:=λh eh=>by
   have e1:(hs.map boxOf)[i]?=some (some l):=by rw [FY,t4 hi,e];rfl
   rw [HQ,eh];obtain ⟨h1,h2⟩:=Fv.mp e1;rw [<- h2];exact IU h1
  have tp:=G.top i l hi (by rw [e];rfl);rcases G.look hi e with ⟨a,b⟩ | ⟨a,a2,b⟩
  ·rw [b];have eb:boxOf (.holds (ups (hs.map boxOf) l))=some l:=by show some _=_;rw [a]
   refine G.put hi (λl'=>Gd (iY hi λz=>?_) (G.cnt l')) (λj v hj q ej=>?_) (λv z=>?_) (λb z=>?_)
   ·rw [e];have z:decide ((ups (hs.map boxOf) l).length<=l')=true:=z;rw [a] at z;exact z
   ·rw [e];show decide (l<=v.length)=decide ((ups (hs.map boxOf) l).length<=v.length);rw [a]
   ·grind
   ·grind
  ·rw [b];have eb:boxOf (.put (l-1))=some l:=by show some _=_;rw [show l-1+1=l by omega]
   refine G.put hi (λl'=>?_) (λj v hj q ej=>?_) (λv z=>by cases z) (λb z=>?_)
   ·by_cases z:l'=l-1
    ·have:nE (hs.set i (.put (l-1))) l'<=(ups (hs.map boxOf) l).length:=by
      rw [L8];unfold nE;rw [GZ];refine Hv λj _ y=>?_;rw [U1 hi] at y;by_cases w:j=i
      ·rw [w,e];exact FM (FH _)
      ·rw [if_neg w,z] at y;have:=Aj y;rw [show l-1+1=l by omega] at this;exact this
     omega
    ·refine Gd (iY hi λy=>?_) (G.cnt l');rw [e];have y:=Gg y;exact FM (by omega)
   ·rw [e];show decide (l<=v.length)=decide (l-1+1<=v.length);rw [show l-1+1=l by omega]
   ·grind
 | holds v=>
  rw [show hs.set i (.holds v)=hs by
   obtain ⟨h1,h2⟩:=Fv.mp (t4 hi);rw [<- e,<- h2];exact IU h1]
  exact G
end
theorem Good.pos (G:Good hs) {i:Nat} (b:i<hs.length):(∀ l,hat hs i=.look l->1<=l)/\∀ l,hat hs i=.put l->1<=l:=by
 have z:nE hs 0=0:=by have:=G.cnt 0;omega
 have a:=λq=>(Iu.mp z) i (Gc.mpr b) q;refine ⟨λl e=>?_,λl e=>?_⟩
 ·rw [e] at a;have:¬ l<=0:=λq=>a (FM q);omega
 ·rw [e] at a;have:¬ l<=0:=λq=>a (FM q);omega
theorem Good.own (G:Good hs) {i:Nat} (a:i<hs.length) {v:List Nat} (e:hat hs i=.holds v):i∈v:=by
 rw [G.view i v a e];exact jO a (by rw [e];exact FM (FH _))
end L3.Lev
namespace L3.K23
open PySem PySem.Spec PyProof.Rows L2
def nth (l:List Stmt) (i:Nat):Stmt:=l.getD i (.Pass ⟨0,0,0,0⟩)
def top (i:Nat):Stmt:=nth PySem.Challenge.pw_handnames_k23_whole_levels_carry.main.body i
def n9:Stmt->List Stmt
 | .For _ _ b _ _=>b
 | .While _ b _ _=>b
 | _=>[]
def Aa:Stmt->Expr
 | .While c _ _ _=>c
 | _=>.Name "" ⟨0,0,0,0⟩
def jC:Stmt->List Stmt
 | .Try b _ _ _ _=>b
 | _=>[]
def jQ:Stmt->List Stmt
 | .Try _ [.ExceptHandler _ _ b _] _ _ _=>b
 | _=>[]
abbrev wW:Fd:=j1 (top 9) []
abbrev xF:Fd:=j1 (top 10) []
abbrev CZ:Fd:=j1 (top 11) []
abbrev BN:Fd:=j1 (top 12) []
abbrev sM:Fd:=j1 (top 13) []
abbrev zo:Fd:=j1 (top 15) []
abbrev Fa:Fd:=j1 (top 16) []
abbrev xx:Fd:=j1 (top 17) []
abbrev Fp:Fd:=j1 (top 18) []
abbrev Cl:Fd:=j1 (top 20) ["count"]
abbrev Fg:Fd:=j1 (top 21) []
abbrev Dg:Fd:=j1 (top 22) []
abbrev wu:Fd:=j1 (top 23) []
abbrev qT:Fd:=j1 (top 25) []
abbrev wj:Fd:=j1 (top 26) []
abbrev wq:Fd:=j1 (top 27) []
abbrev wn:Fd:=j1 (top 28) []
abbrev Fc:Fd:=j1 (top 29) []
abbrev Fe:Fd:=j1 (top 30) ["~","_law_found"]
abbrev pL:Fd:=j1 (top 31) []
abbrev K4:Fd:=j1 (top 32) []
abbrev Fi:Fd:=j1 (top 33) ["_law_rows","_law_inside"]
abbrev Ff:Fd:=j1 (top 34) ["_law_hands"]
abbrev Fk:Fd:=j1 (top 35) ["_law_boxes","_law_hands"]
abbrev wf:Fd:=j1 (top 36) []
abbrev Ay:Fd:=j1 (top 37) []
abbrev wY:Fd:=j1 (top 38) []
abbrev Fm:Fd:=j1 (top 39) []
abbrev Fh:Fd:=j1 (top 40) []
abbrev BT:Fd:=j1 (top 41) []
abbrev Fn:Fd:=j1 (top 42) []
abbrev Fo:Fd:=j1 (top 43) []
abbrev law_F:Fd:=j1 (top 44) ["_law_things"]
abbrev yq:Nat:=0
abbrev iV:Nat:=1
abbrev DL:Nat:=2
abbrev CA:Nat:=3
abbrev yK:Nat:=4
abbrev Cr:Nat:=5
abbrev rJ:Nat:=6
abbrev Ai:Nat:=7
abbrev ji:Nat:=8
abbrev dm:Nat:=9
abbrev Cw:Nat:=10
abbrev Cc:Nat:=11
abbrev zg:Nat:=12
abbrev AD:Nat:=13
abbrev E9:Nat:=14
abbrev V0:Nat:=15
abbrev oQ:Nat:=16
abbrev AB:Nat:=17
abbrev ow:Nat:=18
abbrev M6:Nat:=19
abbrev sG:Nat:=20
abbrev BC:Nat:=21
abbrev AM:Nat:=22
abbrev Bi:Nat:=23
abbrev gL:Nat:=24
abbrev xH:Nat:=25
abbrev AY:Nat:=26
abbrev gJ:Nat:=27
abbrev xg:Nat:=28
abbrev yz:Nat:=29
abbrev AF:Nat:=30
abbrev zP:Nat:=31
abbrev nX:Nat:=32
def Tb:List Fd:=[wW,xF,CZ,BN,sM,zo,Fa,xx,Fp,Cl,Fg,Dg,wu,qT,wj,wq,wn,Fc,Fe,pL,K4,Fi,Ff,Fk,wf,Ay,wY,Fm,Fh,BT,Fn,Fo,law_F]
def Γ:Gm:=⟨("HandError",.err 0 []) :: ("NoStep",.err 1 ["hand"]) :: ("NoPaper",.err 2 ["word","at"]) :: ("NoStand",.err 3 ["word","at"]) :: ("TooMany",.err 4 ["word"]) :: ("NoType",.err 5 ["type_here"]) :: ("NoRow",.err 6 []) :: ("is_whole",.fn 0 1) :: ("is_within",.fn 1 3) :: ("is_tuple_of",.fn 2 2) :: ("are_rising_hands",.fn 3 2) :: ("with_at",.fn 4 3) :: ("first_levels",.fn 5 1) :: ("step_levels",.fn 6 2) :: ("behind_look",.fn 7 2) :: ("hands_up_to",.fn 8 2) :: ("lets_levels",.fn 9 2) :: ("is_level_stand",.fn 10 2) :: ("is_hand_here",.fn 11 3) :: ("box_due",.fn 12 1) :: ("_law_well",.fn 13 2) :: ("_law_draw",.fn 14 2) :: ("_law_with",.fn 15 3) :: ("_law_seen",.fn 16 2) :: ("_law_level_step",.fn 17 2) :: ("_law_refusal",.fn 18 1) :: ("_law_odd",.fn 19 1) :: ("_law_bent",.fn 20 2) :: ("_law_level_rows",.fn 21 2) :: ("_law_let_by",.fn 22 2) :: ("_law_any_levels",.fn 23 2) :: ("_law_is_whole",.fn 24 3) :: ("_law_is_level_hand",.fn 25 3) :: ("_law_is_levels",.fn 26 2) :: ("_law_level_told",.fn 27 2) :: ("_law_level_out",.fn 28 2) :: ("_law_broken",.fn 29 2) :: ("_law_carries",.fn 30 2) :: ("_law_walked",.fn 31 3) :: ("law",.fn 32 1) :: [],λc c0=>c0==0||c==c0,["hand","word","at","type_here"],[18]⟩
def Rs:Rules:=⟨[zJ,Dj,Ed,EY,rIx,ER,Ez,rFn,Dl,EW,BQ,Ak,Bw,vH,Ef,yr,BS,BX,uT,EH,EZ,EB,Bo,rIf,EO,EU,Dw,rSl,ED,EM,xf,AA,zK,rAppend,ET,wE],[zT,Dd,EF,yN],[yD,Bb,sIf,Ei,yZ,Em,Cj,mH,oz,Eh,Ej,Dh,Ao],[tE,vT,DQ,Ew]⟩
abbrev rn (k i:Nat) (ds:List D):M D:=P2 Rs Γ Tb k i ds
section
variable (C:Cf) {α:Type} (κ:Fl->M α) {ua ub uc ud ue uf:D} {qa qb qc qd qe qf qg qh qi qj qk ql qm:Option D}
theorem wH:runK Rs Γ C wW [ua]=bind (G8 "int" (λ_=>false) ua) λx1=>bind (e9 x1) λc2=>if c2=true then (bind (G8 "bool" (λ_=>false) ua) λx3=>bind (e9 x3) λc4=>ret (.bl (!c4))) else (ret x1):=by kernel_rfl
theorem vL:runK Rs Γ C xF [ua,ub,uc]=bind (C 0 [ua]) λx1=>bind (e9 x1) λc2=>if c2=true then (bind (a9 .LtE ub ua) λx3=>bind (asB x3) λz4=>if z4=true then (bind (a9 .LtE ua uc) λx5=>ret x5) else (ret (.bl false))) else (ret x1):=by kernel_rfl
theorem ze:runK Rs Γ C CZ [ua,ub]=bind (G8 "tuple" (λ_=>false) ua) λx1=>bind (e9 x1) λc2=>if c2=true then (bind (k8 ua) λx3=>bind (a9 .Eq x3 ub) λx4=>ret x4) else (ret x1):=by kernel_rfl
theorem xl:runK Rs Γ C BN [ua,ub]=bind (G8 "tuple" (λ_=>false) ub) λx1=>bind (e9 x1) λz2=>if (!z2)=true then (ret (.bl false)) else (bind (nx (bind (G9 ub) λsm4=>f6 sm4.1 (λd3=>ret true) (λd3=>bind (K1 ua (.int 1)) λx5=>bind (C 1 [d3,(.int 0),x5]) λx6=>ret x6) sm4.2 0 [])) λl7=>bind (mh (.lst l7)) λx8=>bind (e9 x8) λz9=>if (!z9)=true then (ret (.bl false)) else (bind (jv ub) λx10=>bind (E6 ub) λx11=>bind (a9 .Eq x10 x11) λx12=>ret x12)):=by kernel_rfl
theorem uQ:runK Rs Γ C sM [ua,ub,uc]=bind (Z0 ub) λn1=>bind (slD ua none n1) λx2=>bind (i9 x2 (.tup [uc])) λx3=>bind (i9 ub (.int 1)) λx4=>bind (Z0 x4) λn5=>bind (slD ua n5 none) λx6=>bind (i9 x3 x6) λx7=>ret x7:=by kernel_rfl
theorem yR:runK Rs Γ C zo [ua]=bind (Q0 (.tup [.non]) ua) λx1=>bind (Q0 (.tup [(.tup [(.str "out")])]) ua) λx2=>ret (.tup [x1,x2]):=by kernel_rfl
def Y7:Lc:=A0 Fa
theorem kU:runK Rs Γ C Fa [ua,ub]=i4 (evK Rs Γ C 40) Y7 Fa.body [some ua,some ub,none,none,none,none] endD:=by kernel_rfl
theorem jH:Fa.body=[nth Fa.body 0,nth Fa.body 1,nth Fa.body 2,nth Fa.body 3,nth Fa.body 4,nth Fa.body 5]:=by kernel_rfl
theorem wg:(evK Rs Γ C 40).s Y7 (nth Fa.body 0) [some ua,qa,qb,qc,qd,qe] κ=bind (Z5 (p8 [2,3]) ua [some ua,qa,qb,qc,qd,qe]) κ:=by kernel_rfl
theorem wU:(evK Rs Γ C 40).s Y7 (nth Fa.body 1) [qa,some ua,qb,some ub,qc,qd] κ=bind (ixD ub ua) λx1=>κ (.nx [qa,some ua,qb,some ub,some x1,qd]):=by kernel_rfl
theorem xL:(evK Rs Γ C 40).s Y7 (nth Fa.body 2) [qa,some ua,qb,qc,some ub,qd] κ=bind (ixD ub (.int 0)) λx1=>bind (a9 .Eq x1 (.str "holds")) λx2=>bind (asB x2) λz3=>if z3=true then (bind (N7 1 ["hand"] [ua]) λx4=>bind (A3 x4) (fin κ)) else (κ (.nx [qa,some ua,qb,qc,some ub,qd])):=by kernel_rfl
theorem pG:(evK Rs Γ C 40).s Y7 (nth Fa.body 3) [qa,some ua,some ub,some uc,some ud,qb] κ=bind (ixD ud (.int 0)) λx1=>bind (a9 .Eq x1 (.str "look")) λx2=>bind (asB x2) λz3=>if z3=true then (bind (ixD ud (.int 1)) λx4=>bind (C 7 [ub,x4]) λx5=>bind (C 4 [uc,ua,x5]) λx6=>κ (.rt (.tup [ub,x6]))) else (κ (.nx [qa,some ua,some ub,some uc,some ud,qb])):=by kernel_rfl
theorem wx:(evK Rs Γ C 40).s Y7 (nth Fa.body 4) [qa,qb,some ua,qc,some ub,qd] κ=bind (ixD ub (.int 0)) λx1=>bind (a9 .Eq x1 (.str "out")) λx2=>bind (asB x2) λz3=>if z3=true then (bind (k8 ua) λx4=>κ (.nx [qa,qb,some ua,qc,some ub,some x4])) else (bind (ixD ub (.int 1)) λx5=>κ (.nx [qa,qb,some ua,qc,some ub,some x5])):=by kernel_rfl
theorem Bx:(evK Rs Γ C 40).s Y7 (nth Fa.body 5) [qa,some ua,some ub,some uc,qb,some ud] κ=bind (C 4 [ub,ua,ud]) λx1=>bind (C 4 [uc,ua,(.tup [(.str "look"),ud])]) λx2=>κ (.rt (.tup [x1,x2])):=by kernel_rfl
theorem AS:runK Rs Γ C xx [ua,ub]=bind (C 8 [ua,ub]) λx1=>bind (k8 x1) λx2=>bind (a9 .LtE ub x2) λx3=>bind (asB x3) λz4=>if z4=true then (ret (.tup [(.str "holds"),x1])) else (bind (K1 ub (.int 1)) λx5=>ret (.tup [(.str "put"),x5])):=by kernel_rfl
def z8_L:Lc:=A0 Fp
def cU:Expr×List Expr×Scope:=match (nth Fp.body 0) with
 | .Return (some (.Call _ [.ListComp elt [⟨_,_,ifs,_⟩] scope _] _ _)) _=>(elt,ifs,scope)
 | _=>(.Name "" ⟨0,0,0,0⟩,[],default)
def oy (C:Cf) (ρ:L3.Env) (d:D):M Bool:=match e6 (e8 z8_L.N) (o0 cU.2.2) with
 | some caps=>pS (testsK (evK Rs Γ C 37) (j2 z8_L cU.2.2 ["hand","box"]) cU.2.1) (mk2 (F8 caps ρ) d)
 | none=>bad
theorem hE:oy C [qa,some ua] (.tup [ub,uc])=bind (a9 .IsNot uc .non) λx1=>bind (asB x1) λz2=>if z2=true then (bind (a9 .LtE uc ua) λx3=>bind (asB x3) λz4=>ret z4) else (ret false):=by kernel_rfl
def hQ (C:Cf) (ρ:L3.Env) (d:D):M D:=match e6 (e8 z8_L.N) (o0 cU.2.2) with
 | some caps=>(evK Rs Γ C 37).e (j2 z8_L cU.2.2 ["hand","box"]) cU.1 (mk2 (F8 caps ρ) d) ret
 | none=>bad
theorem gE:hQ C [qa,qb] (.tup [ua,ub])=ret ua:=by kernel_rfl
theorem AG:runK Rs Γ C Fp [ua,ub]=bind (nx (bind (X6 ua) λsm1=>f6 sm1.1 (oy C [some ua,some ub]) (hQ C [some ua,some ub]) sm1.2 0 [])) λl2=>bind (t6 (.lst l2)) λx3=>ret x3:=by kernel_rfl
def D5:Lc:=A0 Cl
theorem R1:runK Rs Γ C Cl [ua,ub]=i4 (evK Rs Γ C 40) D5 Cl.body [some ua,some ub,none,none,none,none,none] endD:=by kernel_rfl
theorem T8:Cl.body=[nth Cl.body 0,nth Cl.body 1,nth Cl.body 2,nth Cl.body 3,nth Cl.body 4,nth Cl.body 5]:=by kernel_rfl
theorem fW:(evK Rs Γ C 40).s D5 (nth Cl.body 0) [some ua,some ub,qa,qb,qc,qd,qe] κ=bind (C 10 [ua,ub]) λx1=>bind (e9 x1) λz2=>if (!z2)=true then (bind (N7 3 ["word","at"] [(.str "shape"),(.int 0)]) λx3=>bind (A3 x3) (fin κ)) else (κ (.nx [some ua,some ub,qa,qb,qc,qd,qe])):=by kernel_rfl
theorem jh:(evK Rs Γ C 40).s D5 (nth Cl.body 1) [qa,some ua,qb,qc,qd,qe,qf] κ=bind (Z5 (p8 [2,3]) ua [qa,some ua,qb,qc,qd,qe,qf]) κ:=by kernel_rfl
def aN:List Stmt:=n9 (nth Cl.body 2)
def I0 (C:Cf):L3.Env->M Fl:=λρ'=>i4 (evK Rs Γ C 39) D5 aN ρ' ret
theorem kE:(evK Rs Γ C 40).s D5 (nth Cl.body 2) [qa,qb,qc,some ua,qd,qe,qf] κ=bind (X6 ua) λsm1=>bind (i6 sm1.1 (p8 [4,5]) (I0 C) sm1.2 0 [qa,qb,qc,some ua,qd,qe,qf]) κ:=by kernel_rfl
def aQ:List Stmt:=n9 (nth Cl.body 3)
def L5 (C:Cf):L3.Env->M Fl:=λρ'=>i4 (evK Rs Γ C 39) D5 aQ ρ' ret
theorem rC:(evK Rs Γ C 40).s D5 (nth Cl.body 3) [some ua,qa,qb,qc,qd,qe,qf] κ=bind (i9 ua (.int 1)) λx1=>bind (j6 [(.int 1),x1]) λsm2=>bind (i6 sm2.1 (λd ρ=>some (ρ.set 6 (some d))) (L5 C) sm2.2 0 [some ua,qa,qb,qc,qd,qe,qf]) κ:=by kernel_rfl
def aM:List Stmt:=n9 (nth Cl.body 4)
def K5 (C:Cf):L3.Env->M Fl:=λρ'=>i4 (evK Rs Γ C 39) D5 aM ρ' ret
theorem xT:(evK Rs Γ C 40).s D5 (nth Cl.body 4) [qa,qb,qc,some ua,qd,qe,qf] κ=bind (X6 ua) λsm1=>bind (i6 sm1.1 (p8 [4,5]) (K5 C) sm1.2 0 [qa,qb,qc,some ua,qd,qe,qf]) κ:=by kernel_rfl
theorem Be:(evK Rs Γ C 40).s D5 (nth Cl.body 5) [qa,qb,qc,qd,qe,qf,qg] κ=κ (.rt (.bl true)):=by kernel_rfl
theorem Y5:aN=[nth aN 0]:=by kernel_rfl
theorem cW:(evK Rs Γ C 39).s D5 (nth aN 0) [qa,qb,some ua,qc,some ub,some uc,qd] κ=bind (ixD ua ub) λx1=>bind (C 12 [uc]) λx2=>bind (a9 .NotEq x1 x2) λx3=>bind (asB x3) λz4=>if z4=true then (bind (N7 3 ["word","at"] [(.str "box"),ub]) λx5=>bind (A3 x5) (fin κ)) else (κ (.nx [qa,qb,some ua,qc,some ub,some uc,qd])):=by kernel_rfl
theorem X9:aQ=[nth aQ 0]:=by kernel_rfl
theorem cX:(evK Rs Γ C 39).s D5 (nth aQ 0) [qa,qb,some ua,some ub,qc,qd,some uc] κ=bind (C 8 [ua,uc]) λx1=>bind (k8 x1) λx2=>bind (tupOf ub) λ_=>bind (countG ub [(.tup [(.str "put"),uc])]) λx3=>bind (i9 x2 x3) λx4=>bind (a9 .Gt x4 uc) λx5=>bind (asB x5) λz6=>if z6=true then (bind (N7 3 ["word","at"] [(.str "many"),uc]) λx7=>bind (A3 x7) (fin κ)) else (κ (.nx [qa,qb,some ua,some ub,qc,qd,some uc])):=by kernel_rfl
theorem X3:aM=[nth aM 0]:=by kernel_rfl
theorem cS:(evK Rs Γ C 39).s D5 (nth aM 0) [qa,qb,some ua,qc,some ub,some uc,qd] κ=bind (ixD uc (.int 0)) λx1=>bind (a9 .Eq x1 (.str "holds")) λx2=>bind (asB x2) λz3=>if z3=true then (bind (ixD uc (.int 1)) λx4=>bind (ixD uc (.int 1)) λx5=>bind (k8 x5) λx6=>bind (C 8 [ua,x6]) λx7=>bind (a9 .NotEq x4 x7) λx8=>bind (asB x8) λz9=>if z9=true then (bind (N7 3 ["word","at"] [(.str "view"),ub]) λx10=>bind (A3 x10) (fin κ)) else (κ (.nx [qa,qb,some ua,qc,some ub,some uc,qd]))) else (κ (.nx [qa,qb,some ua,qc,some ub,some uc,qd])):=by kernel_rfl
def z2_L:Lc:=A0 Fg
theorem AW:runK Rs Γ C Fg [ua,ub]=i4 (evK Rs Γ C 40) z2_L Fg.body [some ua,some ub,none,none] endD:=by kernel_rfl
theorem xj:Fg.body=[nth Fg.body 0,nth Fg.body 1,nth Fg.body 2,nth Fg.body 3,nth Fg.body 4]:=by kernel_rfl
theorem Eb:(evK Rs Γ C 40).s z2_L (nth Fg.body 0) [qa,some ua,qb,qc] κ=bind (C 2 [ua,(.int 2)]) λx1=>bind (e9 x1) λz2=>if (!z2)=true then (κ (.rt (.bl false))) else (κ (.nx [qa,some ua,qb,qc])):=by kernel_rfl
theorem Dn:(evK Rs Γ C 40).s z2_L (nth Fg.body 1) [qa,some ua,qb,qc] κ=bind (Z5 (p8 [2,3]) ua [qa,some ua,qb,qc]) κ:=by kernel_rfl
theorem Ec:(evK Rs Γ C 40).s z2_L (nth Fg.body 2) [some ua,qa,some ub,some uc] κ=bind (C 2 [ub,ua]) λx1=>bind (e9 x1) λz2=>if (!z2)=true then (κ (.rt (.bl false))) else (bind (C 2 [uc,ua]) λx3=>bind (e9 x3) λz4=>if (!z4)=true then (κ (.rt (.bl false))) else (κ (.nx [some ua,qa,some ub,some uc]))):=by kernel_rfl
theorem EJ:(evK Rs Γ C 40).s z2_L (nth Fg.body 3) [some ua,qa,some ub,qb] κ=bind (nx (bind (G9 ub) λsm2=>f6 sm2.1 (λd1=>ret true) (λd1=>bind (a9 .Is d1 .non) λx3=>bind (e9 x3) λc4=>if c4=true then (ret x3) else (bind (C 1 [d1,(.int 1),ua]) λx5=>ret x5)) sm2.2 0 [])) λl6=>bind (mh (.lst l6)) λx7=>bind (e9 x7) λz8=>if (!z8)=true then (κ (.rt (.bl false))) else (κ (.nx [some ua,qa,some ub,qb])):=by kernel_rfl
def cq:Expr×List Expr×Scope:=match (nth Fg.body 4) with
 | .Return (some (.Call _ [.ListComp elt [⟨_,_,ifs,_⟩] scope _] _ _)) _=>(elt,ifs,scope)
 | _=>(.Name "" ⟨0,0,0,0⟩,[],default)
def gZ (C:Cf) (ρ:L3.Env) (d:D):M Bool:=match e6 (e8 z2_L.N) (o0 cq.2.2) with
 | some caps=>pS (testsK (evK Rs Γ C 37) (j2 z2_L cq.2.2 ["hand","here"]) cq.2.1) (mk2 (F8 caps ρ) d)
 | none=>bad
theorem gx:gZ C [qa,qb,qc,qd] (.tup [ua,ub])=ret true:=by kernel_rfl
def gm (C:Cf) (ρ:L3.Env) (d:D):M D:=match e6 (e8 z2_L.N) (o0 cq.2.2) with
 | some caps=>(evK Rs Γ C 37).e (j2 z2_L cq.2.2 ["hand","here"]) cq.1 (mk2 (F8 caps ρ) d) ret
 | none=>bad
theorem gX:gm C [some ua,qa,qb,qc] (.tup [ub,uc])=bind (C 11 [ua,ub,uc]) λx1=>ret x1:=by kernel_rfl
theorem Eo:(evK Rs Γ C 40).s z2_L (nth Fg.body 4) [some ua,qa,qb,some ub] κ=bind (nx (bind (X6 ub) λsm1=>f6 sm1.1 (gZ C [some ua,qa,qb,some ub]) (gm C [some ua,qa,qb,some ub]) sm1.2 0 [])) λl2=>bind (mh (.lst l2)) λx3=>κ (.rt x3):=by kernel_rfl
theorem AL:runK Rs Γ C Dg [ua,ub,uc]=bind (a9 .Eq uc (.tup [(.str "out")])) λx1=>bind (asB x1) λz2=>if z2=true then (ret (.bl true)) else (bind (C 2 [uc,(.int 2)]) λx3=>bind (e9 x3) λz4=>if (!z4)=true then (ret (.bl false)) else (bind (ixD uc (.int 0)) λx5=>bind (a9 .Eq x5 (.str "holds")) λx6=>bind (asB x6) λz7=>if z7=true then (bind (ixD uc (.int 1)) λx8=>bind (C 3 [ua,x8]) λx9=>bind (e9 x9) λc10=>if c10=true then (bind (ixD uc (.int 1)) λx11=>bind (a9 .In ub x11) λx12=>ret x12) else (ret x9)) else (bind (ixD uc (.int 0)) λx13=>bind (a9 .Eq x13 (.str "put")) λx14=>bind (asB x14) λz15=>if z15=true then (bind (ixD uc (.int 1)) λx16=>bind (K1 ua (.int 1)) λx17=>bind (C 1 [x16,(.int 1),x17]) λx18=>ret x18) else (bind (ixD uc (.int 0)) λx19=>bind (a9 .Eq x19 (.str "look")) λx20=>bind (e9 x20) λc21=>if c21=true then (bind (ixD uc (.int 1)) λx22=>bind (C 1 [x22,(.int 1),ua]) λx23=>ret x23) else (ret x20))))):=by kernel_rfl
theorem sU:runK Rs Γ C wu [ua]=bind (ixD ua (.int 0)) λx1=>bind (a9 .Eq x1 (.str "out")) λx2=>bind (asB x2) λz3=>if z3=true then (ret .non) else (bind (ixD ua (.int 0)) λx4=>bind (a9 .Eq x4 (.str "look")) λx5=>bind (asB x5) λz6=>if z6=true then (bind (ixD ua (.int 1)) λx7=>ret x7) else (bind (ixD ua (.int 0)) λx8=>bind (a9 .Eq x8 (.str "put")) λx9=>bind (asB x9) λz10=>if z10=true then (bind (ixD ua (.int 1)) λx11=>bind (i9 x11 (.int 1)) λx12=>ret x12) else (bind (ixD ua (.int 1)) λx13=>bind (k8 x13) λx14=>ret x14))):=by kernel_rfl
theorem vJ:runK Rs Γ C qT [ua,ub]=bind (slD ua none (some 63)) λx1=>bind (Q0 (.int 17) ub) λx2=>bind (pg [((.str "cells"),x1),((.str "at"),ub),((.str "left"),(.int 0)),((.str "turn"),x2)]) λx3=>ret x3:=by kernel_rfl
theorem uA (C:Cf) (p x:D):runK Rs Γ C wj [p,x]=kF p x:=by kernel_rfl
theorem vq:runK Rs Γ C wq [ua,ub,uc]=bind (Z0 ub) λn1=>bind (slD ua none n1) λx2=>bind (i9 x2 (.tup [uc])) λx3=>bind (i9 ub (.int 1)) λx4=>bind (Z0 x4) λn5=>bind (slD ua n5 none) λx6=>bind (i9 x3 x6) λx7=>ret x7:=by kernel_rfl
theorem vt:runK Rs Γ C wn [ua,ub]=bind (nx (bind (k8 ua) λx2=>bind (j6 [x2]) λsm3=>f6 sm3.1 (λd1=>bind (ixD ua d1) λx4=>bind (a9 .IsNot x4 .non) λx5=>bind (asB x5) λz6=>if z6=true then (bind (ixD ua d1) λx7=>bind (a9 .LtE x7 ub) λx8=>bind (asB x8) λz9=>ret z9) else (ret false)) (λd1=>ret d1) sm3.2 0 [])) λl10=>bind (t6 (.lst l10)) λx11=>ret x11:=by kernel_rfl
def X2:Lc:=A0 Fc
theorem tL:runK Rs Γ C Fc [ua,ub]=i4 (evK Rs Γ C 40) X2 Fc.body [some ua,some ub,none,none,none,none,none,none] endD:=by kernel_rfl
theorem tj:Fc.body=[nth Fc.body 0,nth Fc.body 1,nth Fc.body 2,nth Fc.body 3,nth Fc.body 4,nth Fc.body 5]:=by kernel_rfl
theorem CT:(evK Rs Γ C 40).s X2 (nth Fc.body 0) [some ua,qa,qb,qc,qd,qe,qf,qg] κ=bind (Z5 (p8 [2,3]) ua [some ua,qa,qb,qc,qd,qe,qf,qg]) κ:=by kernel_rfl
theorem Cu:(evK Rs Γ C 40).s X2 (nth Fc.body 1) [qa,some ua,qb,some ub,qc,qd,qe,qf] κ=bind (ixD ub ua) λx1=>κ (.nx [qa,some ua,qb,some ub,some x1,qd,qe,qf]):=by kernel_rfl
theorem DU:(evK Rs Γ C 40).s X2 (nth Fc.body 2) [qa,qb,qc,qd,some ua,qe,qf,qg] κ=bind (ixD ua (.int 0)) λx1=>bind (a9 .Eq x1 (.str "holds")) λx2=>bind (asB x2) λz3=>if z3=true then (κ (.rt .non)) else (κ (.nx [qa,qb,qc,qd,some ua,qe,qf,qg])):=by kernel_rfl
theorem oS:(evK Rs Γ C 40).s X2 (nth Fc.body 3) [qa,some ua,some ub,some uc,some ud,qb,qc,qd] κ=bind (ixD ud (.int 0)) λx1=>bind (a9 .Eq x1 (.str "look")) λx2=>bind (asB x2) λz3=>if z3=true then (bind (ixD ud (.int 1)) λx4=>bind (C 16 [ub,x4]) λx5=>bind (k8 x5) λx6=>bind (ixD ud (.int 1)) λx7=>bind (a9 .GtE x6 x7) λx8=>bind (asB x8) λz9=>if z9=true then (bind (C 15 [uc,ua,(.tup [(.str "holds"),x5])]) λx10=>κ (.rt (.tup [ub,x10]))) else (bind (ixD ud (.int 1)) λx11=>bind (K1 x11 (.int 1)) λx12=>bind (C 15 [uc,ua,(.tup [(.str "put"),x12])]) λx13=>κ (.rt (.tup [ub,x13])))) else (κ (.nx [qa,some ua,some ub,some uc,some ud,qb,qc,qd])):=by kernel_rfl
theorem we:(evK Rs Γ C 40).s X2 (nth Fc.body 4) [qa,qb,some ua,qc,some ub,qd,qe,qf] κ=bind (ixD ub (.int 0)) λx1=>bind (a9 .Eq x1 (.str "put")) λx2=>bind (asB x2) λz3=>if z3=true then (bind (ixD ub (.int 1)) λx4=>κ (.nx [qa,qb,some ua,qc,some ub,qd,qe,some x4])) else (bind (k8 ua) λx5=>κ (.nx [qa,qb,some ua,qc,some ub,qd,qe,some x5])):=by kernel_rfl
theorem BK:(evK Rs Γ C 40).s X2 (nth Fc.body 5) [qa,some ua,some ub,some uc,qb,qc,qd,some ud] κ=bind (C 15 [ub,ua,ud]) λx1=>bind (C 15 [uc,ua,(.tup [(.str "look"),ud])]) λx2=>κ (.rt (.tup [x1,x2])):=by kernel_rfl
def bO:Lc:=A0 Fe
theorem kZ:runK Rs Γ C Fe [ua]=i4 (evK Rs Γ C 40) bO Fe.body [some ua,none] endD:=by kernel_rfl
theorem jp:Fe.body=[nth Fe.body 0,nth Fe.body 1,nth Fe.body 2,nth Fe.body 3,nth Fe.body 4,nth Fe.body 5]:=by kernel_rfl
theorem xQ:(evK Rs Γ C 40).s bO (nth Fe.body 0) [qa,qb] κ=bind (newL []) λx1=>κ (.nx [qa,some x1]):=by kernel_rfl
theorem xP:(evK Rs Γ C 40).s bO (nth Fe.body 1) [some ua,some ub] κ=bind (t7 (λc=>Γ.sub c 1) ua) λx1=>bind (e9 x1) λz2=>if z2=true then (bind (lstOf ub) λ_=>bind (bI "hand" ua) λx3=>bind (E5 ub [(.tup [(.str "step"),x3])]) λx4=>κ (.nx [some ua,some ub])) else (κ (.nx [some ua,some ub])):=by kernel_rfl
theorem wa:(evK Rs Γ C 40).s bO (nth Fe.body 2) [some ua,some ub] κ=bind (t7 (λc=>Γ.sub c 3) ua) λx1=>bind (e9 x1) λz2=>if z2=true then (bind (lstOf ub) λ_=>bind (bI "word" ua) λx3=>bind (bI "at" ua) λx4=>bind (E5 ub [(.tup [(.str "stand"),x3,x4])]) λx5=>κ (.nx [some ua,some ub])) else (κ (.nx [some ua,some ub])):=by kernel_rfl
theorem wZ:(evK Rs Γ C 40).s bO (nth Fe.body 3) [some ua,some ub] κ=bind (t7 (λc=>Γ.sub c 4) ua) λx1=>bind (e9 x1) λz2=>if z2=true then (bind (lstOf ub) λ_=>bind (bI "word" ua) λx3=>bind (E5 ub [(.tup [(.str "many"),x3])]) λx4=>κ (.nx [some ua,some ub])) else (κ (.nx [some ua,some ub])):=by kernel_rfl
theorem ww:(evK Rs Γ C 40).s bO (nth Fe.body 4) [some ua,some ub] κ=bind (t7 (λc=>[2,6,5].any λc0=>Γ.sub c c0) ua) λx1=>bind (e9 x1) λz2=>if z2=true then (bind (lstOf ub) λ_=>bind (E5 ub [(.tup [(.str "odd")])]) λx3=>κ (.nx [some ua,some ub])) else (bind (t7 (λ_=>true) ua) λx4=>bind (e9 x4) λz5=>if (!z5)=true then (bind (lstOf ub) λ_=>bind (E5 ub [(.tup [(.str "odd")])]) λx6=>κ (.nx [some ua,some ub])) else (κ (.nx [some ua,some ub]))):=by kernel_rfl
theorem xI:(evK Rs Γ C 40).s bO (nth Fe.body 5) [qa,some ua] κ=bind (k8 ua) λx1=>bind (a9 .Eq x1 (.int 1)) λx2=>bind (asB x2) λz3=>if z3=true then (bind (ixD ua (.int 0)) λx4=>κ (.rt x4)) else (κ (.rt (.tup [(.str "odd")]))):=by kernel_rfl
def N5:Lc:=A0 Fi
theorem zM:runK Rs Γ C Fi [ua,ub]=i4 (evK Rs Γ C 40) N5 Fi.body [some ua,some ub,none,none,none,none,none] endD:=by kernel_rfl
theorem zQ:Fi.body=[nth Fi.body 0,nth Fi.body 1,nth Fi.body 2,nth Fi.body 3]:=by kernel_rfl
theorem Es:(evK Rs Γ C 40).s N5 (nth Fi.body 0) [qa,qb,qc,qd,qe,qf,qg] κ=bind (newL []) λx1=>κ (.nx [qa,qb,some x1,qd,qe,qf,qg]):=by kernel_rfl
def J0:List Stmt:=n9 (nth Fi.body 1)
def dX (C:Cf):L3.Env->M Fl:=λρ'=>i4 (evK Rs Γ C 39) N5 J0 ρ' ret
theorem Ds:(evK Rs Γ C 40).s N5 (nth Fi.body 1) [qa,some ua,qb,qc,qd,qe,qf] κ=bind (j6 [ua]) λsm1=>bind (i6 sm1.1 (λd ρ=>some (ρ.set 3 (some d))) (dX C) sm1.2 0 [qa,some ua,qb,qc,qd,qe,qf]) κ:=by kernel_rfl
def K2:List Stmt:=n9 (nth Fi.body 2)
def kO (C:Cf):L3.Env->M Fl:=λρ'=>i4 (evK Rs Γ C 39) N5 K2 ρ' ret
theorem ES:(evK Rs Γ C 40).s N5 (nth Fi.body 2) [qa,some ua,qb,qc,qd,qe,qf] κ=bind (j6 [(.int 1),ua]) λsm1=>bind (i6 sm1.1 (λd ρ=>some (ρ.set 4 (some d))) (kO C) sm1.2 0 [qa,some ua,qb,qc,qd,qe,qf]) κ:=by kernel_rfl
theorem EG:(evK Rs Γ C 40).s N5 (nth Fi.body 3) [qa,qb,some ua,qc,qd,qe,qf] κ=κ (.rt ua):=by kernel_rfl
theorem iT:J0=[nth J0 0,nth J0 1,nth J0 2]:=by kernel_rfl
theorem pr:(evK Rs Γ C 39).s N5 (nth J0 0) [some ua,some ub,qa,qb,qc,qd,qe] κ=bind (C 14 [ua,ub]) λx1=>bind (i9 (.int 1) x1) λx2=>κ (.nx [some ua,some ub,qa,qb,some x2,qd,qe]):=by kernel_rfl
theorem pW:(evK Rs Γ C 39).s N5 (nth J0 1) [some ua,qa,qb,qc,qd,qe,qf] κ=bind (C 14 [ua,(.int 4)]) λx1=>κ (.nx [some ua,qa,qb,qc,qd,some x1,qf]):=by kernel_rfl
theorem sL:(evK Rs Γ C 39).s N5 (nth J0 2) [qa,qb,some ua,qc,some ub,some uc,qd] κ=bind (lstOf ua) λ_=>bind (a9 .Eq uc (.int 0)) λx1=>bind (asB x1) λz2=>if z2=true then (bind (E5 ua [.non]) λx3=>κ (.nx [qa,qb,some ua,qc,some ub,some uc,qd])) else (bind (a9 .Eq uc (.int 1)) λx4=>bind (e9 x4) λc5=>if c5=true then (bind (a9 .Gt ub (.int 1)) λx6=>bind (E5 ua [(.tup [ub,x6])]) λx7=>κ (.nx [qa,qb,some ua,qc,some ub,some uc,qd])) else (bind (E5 ua [(.tup [ub,x4])]) λx8=>κ (.nx [qa,qb,some ua,qc,some ub,some uc,qd]))):=by kernel_rfl
theorem gj:K2=[nth K2 0,nth K2 1]:=by kernel_rfl
theorem nK:(evK Rs Γ C 39).s N5 (nth K2 0) [qa,some ua,some ub,qb,some uc,qc,qd] κ=bind (nx (bind (j6 [ua]) λsm2=>f6 sm2.1 (λd1=>bind (ixD ub d1) λx3=>bind (a9 .IsNot x3 .non) λx4=>bind (asB x4) λz5=>if z5=true then (bind (ixD ub d1) λx6=>bind (ixD x6 (.int 0)) λx7=>bind (ixD ub d1) λx8=>bind (ixD x8 (.int 1)) λx9=>bind (qV x9) λx10=>bind (K1 x7 x10) λx11=>bind (a9 .LtE x11 uc) λx12=>bind (asB x12) λz13=>ret z13) else (ret false)) (λd1=>ret d1) sm2.2 0 [])) λl14=>bind (newL l14) λx15=>κ (.nx [qa,some ua,some ub,qb,some uc,qc,some x15]):=by kernel_rfl
def V7 (C:Cf):L3.Env->M Bool:=λρ'=>(evK Rs Γ C 38).t N5 (Aa (nth K2 1)) ρ' ret
theorem bu:V7 C [qa,qb,qc,qd,some ua,qe,some ub]=bind (k8 ub) λx1=>bind (a9 .Gt x1 ua) λx2=>bind (asB x2) λz3=>ret z3:=by kernel_rfl
def D8:List Stmt:=n9 (nth K2 1)
def K7 (C:Cf):L3.Env->M Fl:=λρ'=>i4 (evK Rs Γ C 38) N5 D8 ρ' ret
theorem nc:(evK Rs Γ C 39).s N5 (nth K2 1) [qa,qb,qc,qd,qe,qf,qg] κ=bind (B8 (V7 C) (K7 C) 10000 [qa,qb,qc,qd,qe,qf,qg]) κ:=by kernel_rfl
theorem bN:D8=[nth D8 0]:=by kernel_rfl
theorem eD:(evK Rs Γ C 38).s N5 (nth D8 0) [some ua,qa,some ub,qb,some uc,qc,some ud] κ=bind (i9 uc (.int 1)) λx1=>bind (lstOf ud) λ_=>bind (k8 ud) λx2=>bind (C 14 [ua,x2]) λx3=>bind (popD ud [x3]) λx4=>bind (K3 ub x4 (.tup [x1,(.bl false)])) λ_=>κ (.nx [some ua,qa,some ub,qb,some uc,qc,some ud]):=by kernel_rfl
def L4:Lc:=A0 Ff
theorem tP:runK Rs Γ C Ff [ua,ub]=i4 (evK Rs Γ C 40) L4 Ff.body [some ua,some ub,none,none,none,none,none,none] endD:=by kernel_rfl
theorem tt:Ff.body=[nth Ff.body 0,nth Ff.body 1,nth Ff.body 2,nth Ff.body 3,nth Ff.body 4]:=by kernel_rfl
theorem Ar:(evK Rs Γ C 40).s L4 (nth Ff.body 0) [some ua,some ub,qa,qb,qc,qd,qe,qf] κ=bind (C 21 [ua,ub]) λx1=>κ (.nx [some ua,some ub,some x1,qb,qc,qd,qe,qf]):=by kernel_rfl
theorem Ck:(evK Rs Γ C 40).s L4 (nth Ff.body 1) [qa,qb,some ua,qc,qd,qe,qf,qg] κ=bind (nx (bind (G9 ua) λsm2=>f6 sm2.1 (λd1=>ret true) (λd1=>bind (a9 .Is d1 .non) λx3=>bind (asB x3) λz4=>if z4=true then (ret .non) else (bind (ixD d1 (.int 0)) λx5=>ret x5)) sm2.2 0 [])) λl6=>bind (t6 (.lst l6)) λx7=>κ (.nx [qa,qb,some ua,qc,some x7,qe,qf,qg]):=by kernel_rfl
theorem Cn:(evK Rs Γ C 40).s L4 (nth Ff.body 2) [qa,qb,qc,qd,qe,qf,qg,qh] κ=bind (newL []) λx1=>κ (.nx [qa,qb,qc,qd,qe,some x1,qg,qh]):=by kernel_rfl
def y3:List Stmt:=n9 (nth Ff.body 3)
def ff (C:Cf):L3.Env->M Fl:=λρ'=>i4 (evK Rs Γ C 39) L4 y3 ρ' ret
theorem CC:(evK Rs Γ C 40).s L4 (nth Ff.body 3) [qa,qb,some ua,qc,qd,qe,qf,qg] κ=bind (G9 ua) λsm1=>bind (i6 sm1.1 (λd ρ=>some (ρ.set 3 (some d))) (ff C) sm1.2 0 [qa,qb,some ua,qc,qd,qe,qf,qg]) κ:=by kernel_rfl
theorem CN:(evK Rs Γ C 40).s L4 (nth Ff.body 4) [qa,qb,qc,qd,some ua,some ub,qe,qf] κ=bind (t6 ub) λx1=>κ (.rt (.tup [ua,x1])):=by kernel_rfl
theorem eZ:y3=[nth y3 0,nth y3 1,nth y3 2]:=by kernel_rfl
theorem lN:(evK Rs Γ C 39).s L4 (nth y3 0) [qa,qb,qc,qd,qe,qf,qg,qh] κ=κ (.nx [qa,qb,qc,qd,qe,qf,some (.tup [(.str "out")]),qh]):=by kernel_rfl
theorem mf:(evK Rs Γ C 39).s L4 (nth y3 1) [some ua,qa,qb,some ub,some uc,qc,qd,qe] κ=bind (a9 .IsNot ub .non) λx1=>bind (asB x1) λz2=>if z2=true then (bind (ixD ub (.int 1)) λx3=>bind (e9 x3) λz4=>if z4=true then (bind (ixD ub (.int 0)) λx5=>bind (K1 x5 (.int 1)) λx6=>bind (ixD ub (.int 0)) λx7=>bind (C 16 [uc,x7]) λx8=>bind (ixD ub (.int 1)) λx9=>bind (e9 x9) λz10=>if (!z10)=true then (bind (k8 x8) λx11=>bind (ixD ub (.int 0)) λx12=>bind (a9 .Eq x11 x12) λx13=>bind (asB x13) λz14=>if z14=true then (bind (C 14 [ua,(.int 3)]) λx15=>bind (a9 .Gt x15 (.int 0)) λx16=>bind (asB x16) λz17=>if z17=true then (κ (.nx [some ua,qa,qb,some ub,some uc,qc,some (.tup [(.str "holds"),x8]),some x8])) else (κ (.nx [some ua,qa,qb,some ub,some uc,qc,some (.tup [(.str "put"),x6]),some x8]))) else (κ (.nx [some ua,qa,qb,some ub,some uc,qc,some (.tup [(.str "put"),x6]),some x8]))) else (κ (.nx [some ua,qa,qb,some ub,some uc,qc,some (.tup [(.str "put"),x6]),some x8]))) else (bind (ixD ub (.int 0)) λx18=>bind (ixD ub (.int 0)) λx19=>bind (C 16 [uc,x19]) λx20=>bind (ixD ub (.int 1)) λx21=>bind (e9 x21) λz22=>if (!z22)=true then (bind (k8 x20) λx23=>bind (ixD ub (.int 0)) λx24=>bind (a9 .Eq x23 x24) λx25=>bind (asB x25) λz26=>if z26=true then (bind (C 14 [ua,(.int 3)]) λx27=>bind (a9 .Gt x27 (.int 0)) λx28=>bind (asB x28) λz29=>if z29=true then (κ (.nx [some ua,qa,qb,some ub,some uc,qc,some (.tup [(.str "holds"),x20]),some x20])) else (κ (.nx [some ua,qa,qb,some ub,some uc,qc,some (.tup [(.str "look"),x18]),some x20]))) else (κ (.nx [some ua,qa,qb,some ub,some uc,qc,some (.tup [(.str "look"),x18]),some x20]))) else (κ (.nx [some ua,qa,qb,some ub,some uc,qc,some (.tup [(.str "look"),x18]),some x20])))) else (κ (.nx [some ua,qa,qb,some ub,some uc,qc,qd,qe])):=by kernel_rfl
theorem kq:(evK Rs Γ C 39).s L4 (nth y3 2) [qa,qb,qc,qd,qe,some ua,some ub,qf] κ=bind (lstOf ua) λ_=>bind (E5 ua [ub]) λx1=>κ (.nx [qa,qb,qc,qd,qe,some ua,some ub,qf]):=by kernel_rfl
def R6:Lc:=A0 Fk
theorem xV:runK Rs Γ C Fk [ua,ub]=i4 (evK Rs Γ C 40) R6 Fk.body [some ua,some ub,none,none,none,none,none,none,none] endD:=by kernel_rfl
theorem yW:Fk.body=[nth Fk.body 0,nth Fk.body 1,nth Fk.body 2,nth Fk.body 3]:=by kernel_rfl
theorem Eu:(evK Rs Γ C 40).s R6 (nth Fk.body 0) [qa,qb,qc,qd,qe,qf,qg,qh,qi] κ=bind (newL []) λx1=>κ (.nx [qa,qb,some x1,qd,qe,qf,qg,qh,qi]):=by kernel_rfl
theorem Dz:(evK Rs Γ C 40).s R6 (nth Fk.body 1) [qa,qb,qc,qd,qe,qf,qg,qh,qi] κ=bind (newL []) λx1=>κ (.nx [qa,qb,qc,some x1,qe,qf,qg,qh,qi]):=by kernel_rfl
def k7:List Stmt:=n9 (nth Fk.body 2)
def kN (C:Cf):L3.Env->M Fl:=λρ'=>i4 (evK Rs Γ C 39) R6 k7 ρ' ret
theorem Er:(evK Rs Γ C 40).s R6 (nth Fk.body 2) [qa,some ua,qb,qc,qd,qe,qf,qg,qh] κ=bind (j6 [ua]) λsm1=>bind (i6 sm1.1 (λd ρ=>some (ρ.set 4 (some d))) (kN C) sm1.2 0 [qa,some ua,qb,qc,qd,qe,qf,qg,qh]) κ:=by kernel_rfl
theorem Ee:(evK Rs Γ C 40).s R6 (nth Fk.body 3) [qa,qb,some ua,some ub,qc,qd,qe,qf,qg] κ=bind (t6 ua) λx1=>bind (t6 ub) λx2=>κ (.rt (.tup [x1,x2])):=by kernel_rfl
theorem gF:k7=[nth k7 0,nth k7 1,nth k7 2,nth k7 3,nth k7 4,nth k7 5,nth k7 6]:=by kernel_rfl
theorem oI:(evK Rs Γ C 39).s R6 (nth k7 0) [some ua,some ub,qa,qb,qc,qd,qe,qf,qg] κ=bind (C 14 [ua,ub]) λx1=>bind (i9 (.int 1) x1) λx2=>κ (.nx [some ua,some ub,qa,qb,qc,some x2,qe,qf,qg]):=by kernel_rfl
theorem rH:(evK Rs Γ C 39).s R6 (nth k7 1) [some ua,qa,qb,qc,qd,qe,qf,qg,qh] κ=bind (C 14 [ua,(.int 5)]) λx1=>κ (.nx [some ua,qa,qb,qc,qd,qe,some x1,qg,qh]):=by kernel_rfl
theorem nY:(evK Rs Γ C 39).s R6 (nth k7 2) [some ua,some ub,qa,qb,some uc,qc,qd,qe,qf] κ=bind (nx (bind (j6 [ub]) λsm2=>f6 sm2.1 (λd1=>bind (a9 .Eq d1 uc) λx3=>bind (asB x3) λz4=>if z4=true then (ret true) else (bind (C 14 [ua,(.int 2)]) λx5=>bind (a9 .Eq x5 (.int 0)) λx6=>bind (asB x6) λz7=>ret z7)) (λd1=>ret d1) sm2.2 0 [])) λl8=>bind (t6 (.lst l8)) λx9=>κ (.nx [some ua,some ub,qa,qb,some uc,qc,qd,some x9,qf]):=by kernel_rfl
theorem rA:(evK Rs Γ C 39).s R6 (nth k7 3) [qa,qb,qc,qd,qe,some ua,some ub,some uc,qf] κ=bind (K1 ua (.int 1)) λx1=>bind (ixD (.lst [(.tup [(.str "out")]),(.tup [(.str "look"),ua]),(.tup [(.str "put"),x1]),(.tup [(.str "holds"),uc]),(.tup [(.str "look"),ua])]) ub) λx2=>κ (.nx [qa,qb,qc,qd,qe,some ua,some ub,some uc,some x2]):=by kernel_rfl
theorem nW:(evK Rs Γ C 39).s R6 (nth k7 4) [qa,qb,qc,qd,qe,some ua,some ub,qf,qg] κ=bind (a9 .Eq ub (.int 2)) λx1=>bind (asB x1) λz2=>if z2=true then (bind (a9 .Eq ua (.int 1)) λx3=>bind (asB x3) λz4=>if z4=true then (κ (.nx [qa,qb,qc,qd,qe,some ua,some ub,qf,some (.tup [(.str "look"),(.int 1)])])) else (κ (.nx [qa,qb,qc,qd,qe,some ua,some ub,qf,qg]))) else (κ (.nx [qa,qb,qc,qd,qe,some ua,some ub,qf,qg])):=by kernel_rfl
theorem nA:(evK Rs Γ C 39).s R6 (nth k7 5) [qa,qb,qc,some ua,qd,qe,qf,qg,some ub] κ=bind (lstOf ua) λ_=>bind (E5 ua [ub]) λx1=>κ (.nx [qa,qb,qc,some ua,qd,qe,qf,qg,some ub]):=by kernel_rfl
theorem pD:(evK Rs Γ C 39).s R6 (nth k7 6) [qa,qb,some ua,qc,qd,some ub,some uc,some ud,qe] κ=bind (lstOf ua) λ_=>bind (k8 ud) λx1=>bind (ixD (.lst [.non,ub,ub,x1,ub]) uc) λx2=>bind (E5 ua [x2]) λx3=>κ (.nx [qa,qb,some ua,qc,qd,some ub,some uc,some ud,qe]):=by kernel_rfl
theorem uJ:runK Rs Γ C wf [ua,ub,uc]=bind (G8 "int" (λ_=>false) ua) λx1=>bind (e9 x1) λc2=>if c2=true then (bind (G8 "bool" (λ_=>false) ua) λx3=>bind (e9 x3) λc4=>bind (e9 (.bl (!c4))) λc5=>if c5=true then (bind (a9 .LtE ub ua) λx6=>bind (asB x6) λz7=>if z7=true then (bind (a9 .LtE ua uc) λx8=>ret x8) else (ret (.bl false))) else (ret (.bl (!c4)))) else (ret x1):=by kernel_rfl
theorem zc:runK Rs Γ C Ay [ua,ub,uc]=bind (G8 "tuple" (λ_=>false) ua) λx1=>bind (e9 x1) λz2=>if (!z2)=true then (ret (.bl false)) else (bind (k8 ua) λx3=>bind (a9 .NotIn x3 (.tup [(.int 1),(.int 2)])) λx4=>bind (asB x4) λz5=>if z5=true then (ret (.bl false)) else (bind (ixD ua (.int 0)) λx6=>bind (G8 "str" (λ_=>false) x6) λx7=>bind (e9 x7) λz8=>if (!z8)=true then (ret (.bl false)) else (bind (k8 ua) λx9=>bind (a9 .Eq x9 (.int 1)) λx10=>bind (asB x10) λz11=>if z11=true then (bind (a9 .Eq ua (.tup [(.str "out")])) λx12=>ret x12) else (bind (ixD ua (.int 0)) λx13=>bind (a9 .Eq x13 (.str "out")) λx14=>bind (asB x14) λz15=>if z15=true then (bind (a9 .Eq ua (.tup [(.str "out")])) λx16=>ret x16) else (bind (ixD ua (.int 0)) λx17=>bind (a9 .In x17 (.tup [(.str "look"),(.str "put")])) λx18=>bind (asB x18) λz19=>if z19=true then (bind (ixD ua (.int 1)) λx20=>bind (ixD ua (.int 0)) λx21=>bind (a9 .Eq x21 (.str "put")) λx22=>bind (qV x22) λx23=>bind (K1 ub x23) λx24=>bind (C 24 [x20,(.int 1),x24]) λx25=>ret x25) else (bind (ixD ua (.int 0)) λx26=>bind (a9 .NotEq x26 (.str "holds")) λx27=>bind (asB x27) λz28=>if z28=true then (ret (.bl false)) else (bind (ixD ua (.int 1)) λx29=>bind (G8 "tuple" (λ_=>false) x29) λx30=>bind (e9 x30) λz31=>if (!z31)=true then (ret (.bl false)) else (bind (nx (bind (ixD ua (.int 1)) λx33=>bind (G9 x33) λsm34=>f6 sm34.1 (λd32=>ret true) (λd32=>bind (K1 ub (.int 1)) λx35=>bind (C 24 [d32,(.int 0),x35]) λx36=>ret x36) sm34.2 0 [])) λl37=>bind (a9 .In (.bl false) (.lst l37)) λx38=>bind (asB x38) λz39=>if z39=true then (ret (.bl false)) else (bind (ixD ua (.int 1)) λx40=>bind (a9 .In uc x40) λx41=>bind (e9 x41) λc42=>if c42=true then (bind (ixD ua (.int 1)) λx43=>bind (E6 x43) λx44=>bind (ixD ua (.int 1)) λx45=>bind (jv x45) λx46=>bind (a9 .Eq x44 x46) λx47=>ret x47) else (ret x41)))))))))):=by kernel_rfl
theorem uS:runK Rs Γ C wY [ua,ub]=bind (G8 "tuple" (λ_=>false) ub) λx1=>bind (e9 x1) λz2=>if (!z2)=true then (ret (.bl false)) else (bind (k8 ub) λx3=>bind (a9 .NotEq x3 (.int 2)) λx4=>bind (asB x4) λz5=>if z5=true then (ret (.bl false)) else (bind (nx (bind (G9 ub) λsm7=>f6 sm7.1 (λd6=>ret true) (λd6=>bind (G8 "tuple" (λ_=>false) d6) λx8=>ret x8) sm7.2 0 [])) λl9=>bind (a9 .In (.bl false) (.lst l9)) λx10=>bind (asB x10) λz11=>if z11=true then (ret (.bl false)) else (bind (nx (bind (G9 ub) λsm13=>f6 sm13.1 (λd12=>ret true) (λd12=>bind (k8 d12) λx14=>ret x14) sm13.2 0 [])) λl15=>bind (a9 .NotEq (.lst l15) (.lst [ua,ua])) λx16=>bind (asB x16) λz17=>if z17=true then (ret (.bl false)) else (bind (nx (bind (ixD ub (.int 0)) λx19=>bind (G9 x19) λsm20=>f6 sm20.1 (λd18=>ret true) (λd18=>bind (a9 .Is d18 .non) λx21=>bind (e9 x21) λc22=>if c22=true then (ret x21) else (bind (C 24 [d18,(.int 1),ua]) λx23=>ret x23)) sm20.2 0 [])) λl24=>bind (a9 .In (.bl false) (.lst l24)) λx25=>bind (asB x25) λz26=>if z26=true then (ret (.bl false)) else (bind (nx (bind (j6 [ua]) λsm28=>f6 sm28.1 (λd27=>ret true) (λd27=>bind (ixD ub (.int 1)) λx29=>bind (ixD x29 d27) λx30=>bind (C 25 [x30,ua,d27]) λx31=>ret x31) sm28.2 0 [])) λl32=>bind (a9 .NotIn (.bl false) (.lst l32)) λx33=>ret x33))))):=by kernel_rfl
def Q1:Lc:=A0 Fm
theorem wM:runK Rs Γ C Fm [ua,ub]=i4 (evK Rs Γ C 40) Q1 Fm.body [some ua,some ub,none,none] endD:=by kernel_rfl
theorem tK:Fm.body=[nth Fm.body 0,nth Fm.body 1,nth Fm.body 2]:=by kernel_rfl
theorem CF:(evK Rs Γ C 40).s Q1 (nth Fm.body 0) [qa,qb,qc,qd] κ=κ (.nx [qa,qb,some (.tup [(.str "odd")]),qd]):=by kernel_rfl
def pc (C:Cf):L3.Env->M Fl:=bX (eIK (evK Rs Γ C 39) Γ C Q1) Q1 (nth (jC (nth Fm.body 1)) 0)
theorem bC:pc C [some ua,some ub,qa,qb]=bind (bind (C 9 [ua,ub]) λx1=>lf (λ_=>nx (ret (.str "let by"))) (λ_=>nx (ret (.tup [(.str "odd")]))) [some ua,some ub,qa,qb] x1 (.bl true)) λx2=>ret (.nx [some ua,some ub,some x2,qb]):=by kernel_rfl
def T5:List Stmt:=jQ (nth Fm.body 1)
def xa (C:Cf):L3.Env->M Fl:=λρ'=>i4 (evK Rs Γ C 39) (A6 Q1) T5 ρ' ret
theorem Cp:(evK Rs Γ C 40).s Q1 (nth Fm.body 1) [qa,qb,qc,qd] κ=bind (Z3 (pc C) (λc=>Γ.sub c 0) (some 3) (xa C) [qa,qb,qc,qd]) κ:=by kernel_rfl
theorem xG:(evK Rs Γ C 40).s Q1 (nth Fm.body 2) [qa,qb,some ua,qc] κ=κ (.rt ua):=by kernel_rfl
theorem fL:T5=[nth T5 0]:=by kernel_rfl
theorem lA:(evK Rs Γ C 39).s (A6 Q1) (nth T5 0) [qa,qb,qc,some ua] κ=bind (nx (C 18 [ua])) λx1=>κ (.nx [qa,qb,some x1,some ua]):=by kernel_rfl
def N8:Lc:=A0 Fh
theorem wQ:runK Rs Γ C Fh [ua,ub]=i4 (evK Rs Γ C 40) N8 Fh.body [some ua,some ub,none,none] endD:=by kernel_rfl
theorem vj:Fh.body=[nth Fh.body 0,nth Fh.body 1,nth Fh.body 2]:=by kernel_rfl
theorem Bd:(evK Rs Γ C 40).s N8 (nth Fh.body 0) [qa,qb,qc,qd] κ=κ (.nx [qa,qb,some (.tup [(.str "odd")]),qd]):=by kernel_rfl
def oN (C:Cf):L3.Env->M Fl:=bX (eIK (evK Rs Γ C 39) Γ C N8) N8 (nth (jC (nth Fh.body 1)) 0)
theorem bL:oN C [some ua,some ub,qa,qb]=bind (C 6 [ua,ub]) λx1=>ret (.nx [some ua,some ub,some x1,qb]):=by kernel_rfl
def P7:List Stmt:=jQ (nth Fh.body 1)
def yF (C:Cf):L3.Env->M Fl:=λρ'=>i4 (evK Rs Γ C 39) (A6 N8) P7 ρ' ret
theorem Bp:(evK Rs Γ C 40).s N8 (nth Fh.body 1) [qa,qb,qc,qd] κ=bind (Z3 (oN C) (λc=>Γ.sub c 0) (some 3) (yF C) [qa,qb,qc,qd]) κ:=by kernel_rfl
theorem CY:(evK Rs Γ C 40).s N8 (nth Fh.body 2) [qa,qb,some ua,qc] κ=κ (.rt ua):=by kernel_rfl
theorem ei:P7=[nth P7 0]:=by kernel_rfl
theorem lM:(evK Rs Γ C 39).s (A6 N8) (nth P7 0) [qa,qb,qc,some ua] κ=bind (nx (C 18 [ua])) λx1=>κ (.nx [qa,qb,some x1,some ua]):=by kernel_rfl
def v5:Lc:=A0 BT
theorem vh:runK Rs Γ C BT [ua,ub]=i4 (evK Rs Γ C 40) v5 BT.body [some ua,some ub,none,none,none,none,none,none,none,none,none,none,none,none] endD:=by kernel_rfl
theorem sy:BT.body=[nth BT.body 0,nth BT.body 1,nth BT.body 2,nth BT.body 3,nth BT.body 4,nth BT.body 5,nth BT.body 6,nth BT.body 7,nth BT.body 8,nth BT.body 9,nth BT.body 10,nth BT.body 11,nth BT.body 12,nth BT.body 13]:=by kernel_rfl
theorem Ch:(evK Rs Γ C 40).s v5 (nth BT.body 0) [qa,some ua,qb,qc,qd,qe,qf,qg,qh,qi,qj,qk,ql,qm] κ=bind (Z5 (p8 [2,3]) ua [qa,some ua,qb,qc,qd,qe,qf,qg,qh,qi,qj,qk,ql,qm]) κ:=by kernel_rfl
theorem An:(evK Rs Γ C 40).s v5 (nth BT.body 1) [qa,qb,some ua,qc,qd,qe,qf,qg,qh,qi,qj,qk,ql,qm] κ=bind (k8 ua) λx1=>κ (.nx [qa,qb,some ua,qc,some x1,qe,qf,qg,qh,qi,qj,qk,ql,qm]):=by kernel_rfl
theorem CV:(evK Rs Γ C 40).s v5 (nth BT.body 2) [some ua,qa,qb,qc,some ub,qd,qe,qf,qg,qh,qi,qj,qk,ql] κ=bind (C 14 [ua,ub]) λx1=>κ (.nx [some ua,qa,qb,qc,some ub,some x1,qe,qf,qg,qh,qi,qj,qk,ql]):=by kernel_rfl
theorem CQ:(evK Rs Γ C 40).s v5 (nth BT.body 3) [some ua,qa,qb,qc,some ub,qd,qe,qf,qg,qh,qi,qj,qk,ql] κ=bind (C 23 [ua,ub]) λx1=>κ (.nx [some ua,qa,qb,qc,some ub,qd,some x1,qf,qg,qh,qi,qj,qk,ql]):=by kernel_rfl
theorem Bj:(evK Rs Γ C 40).s v5 (nth BT.body 4) [some ua,qa,qb,qc,qd,qe,qf,qg,qh,qi,qj,qk,ql,qm] κ=bind (C 14 [ua,(.int 6)]) λx1=>κ (.nx [some ua,qa,qb,qc,qd,qe,qf,some x1,qh,qi,qj,qk,ql,qm]):=by kernel_rfl
theorem Bk:(evK Rs Γ C 40).s v5 (nth BT.body 5) [some ua,qa,some ub,some uc,some ud,some ue,qb,some uf,qc,qd,qe,qf,qg,qh] κ=bind (a9 .Eq uf (.int 0)) λx1=>bind (asB x1) λz2=>if z2=true then (bind (C 14 [ua,ud]) λx3=>bind (i9 (.int 1) x3) λx4=>bind (C 14 [ua,(.int 2)]) λx5=>bind (ixD (.lst [.non,x4]) x5) λx6=>bind (C 15 [ub,ue,x6]) λx7=>κ (.rt (.tup [x7,uc]))) else (κ (.nx [some ua,qa,some ub,some uc,some ud,some ue,qb,some uf,qc,qd,qe,qf,qg,qh])):=by kernel_rfl
theorem CI:(evK Rs Γ C 40).s v5 (nth BT.body 6) [qa,qb,some ua,some ub,qc,some uc,some ud,some ue,qd,qe,qf,qg,qh,qi] κ=bind (a9 .Eq ue (.int 1)) λx1=>bind (asB x1) λz2=>if z2=true then (bind (ixD ud (.int 1)) λx3=>bind (ixD x3 uc) λx4=>bind (C 15 [ub,uc,x4]) λx5=>κ (.rt (.tup [ua,x5]))) else (κ (.nx [qa,qb,some ua,some ub,qc,some uc,some ud,some ue,qd,qe,qf,qg,qh,qi])):=by kernel_rfl
theorem Bf:(evK Rs Γ C 40).s v5 (nth BT.body 7) [qa,qb,some ua,some ub,qc,some uc,some ud,some ue,qd,qe,qf,qg,qh,qi] κ=bind (a9 .Eq ue (.int 2)) λx1=>bind (asB x1) λz2=>if z2=true then (bind (ixD ud (.int 0)) λx3=>bind (ixD x3 uc) λx4=>bind (C 15 [ua,uc,x4]) λx5=>bind (ixD ud (.int 1)) λx6=>bind (ixD x6 uc) λx7=>bind (C 15 [ub,uc,x7]) λx8=>κ (.rt (.tup [x5,x8]))) else (κ (.nx [qa,qb,some ua,some ub,qc,some uc,some ud,some ue,qd,qe,qf,qg,qh,qi])):=by kernel_rfl
theorem CD:(evK Rs Γ C 40).s v5 (nth BT.body 8) [some ua,qa,some ub,some uc,some ud,qb,qc,some ue,qd,qe,qf,qg,qh,qi] κ=bind (a9 .Eq ue (.int 3)) λx1=>bind (asB x1) λz2=>if z2=true then (bind (C 14 [ua,ud]) λx3=>bind (i9 (.int 1) x3) λx4=>bind (nx (bind (j6 [ud]) λsm6=>f6 sm6.1 (λd5=>bind (C 14 [ua,(.int 2)]) λx7=>bind (a9 .Eq x7 (.int 0)) λx8=>bind (asB x8) λz9=>ret z9) (λd5=>ret d5) sm6.2 0 [])) λl10=>bind (nx (bind (j6 [ud]) λsm12=>f6 sm12.1 (λd11=>ret true) (λd11=>bind (a9 .In d11 (.lst l10)) λx13=>bind (asB x13) λz14=>if z14=true then (ret x4) else (bind (ixD ub d11) λx15=>ret x15)) sm12.2 0 [])) λl16=>bind (t6 (.lst l16)) λx17=>bind (nx (bind (j6 [ud]) λsm19=>f6 sm19.1 (λd18=>ret true) (λd18=>bind (a9 .In d18 (.lst l10)) λx20=>bind (asB x20) λz21=>if z21=true then (ret (.tup [(.str "look"),x4])) else (bind (ixD uc d18) λx22=>ret x22)) sm19.2 0 [])) λl23=>bind (t6 (.lst l23)) λx24=>κ (.rt (.tup [x17,x24]))) else (κ (.nx [some ua,qa,some ub,some uc,some ud,qb,qc,some ue,qd,qe,qf,qg,qh,qi])):=by kernel_rfl
theorem Au:(evK Rs Γ C 40).s v5 (nth BT.body 9) [qa,qb,some ua,qc,qd,some ub,qe,qf,qg,qh,qi,qj,qk,ql] κ=bind (ixD ua ub) λx1=>bind (a9 .IsNot x1 .non) λx2=>bind (asB x2) λz3=>if z3=true then (bind (ixD ua ub) λx4=>κ (.nx [qa,qb,some ua,qc,qd,some ub,qe,qf,qg,qh,some x4,qj,qk,ql])) else (κ (.nx [qa,qb,some ua,qc,qd,some ub,qe,qf,qg,qh,some (.int 1),qj,qk,ql])):=by kernel_rfl
theorem yA:(evK Rs Γ C 40).s v5 (nth BT.body 10) [some ua,qa,qb,qc,some ub,qd,qe,qf,qg,qh,qi,qj,qk,ql] κ=bind (C 14 [ua,ub]) λx1=>κ (.nx [some ua,qa,qb,qc,some ub,qd,qe,qf,qg,qh,qi,some x1,qk,ql]):=by kernel_rfl
theorem yQ:(evK Rs Γ C 40).s v5 (nth BT.body 11) [qa,qb,qc,qd,some ua,some ub,qe,qf,qg,qh,qi,some uc,qj,qk] κ=bind (nx (bind (j6 [ua]) λsm2=>f6 sm2.1 (λd1=>bind (i9 d1 uc) λx3=>bind (N6 x3 ua) λx4=>bind (a9 .NotEq x4 ub) λx5=>bind (asB x5) λz6=>ret z6) (λd1=>bind (i9 d1 uc) λx7=>bind (N6 x7 ua) λx8=>ret x8) sm2.2 0 [])) λl9=>κ (.nx [qa,qb,qc,qd,some ua,some ub,qe,qf,qg,qh,qi,some uc,some (.lst l9),qk]):=by kernel_rfl
theorem xw:(evK Rs Γ C 40).s v5 (nth BT.body 12) [qa,qb,qc,qd,qe,some ua,qf,qg,qh,qi,some ub,qj,some uc,qk] κ=bind (K1 ub (.int 1)) λx1=>bind (Z0 x1) λn2=>bind (slD uc none n2) λx3=>bind (i9 (.lst [ua]) x3) λx4=>bind (M0 x4) λx5=>bind (t6 x5) λx6=>κ (.nx [qa,qb,qc,qd,qe,some ua,qf,qg,qh,qi,some ub,qj,some uc,some x6]):=by kernel_rfl
theorem yf:(evK Rs Γ C 40).s v5 (nth BT.body 13) [qa,qb,some ua,some ub,qc,some uc,qd,qe,qf,qg,qh,qi,qj,some ud] κ=bind (k8 ud) λx1=>bind (C 15 [ua,uc,x1]) λx2=>bind (C 15 [ub,uc,(.tup [(.str "holds"),ud])]) λx3=>κ (.rt (.tup [x2,x3])):=by kernel_rfl
def Y1:Lc:=A0 Fn
theorem vI:runK Rs Γ C Fn [ua,ub]=i4 (evK Rs Γ C 40) Y1 Fn.body [some ua,some ub,none,none,none] endD:=by kernel_rfl
theorem tI:Fn.body=[nth Fn.body 0,nth Fn.body 1]:=by kernel_rfl
def u0:List Stmt:=n9 (nth Fn.body 0)
def eV (C:Cf):L3.Env->M Fl:=λρ'=>i4 (evK Rs Γ C 39) Y1 u0 ρ' ret
theorem DC:(evK Rs Γ C 40).s Y1 (nth Fn.body 0) [some ua,qa,qb,qc,qd] κ=bind (j6 [ua]) λsm1=>bind (i6 sm1.1 (λd ρ=>some (ρ.set 2 (some d))) (eV C) sm1.2 0 [some ua,qa,qb,qc,qd]) κ:=by kernel_rfl
theorem At:(evK Rs Γ C 40).s Y1 (nth Fn.body 1) [qa,qb,qc,qd,qe] κ=κ (.rt (.bl true)):=by kernel_rfl
theorem fR:u0=[nth u0 0,nth u0 1,nth u0 2,nth u0 3]:=by kernel_rfl
theorem mZ:(evK Rs Γ C 39).s Y1 (nth u0 0) [qa,some ua,some ub,qb,qc] κ=bind (C 17 [ua,ub]) λx1=>κ (.nx [qa,some ua,some ub,some x1,qc]):=by kernel_rfl
theorem mN:(evK Rs Γ C 39).s Y1 (nth u0 1) [qa,some ua,some ub,qb,qc] κ=bind (C 28 [ua,ub]) λx1=>κ (.nx [qa,some ua,some ub,qb,some x1]):=by kernel_rfl
theorem mQ:(evK Rs Γ C 39).s Y1 (nth u0 2) [qa,qb,some ua,some ub,some uc] κ=bind (X7 uc) λx1=>bind (a9 .Is ub .non) λx2=>bind (asB x2) λz3=>if z3=true then (bind (X7 (.tup [(.str "step"),ua])) λx4=>bind (a9 .NotEq x1 x4) λx5=>bind (asB x5) λz6=>if z6=true then (κ (.rt (.bl false))) else (κ (.nx [qa,qb,some ua,some ub,some uc]))) else (bind (X7 ub) λx7=>bind (a9 .NotEq x1 x7) λx8=>bind (asB x8) λz9=>if z9=true then (κ (.rt (.bl false))) else (κ (.nx [qa,qb,some ua,some ub,some uc]))):=by kernel_rfl
theorem cI:(evK Rs Γ C 39).s Y1 (nth u0 3) [some ua,qa,qb,some ub,some uc] κ=bind (a9 .IsNot ub .non) λx1=>bind (asB x1) λz2=>if z2=true then (bind (C 27 [ua,uc]) λx3=>bind (a9 .NotEq x3 (.str "let by")) λx4=>bind (asB x4) λz5=>if z5=true then (κ (.rt (.bl false))) else (κ (.nx [some ua,qa,qb,some ub,some uc]))) else (κ (.nx [some ua,qa,qb,some ub,some uc])):=by kernel_rfl
def Y8:Lc:=A0 Fo
theorem sj:runK Rs Γ C Fo [ua,ub,uc]=i4 (evK Rs Γ C 40) Y8 Fo.body [some ua,some ub,some uc,none,none] endD:=by kernel_rfl
theorem vG:Fo.body=[nth Fo.body 0,nth Fo.body 1]:=by kernel_rfl
def v9:List Stmt:=n9 (nth Fo.body 0)
def fg (C:Cf):L3.Env->M Fl:=λρ'=>i4 (evK Rs Γ C 39) Y8 v9 ρ' ret
theorem Aq:(evK Rs Γ C 40).s Y8 (nth Fo.body 0) [qa,qb,qc,qd,qe] κ=bind (j6 [(.int 12)]) λsm1=>bind (i6 sm1.1 (λd ρ=>some (ρ.set 3 (some d))) (fg C) sm1.2 0 [qa,qb,qc,qd,qe]) κ:=by kernel_rfl
theorem As:(evK Rs Γ C 40).s Y8 (nth Fo.body 1) [qa,qb,qc,qd,qe] κ=κ (.rt (.bl true)):=by kernel_rfl
theorem gB:v9=[nth v9 0,nth v9 1,nth v9 2]:=by kernel_rfl
theorem li:(evK Rs Γ C 39).s Y8 (nth v9 0) [some ua,some ub,some uc,qa,qb] κ=bind (C 14 [ua,ub]) λx1=>bind (C 17 [uc,x1]) λx2=>κ (.nx [some ua,some ub,some uc,qa,some x2]):=by kernel_rfl
theorem km:(evK Rs Γ C 39).s Y8 (nth v9 1) [qa,qb,some ua,qc,some ub] κ=bind (a9 .Is ub .non) λx1=>bind (asB x1) λz2=>if z2=true then (κ (.nx [qa,qb,some ua,qc,some ub])) else (κ (.nx [qa,qb,some ub,qc,some ub])):=by kernel_rfl
theorem kg:(evK Rs Γ C 39).s Y8 (nth v9 2) [qa,some ua,some ub,qb,qc] κ=bind (C 27 [ua,ub]) λx1=>bind (a9 .NotEq x1 (.str "let by")) λx2=>bind (asB x2) λz3=>if z3=true then (κ (.rt (.bl false))) else (bind (C 30 [ua,ub]) λx4=>bind (e9 x4) λz5=>if (!z5)=true then (κ (.rt (.bl false))) else (κ (.nx [qa,some ua,some ub,qb,qc]))):=by kernel_rfl
def v4:Lc:=A0 law_F
theorem vD:runK Rs Γ C law_F [ua]=i4 (evK Rs Γ C 40) v4 law_F.body [some ua,none,none,none,none,none,none,none] endD:=by kernel_rfl
theorem uC:law_F.body=[nth law_F.body 0,nth law_F.body 1]:=by kernel_rfl
def f9:List Stmt:=n9 (nth law_F.body 0)
def eJ (C:Cf):L3.Env->M Fl:=λρ'=>i4 (evK Rs Γ C 39) v4 f9 ρ' ret
theorem DW:(evK Rs Γ C 40).s v4 (nth law_F.body 0) [qa,qb,qc,qd,qe,qf,qg,qh] κ=bind (j6 [(.int 4)]) λsm1=>bind (i6 sm1.1 (λd ρ=>some (ρ.set 1 (some d))) (eJ C) sm1.2 0 [qa,qb,qc,qd,qe,qf,qg,qh]) κ:=by kernel_rfl
theorem Ct:(evK Rs Γ C 40).s v4 (nth law_F.body 1) [qa,qb,qc,qd,qe,qf,qg,qh] κ=κ (.rt (.bl true)):=by kernel_rfl
theorem fE:f9=[nth f9 0,nth f9 1,nth f9 2,nth f9 3,nth f9 4,nth f9 5,nth f9 6,nth f9 7]:=by kernel_rfl
theorem ly:(evK Rs Γ C 39).s v4 (nth f9 0) [some ua,some ub,qa,qb,qc,qd,qe,qf] κ=bind (C 13 [ua,ub]) λx1=>κ (.nx [some ua,some ub,some x1,qb,qc,qd,qe,qf]):=by kernel_rfl
theorem kr:(evK Rs Γ C 39).s v4 (nth f9 1) [qa,qb,some ua,qc,qd,qe,qf,qg] κ=bind (C 14 [ua,(.int 6)]) λx1=>bind (ixD (.lst [(.int 6),(.int 5),(.int 4),(.int 3),(.int 2),(.int 1)]) x1) λx2=>κ (.nx [qa,qb,some ua,some x2,qd,qe,qf,qg]):=by kernel_rfl
theorem mR:(evK Rs Γ C 39).s v4 (nth f9 2) [qa,qb,qc,some ua,qd,qe,qf,qg] κ=bind (C 5 [ua]) λx1=>bind (C 27 [ua,x1]) λx2=>bind (a9 .NotEq x2 (.str "let by")) λx3=>bind (asB x3) λz4=>if z4=true then (κ (.rt (.bl false))) else (κ (.nx [qa,qb,qc,some ua,qd,qe,qf,qg])):=by kernel_rfl
theorem kt:(evK Rs Γ C 39).s v4 (nth f9 3) [qa,qb,some ua,some ub,qc,qd,qe,qf] κ=bind (C 22 [ua,ub]) λx1=>κ (.nx [qa,qb,some ua,some ub,some x1,qd,qe,qf]):=by kernel_rfl
theorem lX:(evK Rs Γ C 39).s v4 (nth f9 4) [qa,qb,qc,qd,some ua,qe,qf,qg] κ=bind (newL [ua]) λx1=>κ (.nx [qa,qb,qc,qd,some ua,some x1,qf,qg]):=by kernel_rfl
def B3:List Stmt:=n9 (nth f9 5)
def E2 (C:Cf):L3.Env->M Fl:=λρ'=>i4 (evK Rs Γ C 38) v4 B3 ρ' ret
theorem lx:(evK Rs Γ C 39).s v4 (nth f9 5) [qa,qb,qc,qd,qe,qf,qg,qh] κ=bind (j6 [(.int 8)]) λsm1=>bind (i6 sm1.1 (λd ρ=>some (ρ.set 6 (some d))) (E2 C) sm1.2 0 [qa,qb,qc,qd,qe,qf,qg,qh]) κ:=by kernel_rfl
def A7:List Stmt:=n9 (nth f9 6)
def F9 (C:Cf):L3.Env->M Fl:=λρ'=>i4 (evK Rs Γ C 38) v4 A7 ρ' ret
theorem mO:(evK Rs Γ C 39).s v4 (nth f9 6) [qa,qb,qc,qd,qe,some ua,qf,qg] κ=bind (G9 ua) λsm1=>bind (i6 sm1.1 (λd ρ=>some (ρ.set 7 (some d))) (F9 C) sm1.2 0 [qa,qb,qc,qd,qe,some ua,qf,qg]) κ:=by kernel_rfl
theorem mD:(evK Rs Γ C 39).s v4 (nth f9 7) [qa,qb,some ua,some ub,some uc,qc,qd,qe] κ=bind (C 31 [ua,ub,uc]) λx1=>bind (e9 x1) λz2=>if (!z2)=true then (κ (.rt (.bl false))) else (κ (.nx [qa,qb,some ua,some ub,some uc,qc,qd,qe])):=by kernel_rfl
theorem Z1:B3=[nth B3 0]:=by kernel_rfl
theorem cD:(evK Rs Γ C 38).s v4 (nth B3 0) [qa,qb,some ua,qc,some ub,some uc,qd,qe] κ=bind (lstOf uc) λ_=>bind (C 29 [ua,ub]) λx1=>bind (C 20 [ua,ub]) λx2=>bind (C 14 [ua,(.int 2)]) λx3=>bind (ixD (.lst [x1,x2]) x3) λx4=>bind (E5 uc [x4]) λx5=>κ (.nx [qa,qb,some ua,qc,some ub,some uc,qd,qe]):=by kernel_rfl
theorem Z2:A7=[nth A7 0]:=by kernel_rfl
theorem bw:(evK Rs Γ C 38).s v4 (nth A7 0) [qa,qb,qc,some ua,qd,qe,qf,some ub] κ=bind (C 27 [ua,ub]) λx1=>bind (a9 .Eq x1 (.str "let by")) λx2=>bind (asB x2) λz3=>if z3=true then (bind (C 26 [ua,ub]) λx4=>bind (e9 x4) λz5=>if (!z5)=true then (κ (.rt (.bl false))) else (bind (C 30 [ua,ub]) λx6=>bind (e9 x6) λz7=>if (!z7)=true then (κ (.rt (.bl false))) else (κ (.nx [qa,qb,qc,some ua,qd,qe,qf,some ub])))) else (κ (.nx [qa,qb,qc,some ua,qd,qe,qf,some ub])):=by kernel_rfl
end
theorem f8 {p N m:Nat} {S:Sto} (h:Fw ns p (N+1) S) (b:0<m) (a:m<1073741824) (k:Nat):Ok (rn (k+1) E9 [.ref p,.int (m:Int)]) S λd S'=>∃ r:Nat,d=.int (r:Int)/\r<m/\Fw ns p N S'/\S'.length=S.length/\∀ q,q≠p->S'[q]?=S[q]?:=by
 rw [rn,b8 rfl,uA];exact nt h b a
def Kp (p:Nat) (S S':Sto):Prop:=S'.length=S.length/\∀ q,q≠p->S'[q]?=S[q]?
theorem Kp.tr (a:Kp p S T) (b:Kp p T U):Kp p S U:=⟨b.1.trans a.1,λq h=>(b.2 q h).trans (a.2 q h)⟩
theorem Z9 {S:Sto} {ds:List D} (h:Fw ns p (N+1) S) (f:0<m) (l:ds.length=m) (b:m<1000000) (k:Nat):Ok (bind (rn (k+1) E9 [.ref p,.int (m:Int)]) λi=>bind (ixD (.lst ds) i) ret) S λd S'=>d∈ds/\Fw ns p N S'/\Kp p S S':=by
 refine Ok.bind ((f8 h f (by omega) k).mono ?_);rintro _ S1 ⟨r,rfl,j,g,e,c⟩;have a:r<ds.length:=by omega
 exact Ok.eq (mU S1 (Fy a)) (Ok.ret ⟨GC a,g,e,c⟩)
section
variable (C:Cf) (p:D) (ds:List D)
def odds:List D:=[.non,.bl true,.bl false,.int 0,.int 1,.int 2,.int (-1),.int 7,.int 1000000000000000000000000000000000000000,.str "",.str "out",.str "look",.str "holds",.tup [],.lst [],.tup [.int 0],.tup [.str "out"],.tup [.str "rests"]]
theorem tR:runK Rs Γ C pL [p]=bind (C E9 [p,.int 18]) λi=>bind (ixD (.lst odds) i) ret:=by kernel_rfl
def bIn:M D:=bind (C E9 [p,.int ds.length]) λa=>bind (Z0 a) λu=>bind (slD (.tup ds) none u) λh=>bind (ixD (.tup ds) a) λy=>bind (C sG [p,y]) λd=>bind (i9 h (.tup [d])) λb=>bind (i9 a (.int 1)) λc=>bind (Z0 c) λl=>bind (slD (.tup ds) l none) λr=>bind (i9 b r) ret
def rG:M D:=bind (i9 (.tup ds) (.tup (u6 ds (some (-1)) none))) λm2=>bind (C M6 [p]) λo=>bind (C E9 [p,.int 8]) λi=>bind (ixD (.lst [.lst ds,.tup (u6 ds (some 1) none),.tup (u6 ds none (some (-1))),m2,.tup ds.reverse,.tup [],.tup [.tup ds],o]) i) ret
theorem mn:runK Rs Γ C K4 [p,.tup ds]=bind (a9 .NotEq (.tup ds) (.tup [])) λe=>bind (asB e) λz=>if z=true then (bind (C E9 [p,.int 5]) λq=>bind (a9 .Gt q (.int 0)) λe=>bind (asB e) λz=>if z=true then bIn C p ds else rG C p ds) else rG C p ds:=by kernel_rfl
theorem uG (z:Bool):runK Rs Γ C K4 [p,.bl z]=bind (C M6 [p]) ret:=by kernel_rfl
theorem oV:runK Rs Γ C K4 [p,.non]=bind (C M6 [p]) ret:=by kernel_rfl
theorem sJ:runK Rs Γ C K4 [p,.lst ds]=bind (C M6 [p]) ret:=by kernel_rfl
theorem pj (i:Int):runK Rs Γ C K4 [p,.int i]=bind (tN (.int i)) λs=>bind (C M6 [p]) λo=>bind (C E9 [p,.int 8]) λn=>bind (ixD (.lst [.int (i+1),.int (i-1),.bl (decide (i=1)),.bl (decide (i=0)),.non,s,.int (-i),o]) n) ret:=by kernel_rfl
def words:List D:=[.str "out",.str "ask",.str "close",.str "look",.str "holds",.str "put",.str "rests",.str "tries",.str "right",.str "down"]
theorem pO (x:Str):runK Rs Γ C K4 [p,.str x]=bind (i9 (.str x) (.str "x")) λa=>bind (i9 (.lst (words++[a,.str ""])) (.lst [.lst [],.lst [.str x]])) λl=>bind (C E9 [p,.int 14]) λn=>bind (ixD l n) ret:=by kernel_rfl
end
theorem oO:odds.all (smB 1 100)=true:=by decide +kernel
theorem ay (h:Fw ns p (N+1) S) (k:Nat):Ok (rn (k+2) M6 [.ref p]) S λd S'=>(Pln 0 d/\dp d<=1/\sz d<=100)/\Fw ns p N S'/\Kp p S S':=by
 rw [rn,b8 rfl,tR];refine (Z9 (m:=18) h (by omega) rfl (by omega) k).mono ?_;rintro d S' ⟨hd,f,g⟩;exact ⟨u8 (FX.mp oO d hd),f,g⟩
structure Bt (j:Nat) (d d':D):Prop where
 pl:Pln (j+1) d'
 dp:dp d'<=dp d+1
 sz:sz d'<=2 * sz d+500
theorem Bt.odd {d o:D} (h:Pln 0 o/\L3.dp o<=1/\L3.sz o<=100):Bt j d o:=⟨h.1.ups,by omega,by omega⟩
theorem jZ {S:Sto} {ds:List D} (h:Fw ns p (N+2) S) (pl:Plns j ds) (hz:szs ds<=1000000) (k:Nat):Ok (rG (rn (k+2)) (.ref p) ds) S λd' S'=>Bt j (.tup ds) d'/\Fw ns p N S'/\Kp p S S':=by
 have r:=aL ds;have b:=Plns.up ds pl;have c:=dQ ds (some (-1)) none;have f:=dQ ds (some 1) none;have e:=dQ ds none (some (-1));have t:=cz c;have x:=cz f;have y:=cz e;have v:=c.length_le;refine Ok.eq (cat_tup (by rw [Gf];omega)) (Ok.bind ((ay h k).mono ?_));rintro o S1 ⟨s,i,g⟩;refine (Z9 (m:=8) i (by omega) rfl (by omega) (k+1)).mono ?_;rintro d' S2 ⟨hd,n,l⟩;refine ⟨?_,n,g.tr l⟩;have u:dp (.tup ds)=dps ds+1:=rfl;have w:sz (.tup ds)=szs ds+3:=rfl;simp at hd;rcases hd with rfl | rfl | rfl | rfl | rfl | rfl | rfl | rfl
 ·exact ⟨b,by show dps ds+1<=_;omega,by show szs ds+3<=_;omega⟩
 ·exact ⟨b.sub λd hd=>f.subset hd,by have:=aE λd hd=>f.subset hd;show dps _+1<=_;omega,by show szs _+3<=_;omega⟩
 ·exact ⟨b.sub λd hd=>e.subset hd,by have:=aE λd hd=>e.subset hd;show dps _+1<=_;omega,by show szs _+3<=_;omega⟩
 ·have a:∀ d∈ds++u6 ds (some (-1)) none,d∈ds:=λd hd=>by
   rcases Gh.mp hd with q | q
   ·exact q
   ·exact c.subset q
  exact ⟨b.sub a,by have:=aE a;show dps _+1<=_;omega,by show szs _+3<=_;rw [N0];omega⟩
 ·have a:∀ d∈ds.reverse,d∈ds:=λd hd=>List.mem_reverse.mp hd;exact ⟨b.sub a,by have:=aE a;show dps _+1<=_;omega,by show szs _+3<=_;rw [kR];omega⟩
 ·exact ⟨trivial,by show 0+1<=_;omega,by show 0+3<=_;omega⟩
 ·exact ⟨⟨b,trivial⟩,by show max (dps ds+1) 0+1<=_;omega,by show szs ds+3+2+0+3<=_;omega⟩
 ·exact Bt.odd s
theorem iq:∀ (k:Nat) (d:D) (j N:Nat) (S:Sto),Pln j d->dp d<=k->dp d<=3+j->j<=40->sz d<=1000000->Fw ns p (N+4 * (k+1)) S->Ok (rn (k+3) sG [.ref p,d]) S λd' S'=>Bt j d d'/\Fw ns p N S'/\Kp p S S'
 | k,.non,j,N,S,pl,hd,c,l,hz,h=>by
  rw [rn,b8 (fd:=K4) rfl,oV];refine Ok.bind ((ay (N:=N) (h.less (by omega)) k).mono ?_);rintro o S1 ⟨n,g,f⟩;exact Ok.ret ⟨Bt.odd n,g,f⟩
 | k,.lst ds,j,N,S,pl,hd,c,l,hz,h=>by
  rw [rn,b8 (fd:=K4) rfl,sJ];refine Ok.bind ((ay (N:=N) (h.less (by omega)) k).mono ?_);rintro o S1 ⟨n,g,f⟩;exact Ok.ret ⟨Bt.odd n,g,f⟩
 | k,.bl b,j,N,S,pl,hd,c,l,hz,h=>by
  rw [rn,b8 (fd:=K4) rfl,uG];refine Ok.bind ((ay (N:=N) (h.less (by omega)) k).mono ?_);rintro o S1 ⟨n,g,f⟩;exact Ok.ret ⟨Bt.odd n,g,f⟩
 | k,.int i,j,N,S,pl,hd,c,l,hz,h=>by
  rw [rn,b8 (fd:=K4) rfl,pj];have pl:i.natAbs<=C9 j:=pl;have I:=Gg (kK pl (by omega));have H:sz (.int i)=60:=rfl;have Y:(Str.ofString (toString i)).length<=41:=by
   have e:=int_text_length_le10 (k:=40) (a:=i) (by decide) (by unfold C9 at pl;omega);rw [PySem.ofString_length];omega
  refine Ok.eq (show tN (.int i) S=.ok (.str (Str.ofString (toString i))) S by
   show (if i.natAbs.log2<1920 then ret (D.str (toString i)) else bad) S=_;rw [if_pos I];rfl) (Ok.bind ((ay (N:=N+1) (h.less (by omega)) k).mono ?_))
  rintro o S1 ⟨n,g,f⟩;refine (Z9 (m:=8) g (by omega) rfl (by omega) (k+1)).mono ?_;rintro d' S2 ⟨hd,t,u⟩;refine ⟨?_,t,f.tr u⟩;simp only [FP,Hc,JC] at hd;rcases hd with rfl | rfl | rfl | rfl | rfl | rfl | rfl | rfl
  ·exact ⟨by show (i+1).natAbs<=C9 (j+1);unfold C9 at *;omega,Gu _,by show 60<=_;omega⟩
  ·exact ⟨by show (i-1).natAbs<=C9 (j+1);unfold C9 at *;omega,Gu _,by show 60<=_;omega⟩
  ·exact ⟨trivial,Gu _,by show 5<=_;omega⟩
  ·exact ⟨trivial,Gu _,by show 5<=_;omega⟩
  ·exact Bt.odd ⟨trivial,Gu _,by decide⟩
  ·exact ⟨⟨by omega,tU i⟩,Gu _,by show 10 * _+2<=_;omega⟩
  ·exact ⟨by show (-i).natAbs<=C9 (j+1);unfold C9 at *;omega,Gu _,by show 60<=_;omega⟩
  ·exact Bt.odd n
 | k,.str x,j,N,S,pl,hd,c,l,hz,h=>by
  rw [rn,b8 rfl,pO];have pl:=pl;obtain ⟨X,F⟩:=pl;have H:sz (.str x)=10 * x.length+2:=rfl;have z:("x" : Str).length=1:=by decide +kernel
  have T:Asc ("x" : Str):=by unfold Asc;decide +kernel
  refine Ok.eq (show i9 (.str x) (.str "x") S=.ok (.str (x ++ "x")) S by
   show (if x.length+("x" : Str).length<=sizeLine then ret (D.str (x ++ "x")) else bad) S=_;rw [if_pos (by rw [z,Gf];omega)];rfl) (Ok.eq (show i9 (.lst (words++[.str (x ++ "x"),.str ""])) (.lst [.lst [],.lst [.str x]]) S=.ok (.lst (words++[.str (x ++ "x"),.str "",.lst [],.lst [.str x]])) S by kernel_rfl) ?_)
  refine (Z9 (m:=14) (N:=N) (h.less (by omega)) (by omega) rfl (by omega) (k+1)).mono ?_;rintro d' S2 ⟨hd,t,u⟩;refine ⟨?_,t,u⟩;rcases Gh.mp hd with q | q
  ·exact Bt.odd (u8 (FX.mp (show words.all (smB 1 100)=true by decide +kernel) d' q))
  ·simp at q;rcases q with rfl | rfl | rfl | rfl
   ·exact ⟨⟨by rw [jB,z];omega,vV F T⟩,Gu _,by show 10 * _+2<=_;rw [jB,z];omega⟩
   ·exact Bt.odd (u8 (by decide +kernel))
   ·exact Bt.odd (u8 (by decide +kernel))
   ·exact ⟨⟨⟨by omega,F⟩,trivial⟩,by show max 0 0+1<=_;omega,by show 10 * x.length+2+2+0+3<=_;omega⟩
 | k,.tup ds,j,N,S,pl,hd,c,l,hz,h=>by
  have pl:=pl;have hd:=hd;have c:=c;have hz:=hz;have J:=aL ds;have W:dp (.tup ds)=dps ds+1:=rfl;have H:sz (.tup ds)=szs ds+3:=rfl;rw [rn,b8 rfl,mn];refine Ok.eq (iR ⟨pl,c,hz⟩ l S) (Ok.eq (c9 _ S) ?_);by_cases A:ds=[]
  ·subst A;rw [if_neg (by simp)];exact jZ (h.less (by omega)) pl (by omega) k
  ·have O:=List.length_pos_iff.mpr A;rw [if_pos (by simp [A])];refine Ok.bind ((f8 (m:=5) (N:=N+4 * k+3) (h.less (by omega)) (by omega) (by omega) (k+1)).mono ?_);rintro _ S1 ⟨q,rfl,V,g,M,K⟩;have f:Kp p S S1:=⟨M,K⟩;refine Ok.eq (show a9 .Gt (.int (q:Int)) (.int 0) S1=.ok (.bl (decide ((0:Int)<(q:Int)))) S1 from rfl) (Ok.eq (c9 _ S1) ?_);by_cases v:(0:Int)<(q:Int)
   ·rw [FM v,if_pos rfl];refine Ok.bind ((f8 (N:=N+4 * k) (g.less (by omega)) O (by omega) (k+1)).mono ?_);rintro _ S2 ⟨r,rfl,B,t,Q,k2⟩;have u:Kp p S1 S2:=⟨Q,k2⟩;have G:=Fy B;refine Ok.eq (rfl) (Ok.eq (show slD (.tup ds) none (some (r:Int)) S2=.ok (.tup (ds.take r)) S2 by
     show R.ok (D.tup (u6 ds none (some (r:Int)))) S2=_;rw [fT (by omega)]) (Ok.eq (j8 S2 G) ?_))
    obtain ⟨C,rfl⟩:∃ C,k=C+1:=⟨k-1,by omega⟩;have Z:=R5 (GC B);have U:=oM G;refine Ok.bind ((iq C ds[r] j N S2 (pl.mem _ (GC B)) (by omega) (by omega) l (by omega) (t.less (by omega))).mono ?_);rintro y w ⟨E,P,L⟩;refine Ok.eq (cat_tup (by rw [Hr,Gf];simp;omega)) (Ok.eq (bW _ _ w) (Ok.eq (rfl) (Ok.eq (show slD (.tup ds) (some ((r:Int)+1)) none w=.ok (.tup (ds.drop (r+1))) w by
     show R.ok (D.tup (u6 ds (some ((r:Int)+1)) none)) w=_;rw [show (r:Int)+1=((r+1:Nat):Int) by omega,fG (by omega)]) (Ok.eq (cat_tup (by rw [GS,Hr,Ih,Gf];simp;omega)) (Ok.ret ⟨?_,P,f.tr (u.tr L)⟩)))))
    have s:∀ d∈ds.take r++[y]++ds.drop (r+1),d∈ds\/d=y:=λd hd=>by
     rcases Gh.mp hd with q | q
     ·grind
     ·grind
    refine ⟨Plns.of λd hd=>?_,?_,?_⟩
    ·rcases s d hd with q | rfl
     ·exact (pl.mem d q).up
     ·exact E.pl
    ·have:dps (ds.take r++[y]++ds.drop (r+1))<=dps ds+1:=aR λd hd=>by
      rcases s d hd with q | rfl
      ·have:=R5 q;omega
      ·have:=E.dp;omega
     show dps _+1<=_;omega
    ·have:=E.sz;show szs _+3<=_;rw [N0,N0];show szs _+(sz y+2+0)+szs _+3<=_;omega
   ·rw [FV v,if_neg Fz];exact (jZ (g.less (by omega)) pl (by omega) k).mono λd' S' h=>⟨h.1,h.2.1,f.tr h.2.2⟩
 | _,.scr _,_,_,_,pl,_,_,_,_,_=>pl.elim
 | _,.ref _,_,_,_,pl,_,_,_,_,_=>pl.elim
end L3.K23
namespace L3.Lev
open PySem PySem.Spec PyProof.Rows L2
theorem eS (hb:upB bx m i=b):(List.range (i+1)).filter (upB bx m)=(List.range i).filter (upB bx m)++(if b=true then [i] else []):=by
 rw [Jj,HP];grind
theorem vf {bx:List (Option Nat)} {i:Nat} {o:Option Nat} (h:bx[i]?=some o) (S:Sto):y0 (bx.map bxD) i S=some (some (.tup [.int (i:Int),bxD o])):=by
 have e:(bx.map bxD)[i]?=some (bxD o):=h8 h;simp only [y0,e]
theorem oT (bx:List (Option Nat)) (S:Sto):y0 (bx.map bxD) bx.length S=some none:=by
 have e:(bx.map bxD)[bx.length]?=none:=Gr (by simp);simp only [y0,e,Fu,Ky]
theorem nH {m i:Nat} {o:Option Nat} (h:bx[i]?=some o) (S:Sto):(bind (a9 .IsNot (bxD o) .non) λc=>bind (asB c) λd=>if d=true then (bind (a9 .LtE (bxD o) (.int (m:Int))) λe=>bind (asB e) λa=>ret a) else (ret false)) S=.ok (upB bx m i) S:=by
 cases o with
 | none=>
  have:upB bx m i=false:=by unfold upB;rw [h]
  rw [this];rfl
 | some b=>
  have:upB bx m i=decide ((b:Int)<=(m:Int)):=by
   unfold upB;rw [h];by_cases q:b<=m
   ·grind
   ·grind
  rw [this];rfl
theorem kX {m i:Nat} {S:Sto} {f:M D} (d:bx.length<=1000) (c:i<bx.length) (b:f S=.ok (nD i) S):if upB bx m i=true then Ok f S λy S2=>(((List.range i).filter (upB bx m)).map nD).length<sizeLine/\S2=S/\((List.range i).filter (upB bx m)).map nD++[y]=((List.range (i+1)).filter (upB bx m)).map nD else (S=S/\((List.range i).filter (upB bx m)).map nD=((List.range (i+1)).filter (upB bx m)).map nD):=by
 cases a:upB bx m i with
 | true=>
  rw [if_pos rfl];refine ⟨_,_,b,?_,rfl,?_⟩
  ·rw [Fu,Gf];have:=Ha (upB bx m) (List.range i);rw [Gj] at this;omega
  ·rw [eS a,if_pos rfl,GN];rfl
 | false=>
  rw [if_neg Fz];exact ⟨rfl,by rw [eS a];simp⟩
theorem Ab (h:bx.length<=6):(ups bx l).length<=6/\∀ x∈ups bx l,x<bx.length:=by
 refine ⟨Gd (Ha _ _) (by rw [Gj];exact h),λx a=>?_⟩;exact Gc.mp (Hx.mp a).1
theorem De {v l:List Nat} (f:v.Nodup) (h:∀ x∈v,x∈l):v.length<=l.length:=by
 induction v generalizing l with
 | nil=>exact Gu _
 | cons a v g=>
  have d:=h a (FO ..);have b:=Hz.mp f;have e:=Iz d;have:=g (l:=l.erase a) b.2 λx c=>(Je (λz=>b.1 (by rw [<- z];exact c))).mpr (h x (FQ _ c));have:=GY d;rw [Hs];omega
abbrev Rw:=Option (Nat×Bool)
def rwD:Rw->D
 | none=>.non
 | some (l,b)=>.tup [.int (l:Int),.bl b]
def RwOk (m:Nat) (rs:List Rw):Prop:=∀ l b,some (l,b)∈rs->1<=l/\l<=m/\(b=true->2<=l)
theorem RwOk.snoc {m:Nat} {rs:List Rw} (h:RwOk m rs) {r:Rw} (hr:∀ l b,r=some (l,b)->1<=l/\l<=m/\(b=true->2<=l)):RwOk m (rs++[r]):=λl b hx=>by
 rcases Gh.mp hx with z | z
 ·exact h l b z
 ·exact hr l b (Gb.mp z).symm
theorem RwOk.put (h:RwOk m rs) {r:Rw} {i:Nat} (c:∀ l b,r=some (l,b)->1<=l/\l<=m/\(b=true->2<=l)):RwOk m (rs.set i r):=λl b a=>by
 rcases Io a with z | z
 ·exact h l b z
 ·exact c l b z.symm
def rat (rs:List Rw) (i:Nat):Rw:=rs.getD i none
def Z4 (l:Nat):Rw->Bool
 | none=>false
 | some (e,b)=>decide (e-b.toNat<=l)
def nR (rs:List Rw) (l:Nat):Nat:=(List.range rs.length).countP λj=>Z4 l (rat rs j)
theorem al (e:rs[i]?=some r):rat rs i=r:=by unfold rat;rw [FU,e];rfl
theorem ig {i:Nat} (hi:i<rs.length) (r:Rw) (j:Nat):rat (rs.set i r) j=if j=i then r else rat rs j:=by
 unfold rat;grind
theorem AV {x L l:Nat} (a:x<rs.length) (h:l<=L):nR (rs.set x (some (L+1,false))) l<=nR rs l:=by
 unfold nR;rw [GZ];refine Hv λj _ q=>?_;rw [ig a] at q;by_cases z:j=x
 ·rw [if_pos z] at q;have:L+1-0<=l:=Gg q;omega
 ·grind
theorem mF {v:List Nat} {j x y:Nat} (d:v[j]?=some x) (a:y∈v) (b:y≠x):y∈v.eraseIdx j:=by
 obtain ⟨i,c⟩:=List.getElem?_of_mem a;refine List.mem_eraseIdx_iff_getElem?.mpr ⟨i,λz=>b ?_,c⟩;grind
theorem lG {v:List Nat} {L:Nat} (h:∀ j,j<rs.length->Z4 L (rat rs j)=true->j∈v):nR rs L<=v.length:=by
 unfold nR;rw [Jk];refine De (List.nodup_range.filter _) λx hx=>?_;grind
theorem kL {m:Nat} (h0:0<m) (h:m<1000) (S:Sto):j6 [.int 1,.int (m:Int)] S=.ok (E3 1 (m-1),m-1+1) S:=by
 unfold j6;have c:-(2 ^ 62)<=(1:Int)/\(1:Int)<2 ^ 62/\-(2 ^ 62)<=(m:Int)/\(m:Int)<2 ^ 62:=⟨by decide,by decide,Kf (by decide) (show (0:Int)<=m by omega),Int.lt_trans (show (m:Int)<1000 by omega) (by decide)⟩;have e:((m:Int)-1).toNat=m-1:=by omega
 simp only [if_pos c,e];rfl
theorem jP {n i:Nat} (h:i<n) (S:Sto):E3 1 n i S=some (some (.int ((1+i:Nat):Int))):=by
 show some (if i<n then some (D.int (1+(i:Int))) else none)=_;grind
theorem fS (n:Nat) (S:Sto):E3 1 n n S=some none:=by
 show some (if n<n then _ else none)=some none;grind
theorem ci {b c:Type} (f:b->c):∀ (l:List b) (j:Nat),(l.map f).eraseIdx j=(l.eraseIdx j).map f
 | [],_=>rfl
 | _ :: _,0=>rfl
 | a :: l,j+1=>by
  show f a :: (l.map f).eraseIdx j=f a :: (l.eraseIdx j).map f;rw [ci f l j]
end L3.Lev
namespace L3.K23
open PySem PySem.Spec PyProof.Rows L2 L3.Lev
theorem pk {ns:List Int} {p q N m:Nat} {S0:Sto} (hpq:q≠p) (F:Fw ns p (N+2 * m) S0) (e0:S0[q]?=some (.lst [])) (h0:0<m) (h6:m<=6) (o4 o5 o6 o7:Option D) (k:Nat):Ok (i6 (E3 0 m) (λd ρ=>some (ρ.set 3 (some d))) (dX (rn (k+1))) (m+1) 0 [some (.ref p),some (.int (m:Int)),some (.ref q),o4,o5,o6,o7]) S0 λfl S'=>∃ ρ,fl=.nx ρ/\Fw ns p N S'/\∃ (rs:List Rw) (o4 o5 o6:Option D),S'[q]?=some (.lst (rs.map rwD))/\rs.length=m/\RwOk m rs/\ρ=[some (.ref p),some (.int (m:Int)),some (.ref q),o4,o5,o6,o7]:=by
 refine (Ok.loop (n:=m) (λi ρ S'=>Fw ns p (N+2 * (m-i)) S'/\∃ (rs:List Rw) (o4 o5 o6:Option D),S'[q]?=some (.lst (rs.map rwD))/\rs.length=i/\RwOk m rs/\ρ=[some (.ref p),some (.int (m:Int)),some (.ref q),o4,o5,o6,o7]) (λρ S' _=>t9 m S') ?_ ⟨F,[],_,_,_,e0,rfl,(λl b z=>by cases z),rfl⟩).mono ?_
 ·rintro i ρ S hi ⟨F,rs,o4,o5,o6,er,hl,ok,rfl⟩;refine ⟨.int (i:Int),_,C7 hi S,rfl,?_⟩;unfold dX;rw [iT];refine Ok.first<|Ok.cg (pr ..)<|Ok.bind ((f8 (N:=N+2 * (m-(i+1))+1) (F.less (by omega)) h0 (by omega) k).mono ?_);rintro _ S1 ⟨l,rfl,hl1,F1,_,k1⟩;refine Ok.eq (v1 1 l S1)<|Ok.nxt<|Ok.cg (pW ..)<|Ok.bind ((f8 (N:=N+2 * (m-(i+1))) (m:=4) (F1.less (by omega)) (by omega) (by omega) k).mono ?_);rintro _ S2 ⟨w,rfl,hw,F2,_,k2⟩;have e2:S2[q]?=some (.lst (rs.map rwD)):=by rw [k2 _ hpq,k1 _ hpq];exact er
  have ql:q<S2.length:=(Fv.mp e2).1;have fin:∀ (r:Rw),(∀ l b,r=some (l,b)->1<=l/\l<=m/\(b=true->2<=l))->Ok (bind (E5 (.ref q) [rwD r]) λx3=>nxt (evK Rs Γ (rn (k+1)) 39) N5 [] ret (.nx [some (.ref p),some (.int (m:Int)),some (.ref q),some (.int (i:Int)),some (.int ((1+l:Nat):Int)),some (.int (w:Int)),o7])) S2 λfl S'=>∃ ρ',(fl=.nx ρ'\/fl=.ct ρ')/\Fw ns p (N+2 * (m-(i+1))) S'/\∃ (rs:List Rw) (o4 o5 o6:Option D),S'[q]?=some (.lst (rs.map rwD))/\rs.length=i+1/\RwOk m rs/\ρ'=[some (.ref p),some (.int (m:Int)),some (.ref q),o4,o5,o6,o7]:=by
   intro r hr;refine Ok.eq (bp e2 (by rw [Fu,Gf];omega))<|Ok.ret ⟨_,.inl rfl,F2.keep (by rw [FS hpq]),rs++[r],_,_,_,?_,by simp [hl],ok.snoc hr,rfl⟩;rw [Ge ql,GN];rfl
  refine Ok.nxt<|Ok.cg (sL ..)<|Ok.eq (Q7 e2)<|Ok.eq (D3 _ _ _)<|Ok.eq (c9 _ _)<|Ok.ite (λ_=>fin none λl b z=>by cases z) λ_=>Ok.eq (D3 _ _ _)<|Ok.eq (a:=decide ((w:Int)=1)) rfl<|Ok.ite (λ_=>?_) λz=>?_
  ·exact Ok.eq (fN _ _ _) (fin (some (1+l,_)) λl' b z=>by cases z;exact ⟨by omega,by omega,λy=>by have:=Gg y;omega⟩)
  ·exact fin (some (1+l,_)) λl' b y=>by cases y;exact ⟨by omega,by omega,λy=>absurd y z⟩
 ·rintro _ S' ⟨ρ,rfl,F',rs,o4,o5,o6,e,hl,ok,rfl⟩;exact ⟨_,rfl,F'.less (by omega),rs,_,_,_,e,hl,ok,rfl⟩
theorem rw_tst {q j L:Nat} {rs:List Rw} {r:Rw} (e:S[q]?=some (.lst (rs.map rwD))) (p:rs[j]?=some r) (i:∀ l b,r=some (l,b)->1<=l):Ok (bind (ixD (.ref q) (.int (j:Int))) λn=>bind (a9 .IsNot n .non) λk=>bind (asB k) λm=>if m=true then (bind (ixD (.ref q) (.int (j:Int))) λx6=>bind (ixD x6 (.int 0)) λx7=>bind (ixD (.ref q) (.int (j:Int))) λx8=>bind (ixD x8 (.int 1)) λo=>bind (qV o) λf=>bind (K1 x7 f) λc=>bind (a9 .LtE c (.int (L:Int))) λh=>bind (asB h) λd=>ret d) else (ret false)) S λb S'=>b=Z4 L r/\S'=S:=by
 have g:=zf e (h8 p);refine Ok.eq g ?_;cases r with
 | none=>exact Ok.eq rfl<|Ok.eq rfl<|Ok.neg (by decide)<|Ok.ret ⟨rfl,rfl⟩
 | some r=>
  obtain ⟨l,b⟩:=r;have s:=i l b rfl;refine Ok.eq rfl<|Ok.eq rfl<|Ok.pos rfl<|Ok.eq g<|Ok.eq rfl<|Ok.eq g<|Ok.eq rfl<|Ok.eq (a:=.int (if b=true then 1 else 0)) (by cases b <;> rfl)<|Ok.eq rfl<|Ok.eq (cV _ _ _)<|Ok.eq (c9 _ _)<|Ok.ret ⟨?_,rfl⟩;cases b with
  | true=>
   rw [if_pos rfl];show _=decide (l-1<=L);by_cases q:l-1<=L
   ·grind
   ·grind
  | false=>
   rw [if_neg Fz];show _=decide (l-0<=L);by_cases q:l-0<=L
   ·grind
   ·grind
theorem oC {ns:List Int} {p q u N m L:Nat} {S0:Sto} {rs:List Rw} {v:List Nat} (hpq:q≠p) (hup:u≠p) (huq:u≠q) (F:Fw ns p (N+v.length) S0) (er:S0[q]?=some (.lst (rs.map rwD))) (eu:S0[u]?=some (.lst (v.map nD))) (hl:rs.length=m) (ok:RwOk m rs) (hv:∀ x∈v,x<m) (hi:∀ j,j<m->Z4 L (rat rs j)=true->j∈v) (hc:∀ l,l<L->nR rs l<=l) (v6:v.length<=6) (hL:L+1<=m) (o4 o6:Option D) (k:Nat) :
  Ok (B8 (V7 (rn (k+1))) (K7 (rn (k+1))) 10000 [some (.ref p),some (.int (m:Int)),some (.ref q),o4,some (.int (L:Int)),o6,some (.ref u)]) S0 λfl S'=>fl=.nx [some (.ref p),some (.int (m:Int)),some (.ref q),o4,some (.int (L:Int)),o6,some (.ref u)]/\Fw ns p N S'/\∃ rs:List Rw,S'[q]?=some (.lst (rs.map rwD))/\rs.length=m/\RwOk m rs/\∀ l,l<=L->nR rs l<=l:=by
 refine (Ok.while_ (λc ρ S=>ρ=[some (.ref p),some (.int (m:Int)),some (.ref q),o4,some (.int (L:Int)),o6,some (.ref u)]/\∃ (rs:List Rw) (v:List Nat),Fw ns p (N+v.length) S/\S[q]?=some (.lst (rs.map rwD))/\S[u]?=some (.lst (v.map nD))/\rs.length=m/\RwOk m rs/\(∀ j,j<m->Z4 L (rat rs j)=true->j∈v)/\(∀ l,l<L->nR rs l<=l)/\(∀ x∈v,x<m)/\v.length=c/\c<=6) (λρ S=>ρ=[some (.ref p),some (.int (m:Int)),some (.ref q),o4,some (.int (L:Int)),o6,some (.ref u)]/\Fw ns p N S/\∃ rs:List Rw,S[q]?=some (.lst (rs.map rwD))/\rs.length=m/\RwOk m rs/\∀ l,l<=L->nR rs l<=l) (λ_ _=>False) ?_ 10000 v.length _ _ (by omega) ⟨rfl,rs,v,F,er,eu,hl,ok,hi,hc,hv,rfl,v6⟩).mono ?_
 ·rintro c ρ S ⟨rfl,rs,v,F,er,eu,hl,ok,hi,hn,hv,hc,c6⟩;have ln:k8 (.ref u) S=.ok (.int (v.length:Int)) S:=(nw eu).trans (by rw [Fu]);rw [bu];refine Ok.eq ln<|Ok.eq (fN _ _ _)<|Ok.eq (c9 _ _)<|Ok.ret ?_;by_cases g:(L:Int)<(v.length:Int)
  ·rw [if_pos (FM g)];unfold K7;rw [bN];refine Ok.first<|Ok.cg (eD ..)<|Ok.eq (v1 L 1 S)<|Ok.eq (Q7 eu)<|Ok.eq ln<|Ok.bind ((f8 (N:=N+(v.length-1)) (F.less (by omega)) (by omega) (by omega) k).mono ?_);rintro _ S1 ⟨j,rfl,hj,F1,_,k1⟩;have eu1:S1[u]?=some (.lst (v.map nD)):=by rw [k1 _ hup];exact eu
   have er1:S1[q]?=some (.lst (rs.map rwD)):=by rw [k1 _ hpq];exact er
   obtain ⟨x,hx⟩:∃ x,v[j]?=some x:=⟨_,Fy hj⟩;have xm:x<m:=hv x (FT hx);have er2:(S1.set u (.lst ((v.map nD).eraseIdx j)))[q]?=some (.lst (rs.map rwD)):=by rw [FS huq];exact er1
   have ul:u<S1.length:=(Fv.mp eu1).1;have ql:q<(S1.set u (.lst ((v.map nD).eraseIdx j))).length:=(Fv.mp er2).1;have em:(v.map nD).eraseIdx j=(v.eraseIdx j).map nD:=ci nD v j;have le:(v.eraseIdx j).length=v.length-1:=List.length_eraseIdx_of_lt hj;refine Ok.eq (Cb eu1 (h8 hx) (by omega))<|Ok.eq (Cz (i:=x) er2 (by rw [Fu,hl];exact xm))<|Ok.ret ⟨v.length-1,by omega,rfl,rs.set x (some (L+1,false)),v.eraseIdx j,?_,?_,?_,by simp [hl],ok.put (λl b z=>by cases z;exact ⟨by omega,by omega,λz=>by cases z⟩),?_,λl hl'=>Gd (AV (by rw [hl];exact xm) (II hl')) (hn l hl'),λy hy=>hv y (List.mem_of_mem_eraseIdx hy),le,by omega⟩
   ·rw [le];exact F1.keep (by rw [FS hpq,FS hup])
   ·rw [Ge ql,HQ];rfl
   ·rw [FS (Ne.symm huq),Ge ul,em]
   ·intro y hy q;rw [ig (by rw [hl];exact xm)] at q;by_cases z:y=x
    ·rw [if_pos z] at q;have:L+1-0<=L:=Gg q;omega
    ·rw [if_neg z] at q;exact mF hx (hi y hy q) z
  ·rw [if_neg (by rw [FV g];decide)];refine ⟨rfl,F.less (by omega),rs,er,hl,ok,λl hl'=>?_⟩;by_cases z:l=L
   ·rw [z];have:=lG (rs:=rs) (v:=v) (L:=L) (by rw [hl];exact hi);omega
   ·exact hn l (by omega)
 ·rintro fl S' hf;cases fl with
  | nx ρ=>obtain ⟨rfl,h⟩:=hf;exact ⟨rfl,h⟩
  | rt d=>exact hf.elim
  | bk ρ=>exact hf.elim
  | ct ρ=>exact hf.elim
theorem uE {p N m:Nat} {S:Sto} (F:Fw ns p (N+50) S) (O:0<m) (X:m<=6) (k:Nat):Ok (rn (k+2) BC [.ref p,.int (m:Int)]) S λd S'=>Fw ns p N S'/\∃ (q:Nat) (rs:List Rw),d=.ref q/\q≠p/\S'[q]?=some (.lst (rs.map rwD))/\rs.length=m/\RwOk m rs/\∀ l,nR rs l<=l:=by
 have hp:=F.lt;have c0:∀ rs:List Rw,RwOk m rs->nR rs 0<=0:=λrs a=>by
  refine Kd (Iu.mpr λj c q=>?_);have c:=Gc.mp c;obtain ⟨r,f⟩:∃ r,rs[j]?=some r:=⟨_,Fy c⟩;rw [al f] at q;cases r with
  | none=>cases q
  | some r=>
   obtain ⟨l,b⟩:=r;obtain ⟨a1,a2,T⟩:=a l b (FT f);have q:=Gg q;cases b with
   | true=>have:=T rfl;have q:l-1<=0:=q;omega
   | false=>have q:l-0<=0:=q;omega
 rw [rn,b8 rfl,zM,zQ];refine Ok.first<|Ok.cg (Es ..)<|Ok.eq (rfl)<|Ok.nxt<|Ok.cg (Ds ..)<|Ok.eq (q9 (by omega) _)<|Ok.bind ((pk (N:=N+36) (by omega) ((F.push _).less (by omega)) (by simp) O X _ _ _ _ k).mono ?_);rintro _ S1 ⟨ρ,rfl,P,rs,s,t,u,J,g,a,rfl⟩;generalize hq:S.length=q at J ⊢;have n:q≠p:=by omega
 refine Ok.nxt<|Ok.cg (ES ..)<|Ok.eq (kL O (by omega) _)<|Ok.bind ((Ok.loop (λi ρ S'=>Fw ns p (N+6 * (m-1-i)) S'/\∃ (rs:List Rw) (s t u A:Option D),S'[q]?=some (.lst (rs.map rwD))/\rs.length=m/\RwOk m rs/\(∀ l,l<=i->nR rs l<=l)/\ρ=[some (.ref p),some (.int (m:Int)),some (.ref q),s,t,u,A]) (λρ S' _=>fS _ S') ?_ ⟨P.less (by omega),rs,_,_,_,_,J,g,a,(λl h=>by rw [show l=0 by omega];exact c0 rs a),rfl⟩).mono ?_)
 ·rintro i ρ S2 Y ⟨K,rs,s,t,u,A,y,g,a,H,rfl⟩;refine ⟨.int ((1+i:Nat):Int),_,jP Y S2,rfl,?_⟩;unfold kO;rw [gj];refine Ok.first<|Ok.cg (nK ..)<|nx_bind<|Ok.eq (q9 (by omega) _) ((Ok.comp (λj S' es=>S'=S2/\es=((List.range j).filter λx=>Z4 (1+i) (rat rs x)).map nD) (λS' es _=>t9 m S') ?_ ⟨rfl,rfl⟩).mono ?_)
  ·rintro j S' es c ⟨o,rfl⟩;cases o;obtain ⟨r,f⟩:∃ r,rs[j]?=some r:=⟨_,Fy (by omega)⟩;refine ⟨.int (j:Int),C7 c S2,(rw_tst y f λl b z=>(a l b (by rw [<- z];exact FT f)).1).mono ?_⟩;rintro b M ⟨C,o⟩;cases o;rw [<- al f] at C;rw [Jj,HP];cases b with
   | true=>
    rw [if_pos rfl];refine Ok.ret ⟨?_,rfl,?_⟩
    ·rw [Fu,Gf];have:=Ha (λx=>Z4 (1+i) (rat rs x)) (List.range j);rw [Gj] at this;omega
    ·rw [Kc (p:=λx=>Z4 (1+i) (rat rs x)) C.symm,GN];rfl
   | false=>
    rw [if_neg Fz];refine ⟨rfl,?_⟩;rw [IH (by rw [<- C];exact Fz)];simp
  rintro _ M ⟨o,rfl⟩;cases o;generalize e:(List.range m).filter (λx=>Z4 (1+i) (rat rs x))=v;have hv:∀ x∈v,x<m:=λx L=>by rw [<- e] at L;exact Gc.mp (Hx.mp L).1
  have V:v.length<=m:=by
   rw [<- e];have:=Ha (λx=>Z4 (1+i) (rat rs x)) (List.range m);rwa [Gj] at this
  have I:∀ j,j<m->Z4 (1+i) (rat rs j)=true->j∈v:=λj c q=>by rw [<- e];exact Hx.mpr ⟨Gc.mpr c,q⟩
  have W:=(Fv.mp y).1;have pl:=K.lt;have R:newL (v.map nD) S2=.ok (.ref S2.length) (S2++[.lst (v.map nD)]):=by
   unfold newL;rw [if_pos (by rw [Fu,Gf];omega)]
  refine Ok.eq R<|Ok.nxt<|Ok.cg (nc ..)<|Ok.bind ((oC (N:=N+6 * (m-1-(i+1))) n (by omega) (by omega) ((K.push _).less (by omega)) (by rw [FI W];exact y) (by simp) g a hv I (λl h=>H l (by omega)) (by omega) (by omega) _ _ k).mono ?_);rintro _ S4 ⟨rfl,F4,w,Q,E,B,G⟩;exact Ok.ret ⟨_,.inl rfl,F4,w,_,_,_,_,Q,E,B,(λl h=>G l (by omega)),rfl⟩
 ·rintro _ M ⟨ρ,rfl,U,rs,s,t,u,A,Z,g,a,H,rfl⟩;refine Ok.nxt<|Ok.cg (EG ..)<|Ok.ret ⟨U.less (by omega),q,rs,rfl,n,Z,g,a,λl=>?_⟩;by_cases z:l<=m-1
  ·exact H l z
  ·have:nR rs l<=m:=by
    refine Gd IV ?_;rw [Gj,g];exact FH _
   omega
end L3.K23
namespace L3.Lev
open PySem PySem.Spec PyProof.Rows L2
def rwB:Rw->Option Nat:=λr=>r.map (·.1)
theorem rw0 (l:Nat) (b:Bool) (S:Sto):ixD (rwD (some (l,b))) (.int 0) S=.ok (.int (l:Int)) S:=by kernel_rfl
theorem rw1 (l:Nat) (b:Bool) (S:Sto):ixD (rwD (some (l,b))) (.int 1) S=.ok (.bl b) S:=by kernel_rfl
def RH (bx:List (Option Nat)):Rw->Hd->Prop
 | none,h=>h=.out
 | some (l,true),h=>h=.put (l-1)
 | some (l,false),h=>h=.look l\/(h=.holds (ups bx l)/\(ups bx l).length=l)
def lvD (hs:List Hd):D:=.tup [.tup ((hs.map boxOf).map bxD),.tup (hs.map Hd.d)]
theorem RH.box (q:RH bx r h) (c:∀ l b,r=some (l,b)->1<=l/\(b=true->2<=l)):boxOf h=rwB r/\∀ l,efB l h=Z4 l r:=by
 cases r with
 | none=>
  have q:=q;subst q;exact ⟨rfl,λl=>rfl⟩
 | some r=>
  obtain ⟨l,b⟩:=r;have o:=c l b rfl;cases b with
  | true=>
   have q:=q;subst q;have:=o.2 rfl;exact ⟨by show some (l-1+1)=some l;rw [show l-1+1=l by omega],λa=>rfl⟩
  | false=>
   rcases (q) with q | ⟨q,e⟩
   ·subst q;exact ⟨rfl,λa=>rfl⟩
   ·subst q;refine ⟨by show some _=some l;rw [e],λa=>?_⟩;show decide ((ups bx l).length<=a)=decide (l-0<=a);rw [e];rfl
theorem Good.of {rs:List Rw} {m:Nat} (k:hs.length=m) (s:rs.length=m) (o:RwOk m rs) (p:∀ l,nR rs l<=l) (h:∀ i,i<m->RH (rs.map rwB) (rat rs i) (hat hs i)):Good hs/\hs.map boxOf=rs.map rwB:=by
 have a:∀ i,i<m->∀ l b,rat rs i=some (l,b)->1<=l/\l<=m/\(b=true->2<=l):=λi d l b e=>by
  obtain ⟨r,g⟩:∃ r,rs[i]?=some r:=⟨_,Fy (by omega)⟩;rw [al g] at e;subst e;exact o l b (FT g)
 have n:hs.map boxOf=rs.map rwB:=by
  refine JO λi=>?_;rw [FY,FY];by_cases d:i<m
  ·obtain ⟨r,g⟩:∃ r,rs[i]?=some r:=⟨_,Fy (by omega)⟩;rw [t4 (by omega),g];have:=(h i d).box λl b e=>⟨(a i d l b e).1,(a i d l b e).2.2⟩;rw [al g] at this;show some _=some _;rw [this.1]
  ·grind
 refine ⟨⟨λl=>?_,λi v d e=>?_,λi b d e=>?_⟩,n⟩
 ·refine Gd (Kd ?_) (p l);unfold nE nR;rw [k,s];refine List.countP_congr λj f=>?_;have f:=Gc.mp f;rw [((h j f).box λl b e=>⟨(a j f l b e).1,(a j f l b e).2.2⟩).2 l]
 ·have q:=h i (by omega);rw [e] at q;rw [n];cases c:rat rs i with
  | none=>rw [c] at q;cases q
  | some r=>
   obtain ⟨l,b⟩:=r;rw [c] at q;cases b with
   | true=>cases q
   | false=>
    rcases (q) with q | ⟨q,e2⟩
    ·cases q
    ·grind
 ·have q:=((h i (by omega)).box λl b e=>⟨(a i (by omega) l b e).1,(a i (by omega) l b e).2.2⟩).1;rw [e] at q;cases c:rat rs i with
  | none=>rw [c] at q;cases q
  | some r=>
   obtain ⟨l,t⟩:=r;rw [c] at q;cases q;rw [k];exact (a i (by omega) _ _ c).2.1
end L3.Lev
namespace L3.K23
open PySem PySem.Spec PyProof.Rows L2 L3.Lev
theorem ju {m k:Nat} {S:Sto} (c:bx.length<1000):Ok (rn (k+1) oQ [.tup (bx.map bxD),.int (m:Int)]) S λd S'=>d=.tup ((ups bx m).map nD)/\S'=S:=by
 rw [rn,b8 rfl,vt];refine nx_bind (Ok.eq (B0 _ S) ?_);rw [Fu];refine Ok.eq (q9 (by omega) _) ((Ok.comp (λi S' es=>S'=S/\es=((List.range i).filter (upB bx m)).map nD) (λS' es _=>t9 _ S') ?_ ⟨rfl,rfl⟩).mono ?_)
 ·rintro i S' es a ⟨rfl,rfl⟩;have h:=Fy a;generalize bx[i]=o at h;refine ⟨.int (i:Int),C7 a S',upB bx m i,S',?_,?_⟩
  ·rw [a7 (j8 S' (h8 h))];have:=nH (m:=m) h S';cases o with
   | none=>exact this
   | some b=>
    rw [<- this];show L3.bind (ixD (.tup (bx.map bxD)) (.int (i:Int))) _ S'=_;rw [a7 (j8 S' (h8 h))];rfl
  ·exact kX (by omega) a rfl
 ·rintro es S' ⟨rfl,rfl⟩;exact Ok.eq rfl (Ok.ret ⟨rfl,rfl⟩)
theorem xX {ns:List Int} {p N m:Nat} {S:Sto} (F:Fw ns p (N+60) S) (h0:0<m) (h6:m<=6) (k:Nat):Ok (rn (k+3) AM [.ref p,.int (m:Int)]) S λd S'=>Fw ns p N S'/\∃ hs:List Hd,d=lvD hs/\hs.length=m/\Good hs:=by
 rw [rn,b8 (fd:=Ff) rfl,tP,tt];refine Ok.first<|Ok.cg (Ar ..)<|Ok.bind ((uE (N:=N+6) (F.less (by omega)) h0 h6 k).mono ?_);rintro _ S1 ⟨F1,q,rs,rfl,hpq,er,hl,ok,cn⟩;have sr:∀ {S:Sto},S[q]?=some (.lst (rs.map rwD))->G9 (.ref q) S=.ok (W8 q,rs.length+1) S:=λ{S} e=>by
  simp only [G9,e,Fu]
 have ql:q<S1.length:=(Fv.mp er).1;refine Ok.nxt<|Ok.cg (Ck ..)<|nx_bind<|Ok.eq (sr er) ((Ok.comp (n:=rs.length) (λj S' es=>S'=S1/\es=((rs.take j).map rwB).map bxD) (λS' es h=>by rw [h.1];show W8 q rs.length S1=_;rw [cZ er,Gr (by rw [Fu];omega)]) ?_ ⟨rfl,rfl⟩).mono ?_)
 ·rintro j S' es hj ⟨hS,rfl⟩;cases hS;obtain ⟨r,hr⟩:∃ r,rs[j]?=some r:=⟨_,Fy hj⟩;have ta:rs.take (j+1)=rs.take j++[r]:=by rw [HD hj,(Fv.mp hr).2]
  refine ⟨rwD r,by show W8 q j S1=_;rw [cZ er,h8 hr],Ok.ret ?_⟩;rw [if_pos rfl];have fin:∀ d:D,d=bxD (rwB r)->(((rs.take j).map rwB).map bxD).length<sizeLine/\S1=S1/\((rs.take j).map rwB).map bxD++[d]=((rs.take (j+1)).map rwB).map bxD:=λd hd=>by
   refine ⟨by rw [Fu,Fu,Hr,Gf];omega,rfl,?_⟩;rw [ta,hd,GN,GN];rfl
  cases r with
  | none=>exact Ok.eq (a:=.bl true) rfl<|Ok.eq rfl<|Ok.pos rfl<|Ok.ret (fin _ rfl)
  | some r=>
   obtain ⟨l,b⟩:=r;exact Ok.eq (a:=.bl false) rfl<|Ok.eq rfl<|Ok.neg (by decide)<|Ok.eq (a:=.int (l:Int)) rfl<|Ok.ret (fin _ rfl)
 rintro _ S2 ⟨hS,rfl⟩;cases hS;rw [List.take_length];generalize hbx:rs.map rwB=bx;have bl:bx.length=m:=by rw [<- hbx,Fu,hl]
 refine Ok.eq (a:=.tup (bx.map bxD)) rfl<|Ok.nxt<|Ok.cg (Cn ..)<|Ok.eq (show newL [] S1=.ok (.ref S1.length) (S1++[.lst []]) from rfl) ?_;have F2:Fw ns p (N+6) (S1++[.lst []]):=F1.push _;have er2:(S1++[O.lst []])[q]?=some (.lst (rs.map rwD)):=by rw [FI ql];exact er
 have eu2:(S1++[O.lst []])[S1.length]?=some (.lst []):=by simp
 have pl:=F1.lt;generalize hu:S1.length=u at eu2 ⊢;have hup:u≠p:=by omega
 have huq:u≠q:=by omega
 generalize S1++[O.lst []]=S3 at F2 er2 eu2;refine Ok.nxt<|Ok.cg (CC ..)<|Ok.eq (sr er2)<|Ok.bind ((Ok.loop (n:=rs.length) (λi ρ S'=>Fw ns p (N+(m-i)) S'/\∃ (hs:List Hd) (o4 o7 o8:Option D),S'[q]?=some (.lst (rs.map rwD))/\S'[u]?=some (.lst (hs.map Hd.d))/\hs.length=i/\(∀ j,j<hs.length->RH bx (rat rs j) (hat hs j))/\ρ=[some (.ref p),some (.int (m:Int)),some (.ref q),o4,some (.tup (bx.map bxD)),some (.ref u),o7,o8]) (λρ S' h=>by obtain ⟨_,hs,_,_,_,e,_⟩:=h;show W8 q rs.length S'=_;rw [cZ e,Gr (by rw [Fu];omega)]) ?_ ⟨F2.less (by omega),[],_,_,_,er2,eu2,rfl,(λj z=>absurd z (Kk _)),rfl⟩).mono ?_)
 ·rintro i ρ S4 hi ⟨F4,hs,o4,o7,o8,er4,eu4,hl4,ok4,rfl⟩;obtain ⟨r,hr⟩:∃ r,rs[i]?=some r:=⟨_,Fy hi⟩;refine ⟨rwD r,_,by show W8 q i S4=_;rw [cZ er4,h8 hr],rfl,?_⟩;unfold ff;rw [eZ];have last:∀ (h:Hd) (o8:Option D) (S':Sto),RH bx r h->Fw ns p (N+(m-(i+1))) S'->(∀ x,x≠p->S'[x]?=S4[x]?)->Ok (nxt (evK Rs Γ (rn (k+2)) 39) L4 [nth y3 2] ret (.nx [some (.ref p),some (.int (m:Int)),some (.ref q),some (rwD r),some (.tup (bx.map bxD)),some (.ref u),some h.d,o8])) S' λfl S'=>∃ ρ',(fl=.nx ρ'\/fl=.ct ρ')/\Fw ns p (N+(m-(i+1))) S'/\∃ (hs:List Hd) (o4 o7 o8:Option D),S'[q]?=some (.lst (rs.map rwD))/\S'[u]?=some (.lst (hs.map Hd.d))/\hs.length=i+1/\(∀ j,j<hs.length->RH bx (rat rs j) (hat hs j))/\ρ'=[some (.ref p),some (.int (m:Int)),some (.ref q),o4,some (.tup (bx.map bxD)),some (.ref u),o7,o8]:=by
   intro h o8 S' ho F' kk;have eu':S'[u]?=some (.lst (hs.map Hd.d)):=by rw [kk _ hup];exact eu4
   have ul:u<S'.length:=(Fv.mp eu').1;refine Ok.nxt<|Ok.cg (kq ..)<|Ok.eq (Q7 eu')<|Ok.eq (bp eu' (by rw [Fu,Gf];omega))<|Ok.ret ⟨_,.inl rfl,F'.keep (by rw [FS hup]),hs++[h],_,_,_,?_,?_,by simp [hl4],λj hj=>?_,rfl⟩
   ·rw [FS huq,kk _ hpq];exact er4
   ·rw [Ge ul,GN];rfl
   ·rw [GS,List.length_singleton] at hj;by_cases z:j<hs.length
    ·have e:hat (hs++[h]) j=hat hs j:=by unfold hat;rw [FU,FU,FI z]
     rw [e];exact ok4 j z
    ·have ej:j=hs.length:=by omega
     have e:hat (hs++[h]) j=h:=dS (by rw [ej,Gq (FH _),Nat.sub_self];rfl);rw [e,al (show rs[j]?=some r by rw [ej,hl4];exact hr)];exact ho
  refine Ok.first<|Ok.cg (lN ..)<|Ok.nxt<|Ok.cg (mf ..) ?_;have F5:Fw ns p (N+(m-(i+1))) S4:=F4.less (by omega);cases r with
  | none=>exact Ok.eq (a:=.bl false) rfl<|Ok.eq rfl<|Ok.neg (by decide)<|last .out _ S4 rfl F5 λ_ _=>rfl
  | some r=>
   obtain ⟨l,b⟩:=r;have lo:=ok l b (FT hr);have bi:bx[i]?=some (some l):=by rw [<- hbx,FY,hr];rfl
   obtain ⟨_,_,es,rfl,rfl⟩:=ju (bx:=bx) (m:=l) (k:=k+1) (S:=S4) (by omega);obtain ⟨u1,u2⟩:=Ab (l:=l) (show bx.length<=6 by omega);rw [bl] at u2;cases b with
   | true=>exact Ok.eq (a:=.bl true) rfl<|Ok.eq rfl<|Ok.pos rfl<|Ok.eq (rw1 l _ _)<|Ok.eq (a:=true) rfl<|Ok.pos rfl<|Ok.eq (rw0 l _ _)<|Ok.eq (bV (b:=1) (by omega) _)<|Ok.eq (rw0 l _ _)<|Ok.eq es<|Ok.eq (rw1 l _ _)<|Ok.eq (a:=true) rfl<|Ok.neg (by decide)<|last (.put (l-1)) _ _ rfl F5 λ_ _=>rfl
   | false=>
    have lk:RH bx (some (l,false)) (.look l):=.inl rfl;have ln:∀ S,k8 (.tup ((ups bx l).map nD)) S=.ok (.int ((ups bx l).length:Int)) S:=λS=>(B0 _ S).trans (by rw [Fu]);refine Ok.eq (a:=.bl true) rfl<|Ok.eq rfl<|Ok.pos rfl<|Ok.eq (rw1 l _ _)<|Ok.eq (a:=false) rfl<|Ok.neg (by decide)<|Ok.eq (rw0 l _ _)<|Ok.eq (rw0 l _ _)<|Ok.eq es<|Ok.eq (rw1 l _ _)<|Ok.eq (a:=false) rfl<|Ok.pos rfl<|Ok.eq (ln _)<|Ok.eq (rw0 l _ _)<|Ok.eq (D3 _ _ _)<|Ok.eq (c9 _ _)<|Ok.ite (λhq=>?_) λ_=>last (.look l) _ _ lk F5 λ_ _=>rfl;refine Ok.bind ((f8 (N:=N+(m-(i+1))) (m:=3) (F4.less (by omega)) (by omega) (by omega) (k+1)).mono ?_);rintro _ S5 ⟨w,rfl,_,F6,_,k6⟩;exact Ok.eq (fN _ _ _)<|Ok.eq (c9 _ _)<|Ok.ite (λ_=>last (.holds (ups bx l)) _ _ (.inr ⟨rfl,by have:=Gg hq;omega⟩) F6 k6) λ_=>last (.look l) _ _ lk F6 k6
 ·rintro _ S4 ⟨ρ,rfl,F4,hs,o4,o7,o8,er4,eu4,hl4,ok4,rfl⟩;have hm:hs.length=m:=by omega
  obtain ⟨G,bq⟩:=Good.of hm hl ok cn (λi hi=>by rw [hbx];exact ok4 i (by omega));exact Ok.nxt<|Ok.cg (CN ..)<|Ok.eq (rg eu4)<|Ok.ret ⟨F4.less (by omega),hs,by unfold lvD;rw [bq,hbx],hm,G⟩
theorem je {m k:Nat} {S:Sto} (b:bx.length<=1000):Ok (rn (k+1) ji [.tup (bx.map bxD),.int (m:Int)]) S λd S'=>d=.tup ((ups bx m).map nD)/\S'=S:=by
 rw [rn,b8 rfl,AG];refine nx_bind (Ok.eq (by show R.ok (y0 (bx.map bxD),(bx.map bxD).length+1) S=_;rw [Fu]) ((Ok.comp (λi S' es=>S'=S/\es=((List.range i).filter (upB bx m)).map nD) (λS' es _=>oT bx S') ?_ ⟨rfl,rfl⟩).mono ?_))
 ·rintro i S' es a ⟨rfl,rfl⟩;have h:=Fy a;generalize bx[i]=o at h;refine ⟨_,vf h S',upB bx m i,S',?_,?_⟩
  ·rw [hE];exact nH h S'
  ·have:=kX (m:=m) (S:=S') (f:=hQ (rn k) [some (.tup (bx.map bxD)),some (.int (m:Int))] (.tup [.int (i:Int),bxD o])) b a (by rw [gE];rfl);exact this
 ·rintro es S' ⟨rfl,rfl⟩;exact Ok.eq rfl (Ok.ret ⟨rfl,rfl⟩)
section
variable {n N:Nat} {d:D} (h:Any n N d) (hn:n<=40) (k:Nat) (S:Sto)
include h
theorem ti:rn (k+1) yq [d] S=.ok (.bl (isW d)) S:=by
 have pl:=h.pl;rw [rn,b8 rfl,wH];cases d <;> first | exact pl.elim | rfl
theorem U6 (lo hi:Int):rn (k+2) iV [d,.int lo,.int hi] S=.ok (.bl (whB lo hi d)) S:=by
 refine j4 ?_;rw [rn,b8 rfl,vL];refine Ok.eq (ti h k S) ?_;cases d with
 | int i=>
  refine Ok.eq rfl<|Ok.pos rfl<|Ok.eq (cV lo i S)<|Ok.eq (c9 _ S) ?_;by_cases q:lo<=i
  ·rw [FM q];exact Ok.pos rfl<|Ok.eq (cV i hi S)<|Ok.ret ⟨by show _=D.bl (decide (lo<=i)&&decide (i<=hi));rw [FM q];rfl,rfl⟩
  ·rw [FV q];exact Ok.neg (by decide)<|Ok.ret ⟨by show _=D.bl (decide (lo<=i)&&decide (i<=hi));rw [FV q];rfl,rfl⟩
 | _=>exact Ok.eq (a:=false) rfl<|Ok.neg (by decide)<|Ok.ret ⟨rfl,rfl⟩
theorem Q5 (lo hi:Int):rn (k+1) gL [d,.int lo,.int hi] S=.ok (.bl (whB lo hi d)) S:=by
 have pl:=h.pl;refine j4 ?_;rw [rn,b8 rfl,uJ];cases d with
 | int i=>
  refine Ok.eq rfl<|Ok.eq rfl<|Ok.pos rfl<|Ok.eq rfl<|Ok.eq rfl<|Ok.eq rfl<|Ok.pos rfl<|Ok.eq (cV lo i S)<|Ok.eq (c9 _ S) ?_;by_cases q:lo<=i
  ·rw [FM q];exact Ok.pos rfl<|Ok.eq (cV i hi S)<|Ok.ret ⟨by show _=D.bl (decide (lo<=i)&&decide (i<=hi));rw [FM q];rfl,rfl⟩
  ·rw [FV q];exact Ok.neg (by decide)<|Ok.ret ⟨by show _=D.bl (decide (lo<=i)&&decide (i<=hi));rw [FV q];rfl,rfl⟩
 | bl b=>exact ⟨_,_,rfl,rfl,rfl⟩
 | scr _=>exact pl.elim
 | ref _=>exact pl.elim
 | _=>exact ⟨_,_,rfl,rfl,rfl⟩
theorem aI (m:Nat):rn (k+1) DL [d,.int (m:Int)] S=.ok (.bl (D7 m d)) S:=by
 have pl:=h.pl;refine j4 ?_;rw [rn,b8 rfl,ze];cases d with
 | tup ds=>exact Ok.eq rfl<|Ok.eq rfl<|Ok.pos rfl<|Ok.eq (Y9)<|Ok.eq (D3 _ _ S)<|Ok.ret ⟨congrArg D.bl (fq ..),rfl⟩
 | scr _=>exact pl.elim
 | ref _=>exact pl.elim
 | _=>exact ⟨_,_,rfl,rfl,rfl⟩
end
def rsB (m:Nat):D->Bool
 | .tup ds=>ds.all (whB 0 ((m:Int)-1))&&decide (ds.map j7=srt (w9 (ds.map j7)))
 | _=>false
def vwB (m i:Nat):D->Bool
 | .tup ds=>rsB m (.tup ds)&&decide ((i:Int)∈ds.map j7)
 | _=>false
def hdB (m i:Nat):D->Bool
 | .tup [a]=>is1 "out" (.tup [a])
 | .tup [a,b]=>if inW ["holds"] a=true then vwB m i b else if inW ["put"] a=true then whB 1 ((m:Int)-1) b else inW ["look"] a&&whB 1 m b
 | _=>false
theorem yY:Pln 0 (.str "out"):=(u8 (n:=1) (N:=100) (by decide +kernel)).1
theorem rO:Pln 0 (.str "holds"):=(u8 (n:=1) (N:=100) (by decide +kernel)).1
theorem Bc:Pln 0 (.str "put"):=(u8 (n:=1) (N:=100) (by decide +kernel)).1
theorem BA:Pln 0 (.str "look"):=(u8 (n:=1) (N:=100) (by decide +kernel)).1
theorem Ac (m:Nat) (S:Sto):K1 (.int (m:Int)) (.int 1) S=.ok (.int ((m:Int)-1)) S:=rfl
theorem kH (h:Any n N (.tup ds)) (hN:N<=100000):ds.length<=50000:=by
 have:=aL ds;have z:szs ds+3<=N:=h.sz;omega
section
variable {n N:Nat} {d:D} (h:Any n N d) (hn:n<=40) (hN:N<=100000) {m:Nat} (m6:m<=6) (k:Nat) (S:Sto)
include h hN m6
theorem ol:rn (k+3) CA [.int (m:Int),d] S=.ok (.bl (rsB m d)) S:=by
 have pl:=h.pl;refine j4 ?_;rw [rn,b8 rfl,xl];cases d with
 | tup ds=>
  have sl:ds.length<sizeLine:=by rw [Gf];have:=kH h hN;omega
  have c:=U0 (f:=λd3=>bind (K1 (.int (m:Int)) (.int 1)) λx5=>bind (rn (k+2) iV [d3,(.int 0),x5]) λx6=>ret x6) sl (λd hd=>by
   rw [a7 (Ac m S),a7 (U6 (s0 h hd) k S 0 ((m:Int)-1))];rfl)
  refine Ok.eq rfl<|Ok.eq rfl<|Ok.neg (by decide)<|nx_bind<|Ok.eq (M3 _ S)<|Ok.of c<|Ok.eq (gN _ S)<|Ok.eq rfl ?_;show Ok _ _ λd' S'=>d'=D.bl (ds.all (whB 0 ((m:Int)-1))&&decide (ds.map j7=srt (w9 (ds.map j7))))/\S'=S;rw [all_map];cases z:ds.all (whB 0 ((m:Int)-1)) with
  | false=>exact Ok.pos rfl<|Ok.ret ⟨rfl,rfl⟩
  | true=>
   obtain ⟨e,b⟩:=R8 z;have ln:szs ds+3<=N:=h.sz;have u:=fY b;generalize ds.map j7=ns at e b u;subst e;rw [bb] at ln;exact Ok.neg (by decide)<|Ok.eq rfl<|Ok.eq (fh (by omega) (by omega) S)<|Ok.eq (dH _ _ S)<|Ok.ret ⟨by simp,rfl⟩
 | scr _=>exact pl.elim
 | ref _=>exact pl.elim
 | _=>exact ⟨_,_,rfl,rfl,rfl⟩
include hn
theorem zF (i:Nat):rn (k+4) Cc [.int (m:Int),.int (i:Int),d] S=.ok (.bl (hdB m i d)) S:=by
 have e:=(rE h hn yY S).1;have t:=aI h (k+2) S 2;refine j4 ?_;rw [rn,b8 rfl,AL];refine Ok.eq e<|Ok.eq (c9 _ S) ?_;cases q:is1 "out" d with
 | true=>
  refine Ok.pos rfl<|Ok.ret ⟨?_,rfl⟩;by_cases z:∃ a,d=.tup [a]
  ·obtain ⟨a,rfl⟩:=z;show _=D.bl (is1 "out" (.tup [a]));rw [q]
  ·rw [qU λa z2=>z ⟨a,z2⟩] at q;cases q
 | false=>
  refine Ok.neg (by decide)<|Ok.eq t ?_;cases d with
  | tup ds=>
   match ds with
   | []=>exact Ok.eq rfl<|Ok.pos (by decide)<|Ok.ret ⟨rfl,rfl⟩
   | [a]=>exact Ok.eq (a:=false) rfl<|Ok.pos (by decide)<|Ok.ret ⟨by show _=D.bl (is1 "out" (.tup [a]));rw [q],rfl⟩
   | [a,b]=>
    have ha:=s0 h (d:=a) (by simp);have hb:=s0 h (d:=b) (by simp);have r:=ol hb hN m6 k S;refine Ok.eq (a:=true) rfl<|Ok.neg (by decide)<|Ok.eq (j8 S rfl)<|Ok.eq (E7 ha hn rO S).1<|Ok.eq (c9 _ S) ?_;show Ok _ _ λd' S'=>d'=D.bl (if inW ["holds"] a=true then vwB m i b else if inW ["put"] a=true then whB 1 ((m:Int)-1) b else inW ["look"] a&&whB 1 m b)/\S'=S;cases w:inW ["holds"] a with
    | true=>
     refine Ok.pos rfl<|Ok.eq (j8 S rfl)<|Ok.eq r ?_;rw [if_pos rfl];cases z:rsB m b with
     | false=>
      refine Ok.eq rfl<|Ok.neg (by decide)<|Ok.ret ⟨?_,rfl⟩;cases b with
      | tup ds=>show _=D.bl (rsB m (.tup ds)&&_);rw [z];rfl
      | _=>rfl
     | true=>
      cases b with
      | tup ds=>
       have z':(ds.all (whB 0 ((m:Int)-1))&&decide (ds.map j7=srt (w9 (ds.map j7))))=true:=z;rw [FG] at z';obtain ⟨e,_⟩:=R8 z'.1;have i1:=jr (i:Int) (ds.map j7) S;rw [<- e] at i1;refine Ok.eq rfl<|Ok.pos rfl<|Ok.eq (j8 S rfl)<|Ok.eq i1<|Ok.ret ⟨?_,rfl⟩;show _=D.bl (rsB m (.tup ds)&&_);rw [z];rfl
      | _=>cases z
    | false=>
     refine Ok.neg (by decide)<|Ok.eq (j8 S rfl)<|Ok.eq (E7 ha hn Bc S).1<|Ok.eq (c9 _ S) ?_;rw [if_neg Fz];cases w2:inW ["put"] a with
     | true=>exact Ok.pos rfl<|Ok.eq (j8 S rfl)<|Ok.eq (Ac m S)<|Ok.eq (U6 hb (k+1) S 1 ((m:Int)-1))<|Ok.ret ⟨by rw [if_pos rfl],rfl⟩
     | false=>
      refine Ok.neg (by decide)<|Ok.eq (j8 S rfl)<|Ok.eq (E7 ha hn BA S).1 ?_;rw [if_neg Fz];cases w3:inW ["look"] a with
      | true=>exact Ok.eq rfl<|Ok.pos rfl<|Ok.eq (j8 S rfl)<|Ok.eq (U6 hb (k+1) S 1 m)<|Ok.ret ⟨by rw [Bool.true_and],rfl⟩
      | false=>exact Ok.eq rfl<|Ok.neg (by decide)<|Ok.ret ⟨rfl,rfl⟩
   | a :: b :: c :: l=>
    have z:D7 2 (.tup (a :: b :: c :: l))=false:=by
     show decide ((a :: b :: c :: l).length=2)=false;exact FV (by simp)
    rw [z];exact Ok.eq rfl<|Ok.pos (by decide)<|Ok.ret ⟨rfl,rfl⟩
  | _=>exact Ok.eq (a:=false) rfl<|Ok.pos (by decide)<|Ok.ret ⟨rfl,rfl⟩
end
def N4 (m:Nat):D->Bool
 | .non=>true
 | d=>whB 1 (m:Int) d
def cF (m:Nat) (hs:List D):Bool:=(List.range hs.length).all λi=>hdB m i (hs.getD i .non)
def nh (m:Nat):D->Bool
 | .tup [b,h]=>D7 m b&&(D7 m h&&((els b).all (N4 m)&&cF m (els h)))
 | _=>false
theorem Br (l:Nat) (h:l=1\/l=2) (S:Sto):a9 .NotIn (.int (l:Int)) (.tup [.int 1,.int 2]) S=.ok (.bl false) S:=by
 rcases h with rfl | rfl <;> kernel_rfl
theorem DY {l:Nat} (h:3<=l\/l=0) (S:Sto):a9 .NotIn (.int (l:Int)) (.tup [.int 1,.int 2]) S=.ok (.bl true) S:=by
 have e:a9 .NotIn (.int (l:Int)) (.tup [.int 1,.int 2]) S=Z6 true (.int (l:Int)) [.int 1,.int 2] S:=rfl;rw [e];unfold Z6;have hd:PyData.depth (.int (l:Int))=0:=by simp [PyData.depth]
 rw [if_pos ⟨rfl,rfl,by rw [hd];omega⟩];have a:(([.int 1,.int 2]:List PyData).any λy=>PyData.eqv y (.int (l:Int)))=(((1:Int)==(l:Int))||(((2:Int)==(l:Int))||false)):=rfl;rw [a,Hi.mpr (by omega),Hi.mpr (by omega)];rfl
theorem zV:∀ w∈[("look" : Str),"put"],Asc w:=by
 intro w a;simp at a;rcases a with rfl | rfl <;> (unfold Asc;decide +kernel)
theorem El (a b:Str) (d:D):inW [a,b] d=(inW [a] d||inW [b] d):=by
 cases d with
 | str x=>
  show decide (x∈[a,b])=(decide (x∈[a])||decide (x∈[b]));by_cases h1:x=a <;> by_cases h2:x=b <;> simp [h1,h2]
 | _=>rfl
theorem W9 (h:a≠b) {d:D} (q:inW [a] d=true):inW [b] d=false:=by
 cases d with
 | str x=>
  have q:decide (x∈[a])=true:=q;rw [FW,Gb] at q;subst q;exact FV (by simpa using h)
 | _=>cases q
theorem tF (q:inW ["out"] d=true):inW ["holds"] d=false/\inW ["put"] d=false/\inW ["look"] d=false:=⟨W9 (by decide +kernel) q,W9 (by decide +kernel) q,W9 (by decide +kernel) q⟩
theorem xb (q:inW ["look"] d=true):inW ["holds"] d=false/\inW ["put"] d=false:=⟨W9 (by decide +kernel) q,W9 (by decide +kernel) q⟩
theorem gr (q:inW ["put"] d=true):inW ["holds"] d=false:=W9 (by decide +kernel) q
section
variable {n N:Nat} {d:D} (h:Any n N d) (hn:n<=40) (hN:N<=100000) {m:Nat} (m6:m<=6) (k:Nat) (S:Sto)
include h hn hN m6
theorem wR (i:Nat):rn (k+2) xH [d,.int (m:Int),.int (i:Int)] S=.ok (.bl (hdB m i d)) S:=by
 have e:=(rE h hn yY S).1;have pl:=h.pl;refine j4 ?_;rw [rn,b8 rfl,zc];cases d with
 | tup ds=>
  refine Ok.eq rfl<|Ok.eq rfl<|Ok.neg (by decide) ?_
  match ds with
  | []=>exact Ok.eq (Y9)<|Ok.eq (DY (.inr rfl) S)<|Ok.eq rfl<|Ok.pos rfl<|Ok.ret ⟨rfl,rfl⟩
  | [a]=>
   refine Ok.eq (Y9)<|Ok.eq (Br 1 (.inl rfl) S)<|Ok.eq rfl<|Ok.neg (by decide)<|Ok.eq (j8 S rfl) ?_;show Ok _ _ λd' S'=>d'=D.bl (is1 "out" (.tup [a]))/\S'=S;have pa:=pl.1;cases a with
   | str x=>exact Ok.eq rfl<|Ok.eq rfl<|Ok.neg (by decide)<|Ok.eq (Y9)<|Ok.eq rfl<|Ok.eq rfl<|Ok.pos rfl<|Ok.eq e<|Ok.ret ⟨rfl,rfl⟩
   | scr _=>exact pa.elim
   | ref _=>exact pa.elim
   | _=>exact Ok.eq rfl<|Ok.eq rfl<|Ok.pos rfl<|Ok.ret ⟨by rw [sS _ _ (λ_ z=>by cases z) (λ_ z=>by cases z)];rfl,rfl⟩
  | [a,b]=>
   have ha:=s0 h (d:=a) (by simp);have hb:=s0 h (d:=b) (by simp);refine Ok.eq (Y9)<|Ok.eq (Br 2 (.inr rfl) S)<|Ok.eq rfl<|Ok.neg (by decide)<|Ok.eq (j8 S rfl) ?_;show Ok _ _ λd' S'=>d'=D.bl (if inW ["holds"] a=true then vwB m i b else if inW ["put"] a=true then whB 1 ((m:Int)-1) b else inW ["look"] a&&whB 1 m b)/\S'=S;have io:=(E7 ha hn yY S).1;have il:=zY ha hn zV S;have ip:=(E7 ha hn Bc S).1;have ih:=(E7 ha hn rO S).2;have pa:=pl.1;have pb:=hb.pl;cases a with
   | str x=>
    refine Ok.eq rfl<|Ok.eq rfl<|Ok.neg (by decide)<|Ok.eq (Y9)<|Ok.eq rfl<|Ok.eq (a:=false) rfl<|Ok.neg (by decide)<|Ok.eq (j8 S rfl)<|Ok.eq io<|Ok.eq (c9 _ S) ?_;generalize hx:D.str x=a at *;cases wo:inW ["out"] a with
    | true=>
     obtain ⟨o1,o2,o3⟩:=tF wo;have no:is1 "out" (.tup [a,b])=false:=qU λz q=>by cases q
     rw [no] at e;exact Ok.pos rfl<|Ok.eq e<|Ok.ret ⟨by rw [o1,o2,o3];rfl,rfl⟩
    | false=>
    refine Ok.neg (by decide)<|Ok.eq (j8 S rfl)<|Ok.eq il<|Ok.eq (c9 _ S) ?_;rw [El];cases wl:inW ["look"] a with
    | true=>
     obtain ⟨o1,o2⟩:=xb wl;rw [o2] at ip;exact Ok.pos rfl<|Ok.eq (j8 S rfl)<|Ok.eq (j8 S rfl)<|Ok.eq ip<|Ok.eq rfl<|Ok.eq rfl<|Ok.eq (Q5 hb k S 1 ((m:Int)-0))<|Ok.ret ⟨by rw [o1,o2];simp,rfl⟩
    | false=>
    cases wp:inW ["put"] a with
    | true=>
     have o1:=gr wp;rw [wp] at ip;exact Ok.pos rfl<|Ok.eq (j8 S rfl)<|Ok.eq (j8 S rfl)<|Ok.eq ip<|Ok.eq rfl<|Ok.eq rfl<|Ok.eq (Q5 hb k S 1 ((m:Int)-1))<|Ok.ret ⟨by rw [o1];simp,rfl⟩
    | false=>
    refine Ok.neg (by decide)<|Ok.eq (j8 S rfl)<|Ok.eq ih<|Ok.eq (c9 _ S) ?_;cases wh:inW ["holds"] a with
    | false=>exact Ok.pos rfl<|Ok.ret ⟨rfl,rfl⟩
    | true=>
    refine Ok.neg (by decide)<|Ok.eq (j8 S rfl) ?_;rw [if_pos rfl];cases b with
    | tup ds=>
     have sl:ds.length<sizeLine:=by rw [Gf];have:=kH hb hN;omega
     have c:=U0 (f:=λd3=>bind (K1 (.int (m:Int)) (.int 1)) λx5=>bind (rn (k+1) gL [d3,(.int 0),x5]) λx6=>ret x6) sl (λd hd=>by
      rw [a7 (Ac m S),a7 (Q5 (s0 hb hd) k S 0 ((m:Int)-1))];rfl)
     refine Ok.eq rfl<|Ok.eq rfl<|Ok.neg (by decide)<|nx_bind<|Ok.eq (j8 S rfl)<|Ok.eq (M3 _ S)<|Ok.of c<|Ok.eq (inF _ _ S)<|Ok.eq (c9 _ S) ?_;show Ok _ _ λd' S'=>d'=D.bl ((ds.all (whB 0 ((m:Int)-1))&&decide (ds.map j7=srt (w9 (ds.map j7))))&&decide ((i:Int)∈ds.map j7))/\S'=S;cases z:ds.all (whB 0 ((m:Int)-1)) with
     | false=>exact Ok.pos rfl<|Ok.ret ⟨rfl,rfl⟩
     | true=>
      obtain ⟨e,b⟩:=R8 z;have ln:szs ds+3<=N:=hb.sz;have u:=fY b;generalize ds.map j7=ns at e b u;subst e;rw [bb] at ln;refine Ok.neg (by decide)<|Ok.eq (j8 S rfl)<|Ok.eq (jr (i:Int) ns S)<|Ok.eq rfl ?_;cases q:decide ((i:Int)∈ns) with
      | false=>exact Ok.neg (by decide)<|Ok.ret ⟨by simp,rfl⟩
      | true=>
       refine Ok.pos rfl<|Ok.eq (j8 S rfl)<|Ok.eq (fh (by omega) (by omega) S)<|Ok.eq (j8 S rfl)<|Ok.eq rfl<|Ok.eq (dH _ _ S)<|Ok.ret ⟨?_,rfl⟩;have:decide (srt (w9 ns)=ns)=decide (ns=srt (w9 ns)):=by
        by_cases y:ns=srt (w9 ns)
        ·grind
        ·grind
       rw [this];simp
    | scr _=>exact pb.elim
    | ref _=>exact pb.elim
    | _=>exact Ok.eq rfl<|Ok.eq rfl<|Ok.pos rfl<|Ok.ret ⟨rfl,rfl⟩
   | scr _=>exact pa.elim
   | ref _=>exact pa.elim
   | _=>exact Ok.eq rfl<|Ok.eq rfl<|Ok.pos rfl<|Ok.ret ⟨rfl,rfl⟩
  | a :: b :: c :: l=>
   have no:a9 .NotIn (.int ((a :: b :: c :: l).length:Int)) (.tup [.int 1,.int 2]) S=.ok (.bl true) S:=by
    exact DY (.inl (by simp)) S
   exact Ok.eq (Y9)<|Ok.eq no<|Ok.eq rfl<|Ok.pos rfl<|Ok.ret ⟨rfl,rfl⟩
 | scr _=>exact pl.elim
 | ref _=>exact pl.elim
 | _=>exact ⟨_,_,rfl,rfl,rfl⟩
end
theorem wX (a:Any n N d) (m k:Nat) (S:Sto):(bind (a9 .Is d .non) λb=>bind (e9 b) λc=>if c=true then (ret b) else (bind (rn (k+2) iV [d,(.int 1),.int (m:Int)]) λx5=>ret x5)) S=.ok (.bl (N4 m d)) S/\(bind (a9 .Is d .non) λb=>bind (e9 b) λc=>if c=true then (ret b) else (bind (rn (k+1) gL [d,(.int 1),.int (m:Int)]) λx5=>ret x5)) S=.ok (.bl (N4 m d)) S:=by
 have p:=a.pl;have w:=U6 a k S 1 m;have g:=Q5 a k S 1 m;by_cases q:d=.non
 ·subst q;exact ⟨rfl,rfl⟩
 ·have e:N4 m d=whB 1 (m:Int) d:=by cases d <;> first | exact absurd rfl q | rfl
  have f:a9 .Is d .non S=.ok (.bl false) S:=by cases d <;> first | exact absurd rfl q | exact p.elim | rfl
  rw [e];exact ⟨j4 (Ok.eq f<|Ok.eq rfl<|Ok.neg (by decide)<|Ok.eq w<|Ok.ret ⟨rfl,rfl⟩),j4 (Ok.eq f<|Ok.eq rfl<|Ok.neg (by decide)<|Ok.eq g<|Ok.ret ⟨rfl,rfl⟩)⟩
section
variable {n N:Nat} (hn:n<=40) (hN:N<=100000) {m:Nat} (m6:m<=6) (k:Nat) (S:Sto)
include hn hN m6
theorem ii (h:Any n N d):rn (k+5) Cw [.int (m:Int),d] S=.ok (.bl (nh m d)) S:=by
 have t:=aI h (k+3) S 2;refine j4 ?_;rw [rn,b8 rfl,AW,xj];refine Ok.first<|Ok.cg (Eb ..)<|Ok.eq t<|Ok.eq rfl ?_;cases z:D7 2 d with
 | false=>
  refine Ok.pos rfl<|Ok.ret ⟨?_,rfl⟩;cases d with
  | tup ds=>
   match ds with
   | [b,h]=>cases z
   | []=>rfl
   | [_]=>rfl
   | _ :: _ :: _ :: _=>rfl
  | _=>rfl
 | true=>
  obtain ⟨ds,rfl,hl⟩:=S8 z
  match ds,hl with
  | [b,hd],_=>
  have hb:=s0 h (d:=b) (by simp);have hh:=s0 h (d:=hd) (by simp);refine Ok.neg (by decide)<|Ok.nxt<|Ok.cg (Dn ..)<|Ok.eq rfl ?_;refine Ok.nxt<|Ok.cg (Ec ..)<|Ok.eq (aI hb (k+3) S m)<|Ok.eq rfl ?_;show Ok _ _ λd' S'=>d'=D.bl (D7 m b&&(D7 m hd&&((els b).all (N4 m)&&cF m (els hd))))/\S'=S;cases tb:D7 m b with
  | false=>exact Ok.pos rfl<|Ok.ret ⟨by simp,rfl⟩
  | true=>
  refine Ok.neg (by decide)<|Ok.eq (aI hh (k+3) S m)<|Ok.eq rfl ?_;cases th:D7 m hd with
  | false=>exact Ok.pos rfl<|Ok.ret ⟨by simp,rfl⟩
  | true=>
  obtain ⟨bs,rfl,lb⟩:=S8 tb;obtain ⟨hs,rfl,lh⟩:=S8 th;have c1:=U0 (fk (by omega)) (λd hd=>(wX (s0 hb hd) m (k+2) S).1);have c2:=vA (ds:=hs) (t:=gZ (rn (k+4)) [some (.int (m:Int)),some (.tup [.tup bs,.tup hs]),some (.tup bs),some (.tup hs)]) (f:=gm (rn (k+4)) [some (.int (m:Int)),some (.tup [.tup bs,.tup hs]),some (.tup bs),some (.tup hs)]) (fk (by omega)) (λi d _=>by rw [gx];rfl) (λi d hd=>by
   rw [gX];exact (a7 (zF (s0 hh (FT hd)) hn hN m6 k S i)).trans rfl)
  refine Ok.neg (by decide)<|Ok.nxt<|Ok.cg (EJ ..)<|nx_bind<|Ok.eq (M3 _ S)<|Ok.of c1<|Ok.eq (gN _ S)<|Ok.eq rfl ?_;show Ok _ _ λd' S'=>d'=D.bl (true&&(true&&(bs.all (N4 m)&&cF m hs)))/\S'=S;rw [all_map];cases bs.all (N4 m) with
  | false=>exact Ok.pos rfl<|Ok.ret ⟨rfl,rfl⟩
  | true=>
   refine Ok.neg (by decide)<|Ok.nxt<|Ok.cg (Eo ..)<|nx_bind<|Ok.eq rfl<|Ok.of c2<|Ok.eq (gN _ S) ?_;rw [oW];exact Ok.ret ⟨rfl,rfl⟩
theorem sX (a b:List D) (S:Sto):a9 .NotEq (.lst [.int (a.length:Int),.int (b.length:Int)]) (.lst [.int (m:Int),.int (m:Int)]) S=.ok (.bl (!(decide (a.length=m)&&decide (b.length=m)))) S:=by
 have e:=dH [(a.length:Int),(b.length:Int)] [(m:Int),(m:Int)] S;have n:=PySem.SeqAt.eqv_refl;have g:a9 .NotEq (.lst [.int (a.length:Int),.int (b.length:Int)]) (.lst [.int (m:Int),.int (m:Int)]) S=.ok (.bl (!((((a.length:Int)==(m:Int)))&&(((b.length:Int)==(m:Int))&&true)))) S:=by kernel_rfl
 rw [g];congr 2;rw [IB];have q:∀ x:Nat,((x:Int)==(m:Int))=decide (x=m):=λx=>by
  by_cases y:x=m
  ·subst y;simp
  ·grind
 rw [q,q]
theorem yn (h:Any n N d):rn (k+3) AY [.int (m:Int),d] S=.ok (.bl (nh m d)) S:=by
 have pl:=h.pl;refine j4 ?_;rw [rn,b8 rfl,uS];cases d with
 | tup ds=>
  refine Ok.eq rfl<|Ok.eq rfl<|Ok.neg (by decide)<|Ok.eq Y9<|Ok.eq (wz _ _ S)<|Ok.eq (c9 _ S) ?_;by_cases l2:ds.length=2
  case neg=>
   refine Ok.pos (by rw [FV (by omega)];rfl)<|Ok.ret ⟨?_,rfl⟩
   match ds with
   | [b,h]=>exact absurd rfl l2
   | []=>rfl
   | [_]=>rfl
   | _ :: _ :: _ :: _=>rfl
  match ds,l2 with
  | [b,hd],_=>
  have hb:=s0 h (d:=b) (by simp);have hh:=s0 h (d:=hd) (by simp)
  let tp:D->Bool:=λd=>match d with
   | .tup _=>true
   | _=>false
  have tB:∀ d∈[b,hd],(bind (G8 "tuple" (λ_=>false) d) λx8=>ret x8) S=.ok (.bl (tp d)) S:=λd hd'=>by
   have p:Pln n d:=by
    rcases FP.mp hd' with z | z
    ·rw [z];exact hb.pl
    ·rw [Gb.mp z];exact hh.pl
   cases d <;> first | exact p.elim | rfl
  have c0:=U0 (fk (by show 2<=6;omega)) tB;refine Ok.neg (by simp)<|nx_bind<|Ok.eq (M3 _ S)<|Ok.of c0<|Ok.eq (inF _ _ S)<|Ok.eq (c9 _ S) ?_;show Ok (if (!(tp b&&(tp hd&&true)))=true then _ else _) _ λd' S'=>d'=D.bl (D7 m b&&(D7 m hd&&((els b).all (N4 m)&&cF m (els hd))))/\S'=S;cases b with
  | tup bs=>
   cases hd with
   | tup hs=>
    have c1:f6 (bv [.tup bs,.tup hs]) (λd12=>ret true) (λd12=>bind (k8 d12) λx14=>ret x14) 3 0 [] S=.ok [.int (bs.length:Int),.int (hs.length:Int)] S:=by kernel_rfl
    refine Ok.neg Fz<|nx_bind<|Ok.eq (M3 _ S)<|Ok.of c1<|Ok.eq (sX hn hN m6 bs hs S)<|Ok.eq (c9 _ S) ?_;show Ok _ _ λd' S'=>d'=D.bl (decide (bs.length=m)&&(decide (hs.length=m)&&(bs.all (N4 m)&&cF m hs)))/\S'=S;by_cases lb:bs.length=m
    case neg=>exact Ok.pos (by rw [FV lb];rfl)<|Ok.ret ⟨by rw [FV lb];rfl,rfl⟩
    by_cases lh:hs.length=m
    case neg=>exact Ok.pos (by rw [FV lh,Ks];rfl)<|Ok.ret ⟨by rw [FV lh,Bool.false_and,Ks],rfl⟩
    rw [FM lb,FM lh];have c2:=U0 (fk (by omega)) (λd hd=>(wX (s0 hb hd) m (k+1) S).2);have c3:=y4 (l:=List.range m) (h:=λi=>D.int (i:Int)) (g:=λi=>D.bl (hdB m i (hs.getD i .non))) (t:=λ_=>ret true) (f:=λd27=>bind (ixD (.tup [.tup bs,.tup hs]) (.int 1)) λx29=>bind (ixD x29 d27) λx30=>bind (rn (k+2) xH [x30,.int (m:Int),d27]) λx31=>ret x31) (λi=>aS m i S) (by rw [Gj];exact fk m6) (λ_ _=>rfl) (λi hi _=>by
     have hi:i<hs.length:=by rw [lh];exact Gc.mp hi
     have e:=Fy hi;have g:hs.getD i .non=hs[i]:=by rw [FU,e];rfl
     rw [a7 (show ixD (.tup [.tup bs,.tup hs]) (.int 1) S=.ok (.tup hs) S from rfl),a7 (j8 S e),a7 (wR (s0 hh (GC hi)) hn hN m6 k S i),g];rfl)
    rw [Ir.mpr (λ_ _=>rfl),Gj,show (List.range m).map (λi=>D.bl (hdB m i (hs.getD i .non)))=((List.range m).map λi=>hdB m i (hs.getD i .non)).map D.bl by rw [Ho];rfl] at c3;refine Ok.neg (by decide)<|nx_bind<|Ok.eq (j8 S rfl)<|Ok.eq (M3 _ S)<|Ok.of c2<|Ok.eq (inF _ _ S)<|Ok.eq (c9 _ S) ?_;cases bs.all (N4 m) with
    | false=>exact Ok.pos rfl<|Ok.ret ⟨rfl,rfl⟩
    | true=>
     refine Ok.neg (by decide)<|nx_bind<|Ok.eq (q9 (by omega) S)<|Ok.of c3<|Ok.eq (vQ _ S) ?_;rw [oW];exact Ok.ret ⟨by unfold cF;rw [lh];rfl,rfl⟩
   | _=>exact Ok.pos rfl<|Ok.ret ⟨by simp [D7],rfl⟩
  | _=>exact Ok.pos rfl<|Ok.ret ⟨by simp [D7],rfl⟩
 | scr _=>exact pl.elim
 | ref _=>exact pl.elim
 | _=>exact ⟨_,_,rfl,rfl,rfl⟩
end
structure Lv where
 bx:List (Option Nat)
 hs:List Hd
def Lv.d (r:Lv):D:=.tup [.tup (r.bx.map bxD),.tup (r.hs.map Hd.d)]
def okH (m i:Nat):Hd->Prop
 | .out=>True
 | .look l=>1<=l/\l<=m
 | .put l=>1<=l/\l+1<=m
 | .holds v=>(∀ x∈v,x<m)/\v.Pairwise (· < ·)/\i∈v
structure Fit (m:Nat) (r:Lv):Prop where
 bl:r.bx.length=m
 hl:r.hs.length=m
 bs:∀ g,some g∈r.bx->1<=g/\g<=m
 hd:∀ (i:Nat) h,r.hs[i]?=some h->okH m i h
theorem DE (h:N4 m d=true):∃ o:Option Nat,bxD o=d/\∀ g,o=some g->1<=g/\g<=m:=by
 by_cases q:d=.non
 ·subst q;exact ⟨none,rfl,λg z=>by cases z⟩
 ·have e:N4 m d=whB 1 (m:Int) d:=by cases d <;> first | exact absurd rfl q | rfl
  rw [e] at h;obtain ⟨i,rfl,a,b⟩:=jG h;obtain ⟨g,rfl⟩:=Hf (show 0<=i by omega);exact ⟨some g,rfl,λg' z=>by cases z;omega⟩
theorem AR (h:inW [w] d=true):d=.str w:=by
 obtain ⟨x,rfl,hx⟩:=yX h;grind
theorem Bl (h:hdB m i d=true):∃ a:Hd,a.d=d/\okH m i a:=by
 cases d with
 | tup ds=>
  match ds with
  | [a]=>
   have h:=h;rw [yw h];exact ⟨.out,rfl,trivial⟩
  | [a,b]=>
   have h:(if inW ["holds"] a=true then vwB m i b else if inW ["put"] a=true then whB 1 ((m:Int)-1) b else inW ["look"] a&&whB 1 m b)=true:=h;by_cases c:inW ["holds"] a=true
   ·rw [if_pos c] at h;rw [AR c];cases b with
    | tup ds=>
     have h:((ds.all (whB 0 ((m:Int)-1))&&decide (ds.map j7=srt (w9 (ds.map j7))))&&decide ((i:Int)∈ds.map j7))=true:=h;simp only [FG,FW] at h;obtain ⟨⟨h1,h2⟩,h3⟩:=h;obtain ⟨e,b⟩:=R8 h1;rw [rises_iff] at h2;generalize ds.map j7=ns at e b h2 h3;subst e;have vn:(ns.map Int.toNat).map (λ(n:Nat)=>(n:Int))=ns:=by
      rw [Ho];exact (Jm λx hx=>by have:=(b x hx).1;show ((x.toNat:Nat):Int)=x;omega).trans (List.map_id _)
     refine ⟨.holds (ns.map Int.toNat),?_,λx hx=>?_,?_,?_⟩
     ·show D.tup [.str "holds",.tup ((ns.map Int.toNat).map nD)]=_;have e2:∀ l:List Nat,l.map nD=(l.map λ(n:Nat)=>(n:Int)).map D.int:=λl=>by rw [Ho];rfl
      rw [e2,vn]
     ·obtain ⟨y,hy,rfl⟩:=GI.mp hx;have:=b y hy;omega
     ·rw [JN];exact h2.imp_of_mem λ{x y} hx hy q=>by have:=b x hx;have:=b y hy;omega
     ·exact GI.mpr ⟨_,h3,by omega⟩
    | _=>cases h
   ·rw [if_neg c] at h;by_cases c2:inW ["put"] a=true
    ·rw [if_pos c2] at h;rw [AR c2];obtain ⟨x,rfl,h1,h2⟩:=jG h;obtain ⟨g,rfl⟩:=Hf (show 0<=x by omega);exact ⟨.put g,rfl,by show 1<=g/\g+1<=m;omega⟩
    ·rw [if_neg c2,FG] at h;rw [AR h.1];obtain ⟨x,rfl,h1,h2⟩:=jG h.2;obtain ⟨g,rfl⟩:=Hf (show 0<=x by omega);exact ⟨.look g,rfl,by show 1<=g/\g<=m;omega⟩
  | []=>cases h
  | _ :: _ :: _ :: _=>cases h
 | _=>cases h
theorem zX (h:nh m d=true):∃ r:Lv,d=r.d/\Fit m r:=by
 cases d with
 | tup ds=>
  match ds with
  | [b,hd]=>
   have h:(D7 m b&&(D7 m hd&&((els b).all (N4 m)&&cF m (els hd))))=true:=h;simp only [FG] at h;obtain ⟨h2,h3,h4,h5⟩:=h;obtain ⟨bs,rfl,lb⟩:=S8 h2;obtain ⟨hs,rfl,lh⟩:=S8 h3;obtain ⟨os,rfl,ho⟩:=oX (λd=>DE) h4;have h5:(List.range hs.length).all (λi=>hdB m i (hs.getD i .non))=true:=h5;obtain ⟨as,rfl,ha⟩:=pV (λi d e=>by
    have hi:=(Fv.mp e).1;have:=FX.mp h5 i (Gc.mpr hi);rw [FU,e] at this;exact Bl this)
   rw [Fu] at lb lh;exact ⟨⟨os,as⟩,rfl,lb,lh,λg hg=>ho _ hg g rfl,ha⟩
  | []=>cases h
  | [_]=>cases h
  | _ :: _ :: _ :: _=>cases h
 | _=>cases h
theorem Di {o:Option Nat} (h:∀ g,o=some g->1<=g/\g<=m):N4 m (bxD o)=true:=by
 cases o with
 | none=>rfl
 | some g=>
  have:=h g rfl;exact pY this.1 this.2
theorem DT (h:okH m i a):hdB m i a.d=true:=by
 cases a with
 | out=>kernel_rfl
 | look l=>
  have h:=h;show (if inW ["holds"] (.str "look")=true then vwB m i (.int (l:Int)) else if inW ["put"] (.str "look")=true then whB 1 ((m:Int)-1) (.int (l:Int)) else inW ["look"] (.str "look")&&whB 1 m (.int (l:Int)))=true;rw [if_neg (by decide +kernel),if_neg (by decide +kernel),show whB 1 m (.int (l:Int))=true from pY h.1 h.2];kernel_rfl
 | put l=>
  have h:1<=l/\l+1<=m:=h;show (if inW ["holds"] (.str "put")=true then vwB m i (.int (l:Int)) else if inW ["put"] (.str "put")=true then whB 1 ((m:Int)-1) (.int (l:Int)) else inW ["look"] (.str "put")&&whB 1 m (.int (l:Int)))=true;rw [if_neg (by decide +kernel),if_pos (by decide +kernel)];show (decide ((1:Int)<=(l:Int))&&decide ((l:Int)<=(m:Int)-1))=true;rw [FM (by omega),FM (by omega)];rfl
 | holds v=>
  obtain ⟨h1,h2,h3⟩:=h;show (if inW ["holds"] (.str "holds")=true then vwB m i (.tup (v.map nD)) else if inW ["put"] (.str "holds")=true then whB 1 ((m:Int)-1) (.tup (v.map nD)) else inW ["look"] (.str "holds")&&whB 1 m (.tup (v.map nD)))=true;rw [if_pos (by decide +kernel)];have e:(v.map nD).map j7=v.map λ(n:Nat)=>(n:Int):=by rw [Ho];rfl
  show (((v.map nD).all (whB 0 ((m:Int)-1))&&decide ((v.map nD).map j7=srt (w9 ((v.map nD).map j7))))&&decide ((i:Int)∈(v.map nD).map j7))=true;rw [e];have a:(v.map nD).all (whB 0 ((m:Int)-1))=true:=by
   rw [FX];intro x hx;obtain ⟨y,hy,rfl⟩:=GI.mp hx;have:=h1 y hy;show (decide ((0:Int)<=(y:Int))&&decide ((y:Int)<=(m:Int)-1))=true;rw [FM (by omega),FM (by omega)];rfl
  rw [a,FM (rises_iff.mpr (by rw [JN];exact h2.imp λq=>by omega)),FM (GI.mpr ⟨i,h3,rfl⟩)];rfl
theorem Fit.lev (F:Fit m r):nh m r.d=true:=by
 show (D7 m (.tup (r.bx.map bxD))&&(D7 m (.tup (r.hs.map Hd.d))&&((r.bx.map bxD).all (N4 m)&&cF m (r.hs.map Hd.d))))=true;have b:D7 m (.tup (r.bx.map bxD))=true:=FM (by rw [Fu];exact F.bl);have c:D7 m (.tup (r.hs.map Hd.d))=true:=FM (by rw [Fu];exact F.hl);have d:(r.bx.map bxD).all (N4 m)=true:=by
  rw [FX];intro x h;obtain ⟨o,f,rfl⟩:=GI.mp h;exact Di λg e=>F.bs g (e▸f)
 have e:cF m (r.hs.map Hd.d)=true:=by
  unfold cF;rw [FX];intro i a;rw [Gc,Fu] at a;have q:(r.hs.map Hd.d)[i]?=some r.hs[i].d:=h8 (Fy a);rw [FU,q];exact DT (F.hd i _ (Fy a))
 grind
theorem qR {v:List Nat} {m:Nat} (h:∀ x∈v,x<m) (u:v.Pairwise (· < ·)):v.length<=m:=by
 have:=De (u.imp λq=>by omega) λx a=>Gc.mpr (h x a);grind
theorem okH.sm (h:okH m i a) (m6:m<=6):Sml 2 560 a.d:=by
 cases a with
 | out=>exact Sml.w
 | look l=>
  have h:1<=l/\l<=m:=h;exact (Sml.tup (n:=0) (N:=60) (m:=2) (.cons Sml.w (.cons (Sml.nat (by omega)) .nil)) (FH _)).mono (by decide) (by decide)
 | put l=>
  have h:1<=l/\l+1<=m:=h;exact (Sml.tup (n:=0) (N:=60) (m:=2) (.cons Sml.w (.cons (Sml.nat (by omega)) .nil)) (FH _)).mono (by decide) (by decide)
 | holds v=>
  obtain ⟨h1,h2,h3⟩:=h;have l:=qR h1 h2;have s:Sml 1 375 (.tup (v.map nD)):=(Sml.tup (n:=0) (N:=60) (m:=6) (Smls.map λx hx=>Sml.nat (by have:=h1 x hx;omega)) (by rw [Fu];omega)).mono (by decide) (by decide);refine ⟨⟨(Sml.w (n:=0) (N:=100)).pl,s.pl,trivial⟩,?_,?_⟩
  ·have:=s.dp;show max 0 (max (L3.dp (.tup (v.map nD))) 0)+1<=2;omega
  ·have:=s.sz;show 10 * ("holds" : Str).length+2+2+(L3.sz (.tup (v.map nD))+2+0)+3<=560;rw [show ("holds" : Str).length=5 by decide +kernel];omega
theorem Fit.any (F:Fit m r) (h:m<=6):Any 1 4000 r.d:=by
 have bl:=F.bl;have p:=F.hl;have c:Sml 1 400 (.tup (r.bx.map bxD)):=(Sml.tup (n:=0) (N:=60) (m:=6) (Smls.map λo d=>by
  cases o with
  | none=>exact Sml.non
  | some g=>exact Sml.nat (by have:=F.bs g d;omega)) (by rw [Fu];omega)).mono (by decide) (by decide)
 have b:Sml 3 3500 (.tup (r.hs.map Hd.d)):=(Sml.tup (m:=6) (Smls.map λa j=>by
  obtain ⟨i,f,e⟩:=Hk j;exact (F.hd i a (by rw [Fy f,e])).sm h) (by rw [Fu];omega)).mono (by decide) (by decide)
 have q:=c.sz;have k:=b.sz;refine ⟨Pln.up _ ⟨c.pl,b.pl,trivial⟩,?_,?_⟩
 ·have s:=c.dp;have l:=b.dp;show max (L3.dp (.tup (r.bx.map bxD))) (max (L3.dp (.tup (r.hs.map Hd.d))) 0)+1<=3+1;omega
 ·show L3.sz (.tup (r.bx.map bxD))+2+(L3.sz (.tup (r.hs.map Hd.d))+2+0)+3<=4000;omega
theorem tG {g:Type} {l:List g} {f:g->D} {ds:List D} {n N:Nat} {p:g->Bool} (s:Smls n N (l.map f)) (i:Sml n N (.tup ds)) (x:n<=42) (o:∀ a∈l,PyData.eqv (py (f a)) (.tuple (pys ds))=p a) (S:Sto):countG (.tup (l.map f)) [.tup ds] S=.ok (.int ((l.countP p:Nat):Int)) S:=by
 have j:=Plns.of λd hd=>(s d hd).pl;have y:=aR λd hd=>(s d hd).dp;have t:d8 64 S (.tup (l.map f))=some (.tuple (pys (l.map f))):=B4 S (.tup (l.map f)) 64 j (by show dps (l.map f)+1<64;omega);have v:d8 64 S (.tup ds)=some (.tuple (pys ds)):=B4 S (.tup ds) 64 i.pl (by have:=i.dp;omega);have hd:=K9 (.tup ds);have A:=i.dp;show (match d8 64 S (.tup (l.map f)),d8 64 S (.tup ds) with
  | some (.tuple ps),some q=>(if q.canLay0=true/\PyData.canLayAll0 ps=true/\min (PyData.depthAll ps) q.depth<=60 then ret (D.int ((ps.countP λz=>PyData.eqv z q:Nat):Int)) else bad) S
  | _,_=>.bad)=_
 rw [t,v];have u:=(O7 (.tup (l.map f)) j);have r:PyData.depth (.tuple (pys ds))<=60:=by
  have:=hd;have e:py (.tup ds)=.tuple (pys ds):=rfl;rw [e] at this;omega
 have c:PyData.canLay0 (.tuple (pys ds))=true/\PyData.canLayAll0 (pys (l.map f))=true/\min (PyData.depthAll (pys (l.map f))) (PyData.depth (.tuple (pys ds)))<=60:=⟨O7 (.tup ds) i.pl,u,by omega⟩;simp only [if_pos c];have k:∀ l:List g,(∀ a∈l,PyData.eqv (py (f a)) (.tuple (pys ds))=p a)->(pys (l.map f)).countP (λz=>PyData.eqv z (.tuple (pys ds)))=l.countP p:=λl=>by
  induction l with
  | nil=>intro _;rfl
  | cons a l m=>
   intro h;show (py (f a) :: pys (l.map f)).countP _=_;rw [GO,GO,m λb w=>h b (FQ _ w),h a (FO ..)]
 rw [k l o];rfl
def A8 (l:Nat):Hd->Bool
 | .put e=>decide (e=l)
 | _=>false
theorem vP (l:Nat) (a:Hd):PyData.eqv (py a.d) (.tuple (pys [.str "put",.int (l:Int)]))=A8 l a:=by
 cases a with
 | out=>kernel_rfl
 | look e=>kernel_rfl
 | put e=>
  have g:PyData.eqv (py (Hd.put e).d) (.tuple (pys [.str "put",.int (l:Int)]))=(((e:Int)==(l:Int))&&true):=by kernel_rfl
  rw [g,IB];show _=decide (e=l);by_cases q:e=l
  ·subst q;simp
  ·grind
 | holds v=>kernel_rfl
def u7 (r:Lv) (i:Nat):Option (Str×Nat):=if r.bx[i]?=(r.hs[i]?).map boxOf then none else some ("box",i)
def r8 (r:Lv) (i:Nat):Option (Str×Nat):=if i+1<(ups r.bx (i+1)).length+r.hs.countP (A8 (i+1)) then some ("many",i+1) else none
def A5 (r:Lv) (i:Nat):Option (Str×Nat):=match r.hs[i]? with
 | some (.holds v)=>if v=ups r.bx v.length then none else some ("view",i)
 | _=>none
def ab (m:Nat) (r:Lv):Option (Str×Nat):=match (List.range m).findSome? (u7 r) with
 | some x=>some x
 | none=>match (List.range m).findSome? (r8 r) with
  | some x=>some x
  | none=>(List.range m).findSome? (A5 r)
def exN (x:Str×Nat):O:=.exc 3 [("word",.str x.1),("at",.int (x.2:Int))]
def Rz (S:Sto) (x:Str×Nat) (n:Nat) (S':Sto):Prop:=n=S.length/\S'=S++[exN x]
theorem oj (o p:Option Nat) (S:Sto):a9 .NotEq (bxD o) (bxD p) S=.ok (.bl (decide (o≠p))) S:=by
 cases o with
 | none=>cases p <;> rfl
 | some g=>
  cases p with
  | none=>rfl
  | some h=>
   show R.ok (D.bl (!decide ((g:Int)=(h:Int)))) S=_;congr 2;by_cases q:g=h
   ·subst q;simp
   ·grind
theorem tw {n:Nat} {S:Sto} (b:n<100) (a:A9 S (.str w)=true):([.str w,.int (n:Int)]:List D).all (A9 S)=true:=by
 simp only [Gy,List.all_nil,IB,a,Bool.true_and];exact sK ⟨by omega,by omega⟩
theorem bD (v:List Nat) (S:Sto):k8 (.tup (v.map nD)) S=.ok (.int (v.length:Int)) S:=(B0 _ S).trans (by rw [Fu])
theorem xR (a:Hd) (k:Nat) (S:Sto):rn (k+1) zg [a.d] S=.ok (bxD (boxOf a)) S:=by
 refine j4 ?_;rw [rn,b8 rfl,sU];cases a with
 | out=>exact ⟨_,_,rfl,rfl,rfl⟩
 | look l=>exact ⟨_,_,rfl,rfl,rfl⟩
 | put l=>exact Ok.eq rfl<|Ok.eq rfl<|Ok.eq rfl<|Ok.neg (by decide)<|Ok.eq rfl<|Ok.eq rfl<|Ok.eq rfl<|Ok.neg (by decide)<|Ok.eq rfl<|Ok.eq rfl<|Ok.eq rfl<|Ok.pos rfl<|Ok.eq rfl<|Ok.eq (v1 l 1 S)<|Ok.ret ⟨rfl,rfl⟩
 | holds v=>exact Ok.eq rfl<|Ok.eq rfl<|Ok.eq rfl<|Ok.neg (by decide)<|Ok.eq rfl<|Ok.eq rfl<|Ok.eq rfl<|Ok.neg (by decide)<|Ok.eq rfl<|Ok.eq rfl<|Ok.eq rfl<|Ok.neg (by decide)<|Ok.eq rfl<|Ok.eq (bD v S)<|Ok.ret ⟨rfl,rfl⟩
theorem aK (l:List Nat):l.map nD=(l.map λ(n:Nat)=>(n:Int)).map D.int:=by rw [Ho];rfl
theorem uB {a b:List Nat}:(a.map λ(n:Nat)=>(n:Int))=(b.map λ(n:Nat)=>(n:Int))↔a=b:=by
 constructor
 ·intro e;exact (List.map_inj_right (λx y h=>by omega)).mp e
 ·intro e;rw [e]
theorem BD (v w:List Nat) (S:Sto):a9 .NotEq (.tup (v.map nD)) (.tup (w.map nD)) S=.ok (.bl (!decide (v=w))) S:=by
 rw [aK,aK,DO];congr 3;exact decide_eq_decide.mpr uB
def sI (m:Nat) (r:Lv) (b a c:Option D):L3.Env:=[some (.int (m:Int)),some r.d,some (.tup (r.bx.map bxD)),some (.tup (r.hs.map Hd.d)),b,a,c]
def En7 (m:Nat) (r:Lv) (ρ:L3.Env):Prop:=∃ b a c,ρ=sI m r b a c
theorem qA {l:List Hd} (S:Sto) {m:Nat} (h:l.length=m):y0 (l.map Hd.d) m S=some none:=by
 have e:(l.map Hd.d)[m]?=none:=Gr (by simp;omega);simp only [y0,e,Fu,h,Ky]
theorem xC {l:List Hd} {i:Nat} {a:Hd} (h:l[i]?=some a) (S:Sto):y0 (l.map Hd.d) i S=some (some (.tup [.int (i:Int),a.d])):=by
 have e:(l.map Hd.d)[i]?=some a.d:=h8 h;simp only [y0,e]
theorem oR {n i:Nat} (h:i<n) (S:Sto):E3 1 n i S=some (some (.int ((i+1:Nat):Int))):=by
 rw [show i+1=1+i by omega];exact jP h S
section
variable {m:Nat} {r:Lv} (F:Fit m r) (m6:m<=6) (k:Nat) (S:Sto)
include F m6
theorem sr7:j6 [.int 1,.int ((m+1:Nat):Int)] S=.ok (E3 1 m,m+1) S:=kL (by omega) (by omega) S
theorem tS (l:Nat) (d:l<=6):countG (.tup (r.hs.map Hd.d)) [.tup [.str "put",.int (l:Int)]] S=.ok (.int ((r.hs.countP (A8 l):Nat):Int)) S:=by
 refine tG (n:=2) (N:=560) (Smls.map λa c=>?_) ?_ (by omega) (λa _=>vP l a) S
 ·obtain ⟨i,b,e⟩:=Hk c;exact (F.hd i a (by rw [Fy b,e])).sm m6
 ·exact (Sml.tup (n:=0) (N:=60) (m:=2) (.cons Sml.w (.cons (Sml.nat (by omega)) .nil)) (FH _)).mono (by decide) (by decide)
theorem jN {ρ:L3.Env} (h:En7 m r ρ):((List.range m).findSome? (u7 r)=none->Ok (i6 (y0 (r.hs.map Hd.d)) (p8 [4,5]) (I0 (rn (k+5))) (m+1) 0 ρ) S λfl S'=>∃ ρ',fl=.nx ρ'/\En7 m r ρ'/\S'=S)/\∀ x,(List.range m).findSome? (u7 r)=some x->Xn (i6 (y0 (r.hs.map Hd.d)) (p8 [4,5]) (I0 (rn (k+5))) (m+1) 0 ρ) S (Rz S x):=by
 refine chk (E:=En7 m r) (qA S F.hl) (λi hi=>?_) h;obtain ⟨a,ha⟩:∃ a,r.hs[i]?=some a:=⟨_,Fy (by rw [F.hl];exact hi)⟩;obtain ⟨o,ho⟩:∃ o,r.bx[i]?=some o:=⟨_,Fy (by rw [F.bl];exact hi)⟩;refine ⟨_,xC ha S,?_⟩;rintro _ ⟨o4,o5,o6,rfl⟩;refine ⟨sI m r (some (.int (i:Int))) (some a.d) o6,rfl,λe=>?_,λx e=>?_⟩
 ·unfold I0;rw [Y5];unfold u7 at e;rw [ho,ha] at e;have q:o=boxOf a:=by
   by_cases z:o=boxOf a
   ·exact z
   ·rw [if_neg (λw=>z (by simpa using w))] at e;cases e
  refine Ok.first<|Ok.cg (cW ..)<|Ok.eq (j8 S (h8 ho))<|Ok.eq (xR a (k+4) S)<|Ok.eq (oj o (boxOf a) S)<|Ok.eq (c9 _ S)<|Ok.neg (by simp [q])<|Ok.ret ⟨⟨_,rfl,_,_,_,rfl⟩,rfl⟩
 ·unfold I0;rw [Y5];unfold u7 at e;rw [ho,ha] at e;have q:o≠boxOf a:=λz=>by rw [if_pos (by rw [z];rfl)] at e;cases e
  rw [if_neg (λw=>q (by simpa using w))] at e;cases e;exact Xn.first<|Xn.cg (cW ..)<|Xn.eq (j8 S (h8 ho))<|Xn.eq (xR a (k+4) S)<|Xn.eq (oj o (boxOf a) S)<|Xn.eq (c9 _ S)<|Xn.pos (FM q)<|raise_k rfl (tw (by omega) (by kernel_rfl))
theorem nG (h:En7 m r ρ):((List.range m).findSome? (r8 r)=none->Ok (i6 (E3 1 m) (λd ρ=>some (ρ.set 6 (some d))) (L5 (rn (k+5))) (m+1) 0 ρ) S λf S'=>∃ a,f=.nx a/\En7 m r a/\S'=S)/\∀ x,(List.range m).findSome? (r8 r)=some x->Xn (i6 (E3 1 m) (λd ρ=>some (ρ.set 6 (some d))) (L5 (rn (k+5))) (m+1) 0 ρ) S (Rz S x):=by
 refine chk (fS m S) (λi j=>⟨_,oR j S,?_⟩) h;rintro _ ⟨b,g,l,rfl⟩;have u:rn (k+5) ji [.tup (r.bx.map bxD),.int ((i+1:Nat):Int)] S=.ok (.tup ((ups r.bx (i+1)).map nD)) S:=j4 (je (by have:=F.bl;omega));have c:=tS F m6 S (i+1) (by omega);have t:tupOf (.tup (r.hs.map Hd.d)) S=.ok (r.hs.map Hd.d) S:=rfl;refine ⟨sI m r b g (some (.int ((i+1:Nat):Int))),rfl,λe=>?_,λx e=>?_⟩
 ·unfold L5;rw [X9];unfold r8 at e;have q:¬ i+1<(ups r.bx (i+1)).length+r.hs.countP (A8 (i+1)):=λz=>by rw [if_pos z] at e;cases e
  exact Ok.first<|Ok.cg (cX ..)<|Ok.eq u<|Ok.eq (bD _ S)<|Ok.eq t<|Ok.eq c<|Ok.eq (v1 _ _ S)<|Ok.eq (fN _ _ S)<|Ok.eq (c9 _ S)<|Ok.neg (by rw [FV (by omega)];decide)<|Ok.ret ⟨⟨_,rfl,_,_,_,rfl⟩,rfl⟩
 ·unfold L5;rw [X9];unfold r8 at e;by_cases q:i+1<(ups r.bx (i+1)).length+r.hs.countP (A8 (i+1))
  ·rw [if_pos q] at e;cases e;exact Xn.first<|Xn.cg (cX ..)<|Xn.eq u<|Xn.eq (bD _ S)<|Xn.eq t<|Xn.eq c<|Xn.eq (v1 _ _ S)<|Xn.eq (fN _ _ S)<|Xn.eq (c9 _ S)<|Xn.pos (by rw [FM (by omega)])<|raise_k rfl (tw (by omega) (by kernel_rfl))
  ·grind
theorem wb (h:En7 m r ρ):((List.range m).findSome? (A5 r)=none->Ok (i6 (y0 (r.hs.map Hd.d)) (p8 [4,5]) (K5 (rn (k+5))) (m+1) 0 ρ) S λfl S'=>∃ ρ',fl=.nx ρ'/\En7 m r ρ'/\S'=S)/\∀ x,(List.range m).findSome? (A5 r)=some x->Xn (i6 (y0 (r.hs.map Hd.d)) (p8 [4,5]) (K5 (rn (k+5))) (m+1) 0 ρ) S (Rz S x):=by
 refine chk (qA S F.hl) (λi hi=>?_) h;obtain ⟨a,ha⟩:∃ a,r.hs[i]?=some a:=⟨_,Fy (by rw [F.hl];exact hi)⟩;refine ⟨_,xC ha S,?_⟩;rintro _ ⟨o4,o5,o6,rfl⟩;refine ⟨sI m r (some (.int (i:Int))) (some a.d) o6,rfl,λe=>?_,λx e=>?_⟩
 ·unfold K5;rw [X3];unfold A5 at e;rw [ha] at e;refine Ok.first<|Ok.cg (cS ..) ?_;cases a with
  | holds v=>
   have e:=e;have q:v=ups r.bx v.length:=by
    by_cases z:v=ups r.bx v.length
    ·exact z
    ·grind
   have u:rn (k+5) ji [.tup (r.bx.map bxD),.int (v.length:Int)] S=.ok (.tup ((ups r.bx v.length).map nD)) S:=j4 (je (by have:=F.bl;omega));exact Ok.eq rfl<|Ok.eq rfl<|Ok.eq rfl<|Ok.pos rfl<|Ok.eq rfl<|Ok.eq rfl<|Ok.eq (bD v S)<|Ok.eq u<|Ok.eq (BD _ _ S)<|Ok.eq (c9 _ S)<|Ok.neg (by rw [FM q];decide)<|Ok.ret ⟨⟨_,rfl,_,_,_,rfl⟩,rfl⟩
  | out=>exact Ok.eq rfl<|Ok.eq rfl<|Ok.eq rfl<|Ok.neg (by decide)<|Ok.ret ⟨⟨_,rfl,_,_,_,rfl⟩,rfl⟩
  | look l=>exact Ok.eq rfl<|Ok.eq rfl<|Ok.eq rfl<|Ok.neg (by decide)<|Ok.ret ⟨⟨_,rfl,_,_,_,rfl⟩,rfl⟩
  | put l=>exact Ok.eq rfl<|Ok.eq rfl<|Ok.eq rfl<|Ok.neg (by decide)<|Ok.ret ⟨⟨_,rfl,_,_,_,rfl⟩,rfl⟩
 ·unfold K5;rw [X3];unfold A5 at e;rw [ha] at e;cases a with
  | holds v=>
   have e:(if v=ups r.bx v.length then none else some (("view" : Str),i))=some x:=e;have q:v≠ups r.bx v.length:=λz=>by rw [if_pos z] at e;cases e
   rw [if_neg q] at e;cases e;have u:rn (k+5) ji [.tup (r.bx.map bxD),.int (v.length:Int)] S=.ok (.tup ((ups r.bx v.length).map nD)) S:=j4 (je (by have:=F.bl;omega));exact Xn.first<|Xn.cg (cS ..)<|Xn.eq rfl<|Xn.eq rfl<|Xn.eq rfl<|Xn.pos rfl<|Xn.eq rfl<|Xn.eq rfl<|Xn.eq (bD v S)<|Xn.eq u<|Xn.eq (BD _ _ S)<|Xn.eq (c9 _ S)<|Xn.pos (by rw [FV q];rfl)<|raise_k rfl (tw (by omega) (by kernel_rfl))
  | _=>cases e
theorem bg:(ab m r=none->rn (k+6) dm [.int (m:Int),r.d] S=.ok (.bl true) S)/\∀ x,ab m r=some x->Xn (rn (k+6) dm [.int (m:Int),r.d]) S (Rz S x):=by
 have st:=ii (by omega) (by omega) m6 k S (F.any m6);rw [F.lev] at st;have f:Z5 (p8 [2,3]) r.d [some (.int (m:Int)),some r.d,none,none,none,none,none] S=.ok (.nx (sI m r none none none)) S:=rfl;have es:X6 (.tup (r.hs.map Hd.d)) S=.ok (y0 (r.hs.map Hd.d),m+1) S:=by
  show R.ok (y0 (r.hs.map Hd.d),(r.hs.map Hd.d).length+1) S=_;rw [Fu,F.hl]
 unfold ab;cases e:(List.range m).findSome? (u7 r) with
 | some x=>
  refine ⟨λz=>(by cases z),λy a=>?_⟩;cases a;rw [rn,b8 rfl,R1,T8];refine Xn.first<|Xn.cg (fW ..)<|Xn.eq st<|Xn.eq rfl<|Xn.neg (by decide)<|Xn.nxt<|Xn.cg (jh ..)<|Xn.eq f<|Xn.nxt<|Xn.cg (kE ..)<|Xn.eq es<|Xn.bind ?_;exact (jN F m6 k S ⟨_,_,_,rfl⟩).2 _ e
 | none=>
 cases g:(List.range m).findSome? (r8 r) with
 | some x=>
  refine ⟨λz=>(by cases z),λy a=>?_⟩;cases a;rw [rn,b8 rfl,R1,T8];refine Xn.first<|Xn.cg (fW ..)<|Xn.eq st<|Xn.eq rfl<|Xn.neg (by decide)<|Xn.nxt<|Xn.cg (jh ..)<|Xn.eq f<|Xn.nxt<|Xn.cg (kE ..)<|Xn.eq es<|Xn.ok (((jN F m6 k S ⟨_,_,_,rfl⟩).1 e).mono ?_);rintro _ S' ⟨_,rfl,⟨c,b,d,rfl⟩,rfl⟩;refine Xn.nxt<|Xn.cg (rC ..)<|Xn.eq (v1 m 1 _)<|Xn.eq (sr7 F m6 _)<|Xn.bind ?_;exact (nG F m6 k _ ⟨_,_,_,rfl⟩).2 _ g
 | none=>
 cases h:(List.range m).findSome? (A5 r) with
 | some x=>
  refine ⟨λz=>(by cases z),λy a=>?_⟩;cases a;rw [rn,b8 rfl,R1,T8];refine Xn.first<|Xn.cg (fW ..)<|Xn.eq st<|Xn.eq rfl<|Xn.neg (by decide)<|Xn.nxt<|Xn.cg (jh ..)<|Xn.eq f<|Xn.nxt<|Xn.cg (kE ..)<|Xn.eq es<|Xn.ok (((jN F m6 k S ⟨_,_,_,rfl⟩).1 e).mono ?_);rintro _ S' ⟨_,rfl,⟨c,b,d,rfl⟩,rfl⟩;refine Xn.nxt<|Xn.cg (rC ..)<|Xn.eq (v1 m 1 _)<|Xn.eq (sr7 F m6 _)<|Xn.ok (((nG F m6 k _ ⟨_,_,_,rfl⟩).1 g).mono ?_);rintro _ S' ⟨_,rfl,⟨c,b,d,rfl⟩,rfl⟩;refine Xn.nxt<|Xn.cg (xT ..)<|Xn.eq es<|Xn.bind ?_;exact (wb F m6 k _ ⟨_,_,_,rfl⟩).2 _ h
 | none=>
  refine ⟨λ_=>j4 ?_,λy a=>by cases a⟩;rw [rn,b8 rfl,R1,T8];refine Ok.first<|Ok.cg (fW ..)<|Ok.eq st<|Ok.eq rfl<|Ok.neg (by decide)<|Ok.nxt<|Ok.cg (jh ..)<|Ok.eq f<|Ok.nxt<|Ok.cg (kE ..)<|Ok.eq es<|Ok.bind (((jN F m6 k S ⟨_,_,_,rfl⟩).1 e).mono ?_);rintro _ S' ⟨_,rfl,⟨c,b,d,rfl⟩,rfl⟩;refine Ok.nxt<|Ok.cg (rC ..)<|Ok.eq (v1 m 1 _)<|Ok.eq (sr7 F m6 _)<|Ok.bind (((nG F m6 k _ ⟨_,_,_,rfl⟩).1 g).mono ?_);rintro _ S' ⟨_,rfl,⟨c,b,d,rfl⟩,rfl⟩;refine Ok.nxt<|Ok.cg (xT ..)<|Ok.eq es<|Ok.bind (((wb F m6 k _ ⟨_,_,_,rfl⟩).1 h).mono ?_);rintro _ S' ⟨_,rfl,⟨c,b,d,rfl⟩,rfl⟩;exact Ok.nxt<|Ok.cg (Be ..)<|Ok.ret ⟨rfl,rfl⟩
end
def uY:Option (Str×Nat)->D
 | none=>.str "let by"
 | some x=>.tup [.str "stand",.str x.1,.int (x.2:Int)]
theorem jf (hs:List Hd):(List.range hs.length).map (hat hs)=hs:=by
 refine IZ (by simp) λi h1 h2=>?_;rw [List.getElem_map,List.getElem_range];exact dS (Fy h2)
theorem oU {r:Lv} {i:Nat} (e:u7 r i=none):r.bx[i]?=(r.hs[i]?).map boxOf:=by
 unfold u7 at e;by_cases z:r.bx[i]?=(r.hs[i]?).map boxOf
 ·exact z
 ·rw [if_neg z] at e;cases e
theorem W6 {β:Type} {f:Nat->Option β} {n:Nat} (h:(List.range n).findSome? f=none):∀ i,i<n->f i=none:=by
 rcases P8 f n with ⟨a,_⟩ | ⟨j,y,g1,g2,g3,g4⟩
 ·exact a
 ·rw [g4] at h;cases h
theorem iJ {S:Sto} (e:S[n]?=some (.exc 3 [("word",a),("at",b)])) (k:Nat):Ok (rn (k+1) ow [.ref n]) S λd S'=>d=.tup [.str "stand",a,b]/\∃ R,S'=S++R:=by
 have i:∀ (sx:Nat->Bool) (x:O),t7 sx (.ref n) (S++[x])=.ok (.bl (sx 3)) (S++[x]):=λsx x=>by
  unfold t7;have:(S++[x])[n]?=some (.exc 3 [("word",a),("at",b)]):=by rw [FI (Fv.mp e).1];exact e
  simp only [this]
 have c:∀ x:O,(S++[x])[S.length]?=some x:=λx=>by rw [Gq (FH _)];simp
 have f:(S++[.lst []])[n]?=some (.exc 3 [("word",a),("at",b)]):=by rw [FI (Fv.mp e).1];exact e
 rw [rn,b8 rfl,kZ,jp];refine Ok.first (Ok.cg (xQ ..) (Ok.eq (rfl) ?_));refine Ok.nxt (Ok.cg (xP ..) (Ok.eq (i _ _) (Ok.eq rfl (Ok.neg (by decide) ?_))));refine Ok.nxt (Ok.cg (wa ..) (Ok.eq (i _ _) (Ok.eq rfl (Ok.pos (by decide) (Ok.eq (Q7 (c _)) (Ok.eq (by simp only [bI,f];rfl) (Ok.eq (by simp only [bI,f];rfl) (Ok.eq (bp (c _) (by show 0<sizeLine;decide)) ?_))))))));rw [jT];exact Ok.nxt<|Ok.cg (wZ ..)<|Ok.eq (i _ _)<|Ok.eq rfl<|Ok.neg (by decide)<|Ok.nxt<|Ok.cg (ww ..)<|Ok.eq (i _ _)<|Ok.eq rfl<|Ok.neg (by decide)<|Ok.eq (i _ _)<|Ok.eq rfl<|Ok.neg (by decide)<|Ok.nxt<|Ok.cg (xI ..)<|Ok.eq (nw (c _))<|Ok.eq rfl<|Ok.eq rfl<|Ok.pos rfl<|Ok.eq (zf (c _) rfl)<|Ok.ret ⟨rfl,_,rfl⟩
def Wo (o:Option (Str×Nat)):Prop:=∀ x,o=some x->x.1∈[("shape" : Str),"box","many","view"]/\x.2<10
theorem U7 {b:Type} {f:Nat->Option b} {n:Nat} {x:b} (h:(List.range n).findSome? f=some x):∃ i,i<n/\f i=some x:=by
 rcases P8 f n with ⟨_,a⟩ | ⟨j,y,e,c,d,g⟩
 ·rw [a] at h;cases h
 ·grind
theorem zr {m:Nat} (m6:m<=6) (r:Lv):Wo (ab m r):=by
 intro x e;unfold ab at e;cases d2:(List.range m).findSome? (u7 r) with
 | some y=>
  rw [d2] at e;cases e;obtain ⟨i,h1,h2⟩:=U7 d2;unfold u7 at h2;split at h2
  ·cases h2
  ·cases h2;exact ⟨by simp,by show i<10;omega⟩
 | none=>
 rw [d2] at e;cases d3:(List.range m).findSome? (r8 r) with
 | some y=>
  rw [d3] at e;cases e;obtain ⟨i,h1,h2⟩:=U7 d3;unfold r8 at h2;split at h2
  ·cases h2;exact ⟨by simp,by show i+1<10;omega⟩
  ·cases h2
 | none=>
 rw [d3] at e;obtain ⟨i,h1,h2⟩:=U7 e;unfold A5 at h2;split at h2
 ·split at h2
  ·cases h2
  ·cases h2;exact ⟨by simp,by show i<10;omega⟩
 ·cases h2
theorem zj (S:Sto):a9 .NotEq (.str "let by") (.str "let by") S=.ok (.bl false) S:=by kernel_rfl
section
variable {m:Nat} (m1:1<=m) (m6:m<=6)
include m6
theorem dz {o:Option (Str×Nat)} (k:Nat) (S:Sto) (g:o=none->rn (k+6) dm [.int (m:Int),d] S=.ok (.bl true) S) (x:∀ y,o=some y->Xn (rn (k+6) dm [.int (m:Int),d]) S (Rz S y)):Ok (rn (k+7) gJ [.int (m:Int),d]) S λt S'=>t=uY o/\∃ R,S'=S++R:=by
 rw [rn,b8 rfl,wM,tK];refine Ok.first<|Ok.cg (CF ..)<|Ok.nxt<|Ok.cg (Cp ..)<|Ok.bind ?_;cases o with
 | none=>
  refine Ok.try_ ?_;rw [bC];refine Ok.eq (S1:=S) ?_<|Ok.ret<|Ok.nxt<|Ok.cg (xG ..)<|Ok.ret ⟨rfl,[],by simp⟩;rw [a7 (g rfl)];rfl
 | some y=>
  refine Ok.caught ?_;rw [bC];refine Xn.bind (Xn.bind ((x y rfl).mono ?_));rintro n S1 ⟨rfl,rfl⟩;refine ⟨3,[("word",.str y.1),("at",.int (y.2:Int))],by simp [exN],rfl,?_⟩;show Ok (i4 (evK Rs Γ _ 39) (A6 Q1) T5 [some (.int (m:Int)),some d,some (.tup [.str "odd"]),some (.ref S.length)] ret) _ _;rw [fL];refine Ok.first (Ok.cg (lA ..) (nx_bind ((iJ (a:=.str y.1) (b:=.int (y.2:Int)) (by simp [exN]) (k+5)).mono ?_)));rintro _ S2 ⟨rfl,R,rfl⟩;exact Ok.ret<|Ok.nxt<|Ok.cg (xG ..)<|Ok.ret ⟨rfl,_,by rw [GG]⟩
theorem qZ {n N:Nat} (hn:n<=40) (hN:N<=100000) {d:D} (h:Any n N d):∃ o,Wo o/\(∀ k S,Ok (rn (k+7) gJ [.int (m:Int),d]) S λt S'=>t=uY o/\∃ R,S'=S++R)/\(o=none->∃ r,d=r.d/\Fit m r/\ab m r=none):=by
 cases z:nh m d with
 | true=>
  obtain ⟨r,rfl,F⟩:=zX z;exact ⟨ab m r,zr m6 r,λk S=>dz m6 k S (bg F m6 k S).1 (bg F m6 k S).2,λe=>⟨r,rfl,F,e⟩⟩
 | false=>
  refine ⟨some ("shape",0),λx e=>by cases e;exact ⟨by simp,by show 0<10;omega⟩,λk S=>dz m6 k S (λe=>by cases e) λy e=>?_,λe=>by cases e⟩;cases e;have st:=ii hn hN m6 k S h;rw [z] at st;rw [rn,b8 (fd:=Cl) rfl,R1,T8];exact Xn.first<|Xn.cg (fW ..)<|Xn.eq st<|Xn.eq (a:=false) rfl<|Xn.pos rfl<|raise_k rfl (tw (n:=0) (by omega) (by kernel_rfl))
end
structure Ls where
 bx:List (Option Nat)
 hs:List D
def Ls.d (r:Ls):D:=.tup [.tup (r.bx.map bxD),.tup r.hs]
def BsOk (bx:List (Option Nat)):Prop:=∀ g,some g∈bx->1<=g/\g<=7
def HsOk (hs:List D):Prop:=∀ h∈hs,Sml 2 560 h
structure LsOk (m:Nat) (r:Ls):Prop where
 bl:r.bx.length=m
 hl:r.hs.length=m
 bs:BsOk r.bx
 hd:HsOk r.hs
theorem BsOk.app (h:BsOk bx) {o:Option Nat} (b:∀ g,o=some g->1<=g/\g<=7):BsOk (bx++[o]):=λg a=>by
 rcases Gh.mp a with z | z
 ·exact h g z
 ·grind
theorem HsOk.app (h:HsOk hs) {a:D} (c:Sml 2 560 a):HsOk (hs++[a]):=λx b=>by
 rcases Gh.mp b with z | z
 ·exact h x z
 ·grind
theorem BsOk.put (h:BsOk bx) {i:Nat} {o:Option Nat} (a:∀ g,o=some g->1<=g/\g<=7):BsOk (bx.set i o):=λg b=>by
 rcases Io b with z | z
 ·exact h g z
 ·exact a g z.symm
theorem HsOk.put (h:HsOk hs) {i:Nat} {a:D} (c:Sml 2 560 a):HsOk (hs.set i a):=λx b=>by
 rcases Io b with z | z
 ·exact h x z
 ·rw [z];exact c
theorem AU:Sml 2 560 (.tup [.str "out"]):=Sml.w
theorem aO {l:Nat} (h:l<=7):Sml 2 560 (.tup [.str "look",.int (l:Int)]):=(Sml.tup (n:=0) (N:=60) (m:=2) (.cons Sml.w (.cons (Sml.nat (by omega)) .nil)) (FH _)).mono (by decide) (by decide)
theorem zu {l:Nat} (h:l<=7):Sml 2 560 (.tup [.str "put",.int (l:Int)]):=(Sml.tup (n:=0) (N:=60) (m:=2) (.cons Sml.w (.cons (Sml.nat (by omega)) .nil)) (FH _)).mono (by decide) (by decide)
theorem ir {v:List Nat} (b:∀ x∈v,x<6) (l:v.length<=7):Sml 2 560 (.tup [.str "holds",.tup (v.map nD)]):=by
 have s:Sml 1 440 (.tup (v.map nD)):=(Sml.tup (n:=0) (N:=60) (Smls.map λx a=>Sml.nat (by have:=b x a;omega)) (by rw [Fu];omega)).mono (by decide) (by decide);refine ⟨⟨(Sml.w (n:=0) (N:=100)).pl,s.pl,trivial⟩,?_,?_⟩
 ·have:=s.dp;show max 0 (max (L3.dp (.tup (v.map nD))) 0)+1<=2;omega
 ·have:=s.sz;show 10 * ("holds" : Str).length+2+2+(L3.sz (.tup (v.map nD))+2+0)+3<=560;rw [show ("holds" : Str).length=5 by decide +kernel];omega
theorem yj {p N i j k:Nat} {S:Sto} (F:Fw ns p (N+1) S):Ok (bind (a9 .Eq (.int (j:Int)) (.int (i:Int))) λe=>bind (asB e) λz=>if z=true then ret true else bind (rn (k+1) E9 [.ref p,.int 2]) λr=>bind (a9 .Eq r (.int 0)) λe=>bind (asB e) λz=>ret z) S λb S'=>(j=i->b=true)/\Fw ns p N S'/\S'.length=S.length/\∀ q,q≠p->S'[q]?=S[q]?:=by
 refine Ok.eq (D3 _ _ _) (Ok.eq (c9 _ _) (Ok.ite (λ_=>Ok.ret ⟨λ_=>rfl,F.less (by omega),rfl,λ_ _=>rfl⟩) λz=>?_));refine Ok.bind ((f8 (m:=2) F (by omega) (by omega) k).mono ?_);rintro _ S1 ⟨r,rfl,_,d,a,c⟩;exact Ok.eq (D3 _ _ _) (Ok.eq (c9 _ _) (Ok.ret ⟨λe=>absurd (FM (by omega)) z,d,a,c⟩))
theorem AQ {ns:List Int} {p N m:Nat} {S:Sto} (F:Fw ns p (N+8 * m) S) (hm:0<m) (h6:m<=6) (k:Nat):Ok (rn (k+2) Bi [.ref p,.int (m:Int)]) S λd S'=>Fw ns p N S'/\(∃ r:Ls,d=r.d/\LsOk m r)/\∀ q,q<S.length->q≠p->S'[q]?=S[q]?:=by
 have hp:=F.lt;rw [rn,b8 (fd:=Fk) rfl,xV,yW];refine Ok.first<|Ok.cg (Eu ..)<|Ok.eq (show newL [] S=.ok (.ref S.length) (S++[.lst []]) from rfl)<|Ok.nxt<|Ok.cg (Dz ..)<|Ok.eq (show newL [] (S++[.lst []])=.ok (.ref (S++[O.lst []]).length) (S++[.lst []]++[.lst []]) from rfl) ?_;rw [show (S++[O.lst []]).length=S.length+1 by simp]
 let J:Nat->L3.Env->Sto->Prop:=λi ρ S'=>∃ o5 o6 o7 o8 o9:Option D,∃ (bx:List (Option Nat)) (hs:List D),ρ=[some (.ref p),some (.int (m:Int)),some (.ref S.length),some (.ref (S.length+1)),o5,o6,o7,o8,o9]/\Fw ns p (N+8 * (m-i)) S'/\S'[S.length]?=some (.lst (bx.map bxD))/\S'[S.length+1]?=some (.lst hs)/\bx.length=i/\hs.length=i/\HsOk hs/\BsOk bx/\∀ q,q<S.length->q≠p->S'[q]?=S[q]?
 refine Ok.nxt<|Ok.cg (Er ..)<|Ok.eq (q9 (by omega) _) (Ok.bind ((Ok.for_ (n:=m) J (λ_ _=>False) (λ_ _=>False) (λρ S' _=>t9 m S') ?_ m 0 _ _ (by omega) ⟨_,_,_,_,_,[],[],rfl,?_,?_,?_,rfl,rfl,(λh z=>by cases z),(λg z=>by cases z),?_⟩).mono ?_))
 ·rintro i ρ S1 hi ⟨o5,o6,o7,o8,o9,bx,hs,rfl,F1,e1,e2,hb,hh,ha,hg,kp⟩;refine ⟨.int (i:Int),[some (.ref p),some (.int (m:Int)),some (.ref S.length),some (.ref (S.length+1)),some (.int (i:Int)),o6,o7,o8,o9],C7 hi S1,rfl,?_⟩;unfold kN;rw [gF];refine Ok.first<|Ok.cg (oI ..)<|Ok.bind ((f8 (N:=N+8 * (m-(i+1))+7) (F1.less (by omega)) hm (by omega) k).mono ?_);rintro _ S2 ⟨n,rfl,hn,F2,l2,k2⟩;have ad:i9 (.int 1) (.int (n:Int)) S2=.ok (.int ((n+1:Nat):Int)) S2:=by
   show R.ok (D.int (1+(n:Int))) S2=_;rw [show (1+(n:Int))=((n+1:Nat):Int) by omega]
  refine Ok.eq ad<|Ok.nxt<|Ok.cg (rH ..)<|Ok.bind ((f8 (N:=N+8 * (m-(i+1))+6) (m:=5) (F2.less (by omega)) (by omega) (by omega) k).mono ?_);rintro _ S3 ⟨w,rfl,hw,F3,l3,k3⟩;refine Ok.nxt<|Ok.cg (nY ..)<|nx_bind<|Ok.eq (q9 (by omega) _) ((Ok.comp (n:=m) (λj S' es=>Fw ns p (N+8 * (m-(i+1))+(m-j)) S'/\S'.length=S3.length/\(∀ q,q≠p->S'[q]?=S3[q]?)/\∃ v:List Nat,es=v.map nD/\v.length<=j/\(∀ x∈v,x<m)/\(i<j->i∈v)) (λS' es _=>t9 m S') ?_ ⟨F3.less (by omega),rfl,λ_ _=>rfl,[],rfl,FH _,by simp,λz=>absurd z (Kk _)⟩).mono ?_)
  ·rintro j S' es hj ⟨Fj,lj,kj,v,rfl,hv,hx,hm'⟩;refine ⟨.int (j:Int),C7 hj S',(yj (N:=N+8 * (m-(i+1))+(m-(j+1))) (Fj.less (by omega))).mono ?_⟩;rintro b S'' ⟨tb,Fb,lb,kb⟩;have kk:∀ q,q≠p->S''[q]?=S3[q]?:=λq hq=>by rw [kb q hq,kj q hq]
   cases b with
   | true=>
    rw [if_pos rfl];refine Ok.ret ⟨by rw [Fu,Gf];omega,Fb,by omega,kk,v++[j],by rw [GN];rfl,by simp;omega,λx hx'=>?_,λz=>?_⟩
    ·rcases Gh.mp hx' with z | z
     ·exact hx x z
     ·rw [Gb.mp z];exact hj
    ·by_cases e:i=j
     ·rw [e];simp
     ·exact Gh.mpr (.inl (hm' (by omega)))
   | false=>
    rw [if_neg Fz];exact ⟨Fb,by omega,kk,v,rfl,by omega,hx,λz=>hm' (by have:j≠i:=(λe=>by cases tb e);omega)⟩
  rintro _ S4 ⟨F4,l4,k4,v,rfl,hv,hx,hm'⟩;have e1':S4[S.length]?=some (.lst (bx.map bxD)):=by rw [k4 _ (by omega),k3 _ (by omega),k2 _ (by omega)];exact e1
  have e2':S4[S.length+1]?=some (.lst hs):=by rw [k4 _ (by omega),k3 _ (by omega),k2 _ (by omega)];exact e2
  have kp4:∀ q,q<S.length->q≠p->S4[q]?=S[q]?:=λq h1 h2=>by rw [k4 q h2,k3 q h2,k2 q h2];exact kp q h1 h2
  refine Ok.eq (a:=.tup (v.map nD)) rfl<|Ok.nxt<|Ok.cg (rA ..)<|Ok.eq (bV (b:=1) (by omega) _) ?_;rw [show n+1-1=n by omega];have w5:w=0\/w=1\/w=2\/w=3\/w=4:=by omega
  have ea:∃ a:D,([.tup [.str "out"],.tup [.str "look",.int ((n+1:Nat):Int)],.tup [.str "put",.int (n:Int)],.tup [.str "holds",.tup (v.map nD)],.tup [.str "look",.int ((n+1:Nat):Int)]]:List D)[w]?=some a/\Sml 2 560 a:=by
   rcases w5 with rfl | rfl | rfl | rfl | rfl
   ·exact ⟨_,rfl,AU⟩
   ·exact ⟨_,rfl,aO (by omega)⟩
   ·exact ⟨_,rfl,zu (by omega)⟩
   ·exact ⟨_,rfl,ir (λx hx'=>by have:=hx x hx';omega) (by omega)⟩
   ·exact ⟨_,rfl,aO (by omega)⟩
  obtain ⟨a,ea,oa⟩:=ea;refine Ok.eq (mU S4 ea)<|Ok.nxt<|Ok.cg (nW ..) ?_;have hk1:S.length+1<S4.length:=(Fv.mp e2').1;have vp:1<=v.length:=GY (hm' hi);have last:∀ a':D,Sml 2 560 a'->Ok (nxt (evK Rs Γ (rn (k+1)) 39) R6 [nth k7 5,nth k7 6] ret (.nx [some (.ref p),some (.int (m:Int)),some (.ref S.length),some (.ref (S.length+1)),some (.int (i:Int)),some (.int ((n+1:Nat):Int)),some (.int (w:Int)),some (.tup (v.map nD)),some a'])) S4 (FlI (J (i+1)) (λ_ _=>False) (λ_ _=>False)):=by
   intro a' oa';refine Ok.nxt<|Ok.cg (nA ..)<|Ok.eq (Q7 e2')<|Ok.eq (bp e2' (by rw [Gf];omega))<|Ok.nxt<|Ok.cg (pD ..) ?_;have e3:(S4.set (S.length+1) (.lst (hs++[a'])))[S.length]?=some (.lst (bx.map bxD)):=by rw [FS (by omega)];exact e1'
   refine Ok.eq (Q7 e3) (Ok.eq (B0 _ _) ?_);rw [Fu];have eb:∃ o:Option Nat,([.non,.int ((n+1:Nat):Int),.int ((n+1:Nat):Int),.int (v.length:Int),.int ((n+1:Nat):Int)]:List D)[w]?=some (bxD o)/\∀ g,o=some g->1<=g/\g<=7:=by
    rcases w5 with rfl | rfl | rfl | rfl | rfl
    ·exact ⟨none,rfl,λg z=>by cases z⟩
    ·exact ⟨some (n+1),rfl,λg z=>by cases z;omega⟩
    ·exact ⟨some (n+1),rfl,λg z=>by cases z;omega⟩
    ·exact ⟨some v.length,rfl,λg z=>by cases z;omega⟩
    ·exact ⟨some (n+1),rfl,λg z=>by cases z;omega⟩
   obtain ⟨o,eo,oo⟩:=eb;refine Ok.eq (mU _ eo) (Ok.eq (bp e3 (by rw [Fu,Gf];omega)) (Ok.ret ⟨_,_,_,_,_,bx++[o],hs++[a'],rfl,?_,?_,?_,by simp [hb],by simp [hh],ha.app oa',hg.app oo,λq h1 h2=>?_⟩))
   ·refine (F4.less (by omega)).keep ?_;rw [FS (by omega),FS (by omega)]
   ·rw [Ge (by simp;omega)];simp
   ·rw [FS (by omega),Ge hk1]
   ·rw [FS (by omega),FS (by omega)];exact kp4 q h1 h2
  exact Ok.eq (D3 _ _ _)<|Ok.eq (c9 _ _)<|Ok.ite (λ_=>Ok.eq (D3 _ _ _)<|Ok.eq (c9 _ _)<|Ok.ite (λ_=>last _ (aO (l:=1) (by omega))) λ_=>last a oa) λ_=>last a oa
 ·refine (F.less (by omega)).keep ?_;rw [FI (by simp;omega),FI hp]
 ·rw [FI (by simp),Gq (FH _)];simp
 ·rw [Gq (by simp)];simp
 ·intro q h1 h2;rw [FI (by simp;omega),FI h1]
 ·rintro fl S' hf;cases fl with
  | nx ρ=>
   rcases hf with ⟨o5,o6,o7,o8,o9,bx,hs,rfl,F1,e1,e2,hb,hh,ha,hg,kp⟩ | hf
   ·exact Ok.nxt<|Ok.cg (Ee ..)<|Ok.eq (rg e1) (Ok.eq (rg e2) (Ok.ret ⟨F1.less (by omega),⟨⟨bx,hs⟩,rfl,hb,hh,hg,ha⟩,kp⟩))
   ·exact hf.elim
  | rt d=>exact hf.elim
  | bk ρ=>exact hf.elim
  | ct ρ=>exact hf.elim
theorem dA {i k:Nat} {x:D} {S:Sto} (h:i<ds.length) (a:ds.length<=1000):rn (k+1) V0 [.tup ds,.int (i:Int),x] S=.ok (.tup (ds.set i x)) S:=by
 rw [rn,b8 rfl,vq];exact j4 (fJ h a)
theorem wB (x:Int) (ns:List Int) (S:Sto):a9 .In (.int x) (.lst (ns.map D.int)) S=.ok (.bl (decide (x∈ns))) S:=by
 have e:d8 64 S (.lst (ns.map D.int))=some (.list (ns.map PyData.int)):=by
  show (e6 (d8 63 S) (ns.map D.int)).map PyData.list=_;rw [U4 62 S ns];rfl
 show inD false (.int x) (.lst (ns.map D.int)) S=_;unfold inD;rw [e];show Z6 false (.int x) (ns.map PyData.int) S=_;unfold Z6;have hd:PyData.depth (.int x)=0:=by simp [PyData.depth]
 rw [if_pos ⟨rfl,P1 ns,by rw [hd];omega⟩,gW];rfl
theorem jL (x:Nat) (v:List Nat) (S:Sto):a9 .In (.int (x:Int)) (.lst (v.map nD)) S=.ok (.bl (decide (x∈v))) S:=by
 have:=wB (x:Int) (v.map λ(n:Nat)=>(n:Int)) S;rw [aK,this];grind
theorem vE (h:ns.length<64) {S:Sto}:M0 (.lst (ns.map D.int)) S=.ok (.lst ((srt ns).map D.int)) S:=by
 unfold M0;rw [a7 (show G5 (.lst (ns.map D.int)) S=.ok (ns.map D.int) S from rfl)];simp only [P4,if_pos h];rfl
theorem pB {a b:Nat} (h:0<b) (S:Sto):N6 (.int (a:Int)) (.int (b:Int)) S=.ok (.int ((a % b:Nat):Int)) S:=by
 show (if (0:Int)<(b:Int) then ret (D.int ((a:Int) % (b:Int))) else bad) S=_;rw [if_pos (by omega),(Int.natCast_emod a b).symm];rfl
theorem lV {ns:List Int} {p N m:Nat} {S:Sto} (w:Fw ns p (N+8 * m+10) S) (hm:0<m) (h6:m<=6) {r:Ls} (F:LsOk m r) (k:Nat):Ok (rn (k+3) yz [.ref p,r.d]) S λd S'=>Fw ns p N S'/\(∃ r':Ls,d=r'.d/\LsOk m r')/\∀ q,q<S.length->q≠p->S'[q]?=S[q]?:=by
 have bl:=F.bl;have hl:=F.hl;have hp:=w.lt;rw [rn,b8 (fd:=BT) rfl,vh,sy];refine Ok.first<|Ok.cg (Ch ..)<|Ok.eq (a:=.nx [some (.ref p),some r.d,some (.tup (r.bx.map bxD)),some (.tup r.hs),none,none,none,none,none,none,none,none,none,none]) rfl ?_;have lb:k8 (.tup (r.bx.map bxD)) S=.ok (.int (m:Int)) S:=(B0 _ S).trans (by rw [Fu,bl]);refine Ok.nxt<|Ok.cg (An ..)<|Ok.eq lb<|Ok.nxt<|Ok.cg (CV ..)<|Ok.bind ((f8 (N:=N+8 * m+9) (m:=m) w hm (by omega) (k+1)).mono ?_);rintro _ S1 ⟨i,rfl,hi,w1,l1,k1⟩;refine Ok.nxt<|Ok.cg (CQ ..)<|Ok.bind ((AQ (N:=N+9) (m:=m) (w1.less (by omega)) hm h6 k).mono ?_);rintro _ S2 ⟨w2,⟨r2,rfl,F2⟩,k2⟩;refine Ok.nxt<|Ok.cg (Bj ..)<|Ok.bind ((f8 (N:=N+8) (m:=6) w2 (by omega) (by omega) (k+1)).mono ?_);rintro _ S3 ⟨y,rfl,hy,w3,l3,k3⟩;have kp:∀ q,q<S.length->q≠p->S3[q]?=S[q]?:=λq h1 h2=>by rw [k3 q h2,k2 q (by omega) h2,k1 q h2]
 have bs:∀ (o:Option Nat) S,rn (k+2) V0 [.tup (r.bx.map bxD),.int (i:Int),bxD o] S=.ok (.tup ((r.bx.set i o).map bxD)) S:=λo S=>by
  rw [dA (k:=k+1) (by rw [Fu];omega) (by rw [Fu];omega),<- HQ]
 have hs:∀ (a:D) S,rn (k+2) V0 [.tup r.hs,.int (i:Int),a] S=.ok (.tup (r.hs.set i a)) S:=λa S=>dA (k:=k+1) (by omega) (by omega);obtain ⟨o2,ho2⟩:∃ o,r2.bx[i]?=some o:=⟨_,Fy (by rw [F2.bl];exact hi)⟩;obtain ⟨a2,ha2⟩:∃ a,r2.hs[i]?=some a:=⟨_,Fy (by rw [F2.hl];exact hi)⟩;have oo2:∀ g,o2=some g->1<=g/\g<=7:=λg e=>F2.bs g (by rw [<- e];exact FT ho2);have sa2:Sml 2 560 a2:=F2.hd a2 (FT ha2);have put:∀ {bx:List (Option Nat)} {hds:List D},bx.length=m->hds.length=m->BsOk bx->HsOk hds->∃ r':Ls,D.tup [.tup (bx.map bxD),.tup hds]=r'.d/\LsOk m r':=λ{bx hds} h1 h2 h3 h4=>⟨⟨bx,hds⟩,rfl,h1,h2,h3,h4⟩;refine Ok.nxt<|Ok.cg (Bk ..)<|Ok.eq (D3 _ _ S3)<|Ok.eq (c9 _ S3)<|Ok.ite (λ_=>?_) λ_=>?_
 ·refine Ok.bind ((f8 (N:=N+7) (m:=m) w3 hm (by omega) (k+1)).mono ?_);rintro _ S4 ⟨n,rfl,hn,w4,l4,k4⟩;refine Ok.eq (v1 1 n S4)<|Ok.bind ((f8 (N:=N+6) (m:=2) w4 (by omega) (by omega) (k+1)).mono ?_);rintro _ S5 ⟨v,rfl,hv,w5,l5,k5⟩;have hb:∃ o:Option Nat,([.non,.int ((1+n:Nat):Int)]:List D)[v]?=some (bxD o)/\∀ g,o=some g->1<=g/\g<=7:=by
   have:v=0\/v=1:=by omega
   rcases this with rfl | rfl
   ·exact ⟨none,rfl,λg z=>(by cases z)⟩
   ·exact ⟨some (1+n),rfl,λg z=>(by cases z;omega)⟩
  obtain ⟨o,eo,oo⟩:=hb;exact Ok.eq (mU S5 eo)<|Ok.eq (bs o S5)<|Ok.ret ⟨w5.less (by omega),put (by simp [bl]) hl (F.bs.put oo) F.hd,λq h1 h2=>by rw [k5 q h2,k4 q h2];exact kp q h1 h2⟩
 refine Ok.nxt<|Ok.cg (CI ..)<|Ok.eq (D3 _ _ S3)<|Ok.eq (c9 _ S3)<|Ok.ite (λ_=>?_) λ_=>?_
 ·exact Ok.eq (a:=.tup r2.hs) rfl<|Ok.eq (j8 S3 ha2)<|Ok.eq (hs a2 S3)<|Ok.ret ⟨w3.less (by omega),put bl (by simp [hl]) F.bs (F.hd.put sa2),kp⟩
 refine Ok.nxt<|Ok.cg (Bf ..)<|Ok.eq (D3 _ _ S3)<|Ok.eq (c9 _ S3)<|Ok.ite (λ_=>?_) λ_=>?_
 ·exact Ok.eq (a:=.tup (r2.bx.map bxD)) rfl<|Ok.eq (j8 S3 (h8 ho2))<|Ok.eq (bs o2 S3)<|Ok.eq (a:=.tup r2.hs) rfl<|Ok.eq (j8 S3 ha2)<|Ok.eq (hs a2 S3)<|Ok.ret ⟨w3.less (by omega),put (by simp [bl]) (by simp [hl]) (F.bs.put oo2) (F.hd.put sa2),kp⟩
 refine Ok.nxt<|Ok.cg (CD ..)<|Ok.eq (D3 _ _ S3)<|Ok.eq (c9 _ S3)<|Ok.ite (λ_=>?_) λ_=>?_
 ·refine Ok.bind ((f8 (N:=N+7) (m:=m) w3 hm (by omega) (k+1)).mono ?_);rintro _ S4 ⟨n,rfl,hn,w4,l4,k4⟩;refine Ok.eq (v1 1 n S4)<|nx_bind<|Ok.eq (q9 (by omega) _) ((Ok.comp (n:=m) (λj S' es=>Fw ns p (N+1+(m-j)) S'/\(∀ q,q≠p->S'[q]?=S4[q]?)/\∃ v:List Nat,es=v.map nD/\v.length<=j) (λS' es _=>t9 m S') ?_ ⟨w4.less (by omega),λ_ _=>rfl,[],rfl,FH _⟩).mono ?_)
  ·rintro j S' es hj ⟨Fj,kj,v,rfl,hv⟩;refine ⟨.int (j:Int),C7 hj S',Ok.bind ((f8 (N:=N+1+(m-(j+1))) (m:=2) (Fj.less (by omega)) (by omega) (by omega) (k+1)).mono ?_)⟩;rintro _ S5 ⟨z,rfl,hz,Fb,lb,kb⟩;refine Ok.eq (D3 _ _ S5)<|Ok.eq (c9 _ S5)<|Ok.ret ?_;have kk:∀ q,q≠p->S5[q]?=S4[q]?:=λq hq=>by rw [kb q hq,kj q hq]
   by_cases c:(z:Int)=0
   ·rw [FM c];show if true=true then _ else _
    rw [if_pos rfl];exact Ok.ret ⟨by rw [Fu,Gf];omega,Fb,kk,v++[j],by rw [GN];rfl,by simp;omega⟩
   ·rw [FV c];show if false=true then _ else _
    rw [if_neg Fz];exact ⟨Fb,kk,v,rfl,by omega⟩
  rintro _ S5 ⟨w5,k5,v,rfl,hv⟩
  let bf:Nat->Option Nat:=λj=>if j∈v then some (1+n) else r.bx.getD j none
  let hf:Nat->D:=λj=>if j∈v then .tup [.str "look",.int ((1+n:Nat):Int)] else r.hs.getD j .non
  have c1:=y4 (src:=E3 0 m) (l:=List.range m) (h:=λ(i:Nat)=>D.int (i:Int)) (g:=λj=>bxD (bf j)) (p:=λ_=>true) (t:=λ_=>ret true) (f:=λd11=>bind (a9 .In d11 (.lst (v.map nD))) λx13=>bind (asB x13) λz14=>if z14=true then (ret (.int ((1+n:Nat):Int))) else (bind (ixD (.tup (r.bx.map bxD)) d11) λx15=>ret x15)) (S:=S5) (λi=>aS m i S5) (by rw [Gj];exact fk h6) (λ_ _=>rfl) (λj hj _=>by
   have hj:j<r.bx.length:=by rw [bl];exact Gc.mp hj
   have e:=Fy hj;have g:r.bx.getD j none=r.bx[j]:=by rw [FU,e];rfl
   rw [a7 (jL j v S5),a7 (c9 _ S5)];show _=R.ok (bxD (if j∈v then some (1+n) else r.bx.getD j none)) S5;by_cases c:j∈v
   ·rw [FM c,if_pos rfl,if_pos c];rfl
   ·rw [FV c,if_neg Fz,if_neg c,a7 (j8 S5 (h8 e)),g];rfl)
  rw [Ir.mpr (λ_ _=>rfl),Gj,show (List.range m).map (λj=>bxD (bf j))=((List.range m).map bf).map bxD by rw [Ho];rfl] at c1;have c2:=y4 (src:=E3 0 m) (l:=List.range m) (h:=λ(i:Nat)=>D.int (i:Int)) (g:=hf) (p:=λ_=>true) (t:=λ_=>ret true) (f:=λd11=>bind (a9 .In d11 (.lst (v.map nD))) λx13=>bind (asB x13) λz14=>if z14=true then (ret (.tup [(.str "look"),.int ((1+n:Nat):Int)])) else (bind (ixD (.tup r.hs) d11) λx15=>ret x15)) (S:=S5) (λi=>aS m i S5) (by rw [Gj];exact fk h6) (λ_ _=>rfl) (λj hj _=>by
   have hj:j<r.hs.length:=by rw [hl];exact Gc.mp hj
   have e:=Fy hj;have g:r.hs.getD j .non=r.hs[j]:=by rw [FU,e];rfl
   rw [a7 (jL j v S5),a7 (c9 _ S5)];show _=R.ok (if j∈v then .tup [.str "look",.int ((1+n:Nat):Int)] else r.hs.getD j .non) S5;by_cases c:j∈v
   ·rw [FM c,if_pos rfl,if_pos c];rfl
   ·rw [FV c,if_neg Fz,if_neg c,a7 (j8 S5 e),g];rfl)
  rw [Ir.mpr (λ_ _=>rfl),Gj] at c2;refine nx_bind<|Ok.eq (q9 (by omega) S5)<|Ok.of c1<|Ok.eq (a:=.tup (((List.range m).map bf).map bxD)) (S1:=S5) rfl<|nx_bind<|Ok.eq (q9 (by omega) S5)<|Ok.of c2<|Ok.eq (a:=.tup ((List.range m).map hf)) (S1:=S5) rfl<|Ok.ret ⟨w5.less (by omega),put (by simp) (by simp) (λg hg=>?_) (λh hh=>?_),λq h1 h2=>by rw [k5 q h2,k4 q h2];exact kp q h1 h2⟩
  ·obtain ⟨j,hj,e⟩:=GI.mp hg;have hj:=Gc.mp hj;have e:(if j∈v then some (1+n) else r.bx.getD j none)=some g:=e;split at e
   ·cases e;omega
   ·rw [FU,Fy (show j<r.bx.length by omega)] at e;exact F.bs g (by rw [<- e];exact GC _)
  ·obtain ⟨j,hj,e⟩:=GI.mp hh;have hj:=Gc.mp hj;have e:(if j∈v then .tup [.str "look",.int ((1+n:Nat):Int)] else r.hs.getD j .non)=h:=e;split at e
   ·rw [<- e];exact aO (by omega)
   ·rw [FU,Fy (show j<r.hs.length by omega)] at e;exact F.hd h (by rw [<- e];exact GC _)
 obtain ⟨o,ho⟩:∃ o,r.bx[i]?=some o:=⟨_,Fy (by rw [bl];exact hi)⟩;have tail:∀ (z:Nat),1<=z->z<=7->Ok (nxt (evK Rs Γ (rn (k+2)) 40) v5 [nth BT.body 10,nth BT.body 11,nth BT.body 12,nth BT.body 13] endD (.nx [some (.ref p),some r.d,some (.tup (r.bx.map bxD)),some (.tup r.hs),some (.int (m:Int)),some (.int (i:Int)),some r2.d,some (.int (y:Int)),none,none,some (.int (z:Int)),none,none,none])) S3 λd S'=>Fw ns p N S'/\(∃ r':Ls,d=r'.d/\LsOk m r')/\∀ q,q<S.length->q≠p->S'[q]?=S[q]?:=by
  intro z z1 z6;refine Ok.nxt<|Ok.cg (yA ..)<|Ok.bind ((f8 (N:=N+7) (m:=m) w3 hm (by omega) (k+1)).mono ?_);rintro _ S4 ⟨t,rfl,ht,w4,l4,k4⟩;have c:=y4 (src:=E3 0 m) (l:=List.range m) (h:=λ(i:Nat)=>D.int (i:Int)) (g:=λj=>nD ((j+t) % m)) (p:=λj=>!decide ((j+t) % m=i)) (t:=λd1=>bind (i9 d1 (.int (t:Int))) λx3=>bind (N6 x3 (.int (m:Int))) λx4=>bind (a9 .NotEq x4 (.int (i:Int))) λx5=>bind (asB x5) λz6=>ret z6) (f:=λd1=>bind (i9 d1 (.int (t:Int))) λx7=>bind (N6 x7 (.int (m:Int))) λx8=>ret x8) (S:=S4) (λi=>aS m i S4) (by rw [Gj];exact fk h6) (λj _=>by
   rw [a7 (v1 j t S4),a7 (pB hm S4),a7 (wz _ _ S4),a7 (c9 _ S4),fq];rfl) (λj _ _=>by
   rw [a7 (v1 j t S4),a7 (pB hm S4)];rfl)
  rw [Gj] at c;generalize hoth:((List.range m).filter λj=>!decide ((j+t) % m=i)).map (λj=>(j+t) % m)=oth;have eo:((List.range m).filter λj=>!decide ((j+t) % m=i)).map (λj=>nD ((j+t) % m))=oth.map nD:=by rw [<- hoth,Ho];rfl
  rw [eo] at c;have lo:oth.length<=m:=by
   rw [<- hoth,Fu];have:=Ha (λj=>!decide ((j+t) % m=i)) (List.range m);rwa [Gj] at this
  have om:∀ x∈oth,x<m:=λx hx=>by
   rw [<- hoth] at hx;obtain ⟨j,_,rfl⟩:=GI.mp hx;exact Nat.mod_lt _ hm
  refine Ok.nxt<|Ok.cg (yQ ..)<|nx_bind<|Ok.eq (q9 (by omega) S4)<|Ok.of c<|Ok.nxt<|Ok.cg (xw ..)<|Ok.eq (bV (a:=z) (b:=1) z1 S4)<|Ok.eq (a:=some ((z-1:Nat):Int)) (S1:=S4) rfl ?_;obtain ⟨cut,ec,sub⟩:∃ cut:List Nat,u6 (oth.map nD) none (some ((z-1:Nat):Int))=cut.map nD/\cut.Sublist oth:=⟨(oth.drop (HT.sIx (oth.map nD).length 0 none)).take (HT.sIx (oth.map nD).length (oth.map nD).length (some ((z-1:Nat):Int))-HT.sIx (oth.map nD).length 0 none),by simp [u6,List.map_drop,List.map_take],(IJ _ _).trans (JM _ _)⟩;have lc:cut.length<=m:=Gd sub.length_le lo;have cm:∀ x∈cut,x<m:=λx hx=>om x (sub.subset hx);have e1:slD (.lst (oth.map nD)) none (some ((z-1:Nat):Int)) S4=.ok (.lst (cut.map nD)) S4:=by
   show R.ok (D.lst (u6 (oth.map nD) none (some ((z-1:Nat):Int)))) S4=_;rw [ec]
  have e2:i9 (.lst [.int (i:Int)]) (.lst (cut.map nD)) S4=.ok (.lst (((i :: cut).map λ(n:Nat)=>(n:Int)).map D.int)) S4:=by
   show (if ([.int (i:Int)]:List D).length+(cut.map nD).length<=sizeLine then ret (D.lst ([.int (i:Int)]++cut.map nD)) else bad) S4=_;rw [if_pos (by rw [Fu,Gf];show 1+cut.length<=_;omega),aK];rfl
  obtain ⟨vs,ev,lv,mv⟩:∃ vs:List Nat,(srt ((i :: cut).map λ(n:Nat)=>(n:Int))).map D.int=vs.map nD/\vs.length=cut.length+1/\∀ x∈vs,x<m:=by
   have pm:=u5 ((i :: cut).map λ(n:Nat)=>(n:Int));have nn:∀ x∈srt ((i :: cut).map λ(n:Nat)=>(n:Int)),0<=x/\x<m:=λx hx=>by
    obtain ⟨y,hy,rfl⟩:=GI.mp (pm.mem_iff.mp hx);rcases FP.mp hy with rfl | hy
    ·omega
    ·have:=cm y hy;omega
   refine ⟨(srt ((i :: cut).map λ(n:Nat)=>(n:Int))).map Int.toNat,?_,?_,λx hx=>?_⟩
   ·rw [Ho];exact Jm λx hx=>by
     have:=(nn x hx).1;show D.int x=D.int ((x.toNat:Nat):Int);rw [show ((x.toNat:Nat):Int)=x by omega]
   ·rw [Fu,pm.length_eq,Fu];rfl
   ·obtain ⟨y,hy,rfl⟩:=GI.mp hx;have:=nn y hy;omega
  have e3:M0 (.lst (((i :: cut).map λ(n:Nat)=>(n:Int)).map D.int)) S4=.ok (.lst (vs.map nD)) S4:=by
   rw [vE (by rw [Fu];show cut.length+1<64;omega),ev]
  have b1:rn (k+2) V0 [.tup (r.bx.map bxD),.int (i:Int),.int (vs.length:Int)] S4=.ok (.tup ((r.bx.set i (some vs.length)).map bxD)) S4:=bs (some vs.length) S4;have b2:=hs (.tup [.str "holds",.tup (vs.map nD)]) S4;refine Ok.eq e1 ?_;refine Ok.eq e2 ?_;refine Ok.eq e3 ?_;refine Ok.eq (a:=.tup (vs.map nD)) (S1:=S4) rfl ?_;refine Ok.nxt ?_;refine Ok.cg (yf ..) ?_;refine Ok.eq (bD vs S4) ?_;refine Ok.eq b1 ?_;refine Ok.eq b2 ?_;have fin:=put (bx:=r.bx.set i (some vs.length)) (hds:=r.hs.set i (.tup [.str "holds",.tup (vs.map nD)])) (by simp [bl]) (by simp [hl]) (F.bs.put λg e=>by cases e;omega) (F.hd.put (ir (λx hx=>by have:=mv x hx;omega) (by omega)));exact Ok.ret ⟨w4.less (by omega),fin,λq h1 h2=>by rw [k4 q h2];exact kp q h1 h2⟩
 refine Ok.nxt<|Ok.cg (Au ..)<|Ok.eq (j8 S3 (h8 ho)) ?_;cases o with
 | none=>exact Ok.eq (a:=.bl false) rfl<|Ok.eq (a:=false) rfl<|Ok.neg (by decide)<|tail 1 (by omega) (by omega)
 | some g=>
  have:=F.bs g (FT ho);exact Ok.eq (a:=.bl true) rfl<|Ok.eq (a:=true) rfl<|Ok.pos rfl<|Ok.eq (j8 S3 (h8 ho))<|tail g this.1 this.2
theorem kc {e:Type} {p q r:e->Bool}:∀ {l:List e},(∀ a∈l,p a=true->r a=true/\q a=false)->(∀ a∈l,q a=true->r a=true)->l.countP p+l.countP q<=l.countP r
 | [],_,_=>FH _
 | a :: l,d,g=>by
  have i:=kc (λb c=>d b (FQ _ c)) λb c=>g b (FQ _ c);rw [GO,GO,GO];cases f:p a with
  | true=>
   obtain ⟨x,y⟩:=d a (FO ..) f;rw [x,y];simp;omega
  | false=>
   cases h:q a with
   | true=>grind
   | false=>simp;split <;> omega
theorem Af (q:A8 l h=true):efB l h=true:=by
 cases h with
 | put e=>exact FM (by have:=Gg q;omega)
 | _=>cases q
theorem zp (q:bxB l h=true):A8 l h=false:=by
 cases h with
 | put e=>
  have q:=q;exact FV (by have:=Gg q;omega)
 | _=>rfl
theorem yc (bx:List (Option Nat)) (l:Nat):(ups bx l).Pairwise (· < ·):=IT List.filter_sublist List.pairwise_lt_range
section
variable {m:Nat} {hs:List Hd} (hl:hs.length=m) (G:Good hs)
include hl G
theorem ae:Fit m ⟨hs.map boxOf,hs⟩:=by
 have at_:∀ (i:Nat) h,hs[i]?=some h->i<hs.length/\hat hs i=h:=λi h e=>⟨(Fv.mp e).1,dS e⟩;refine ⟨by show (hs.map boxOf).length=m;rw [Fu,hl],hl,λg hg=>?_,λi h e=>?_⟩
 ·obtain ⟨h,hh,e⟩:=GI.mp hg;obtain ⟨i,hi,e2⟩:=Hk hh;obtain ⟨_,e3⟩:=at_ i h (by rw [Fy hi,e2]);have t:=G.top i g hi (by rw [e3];exact e);obtain ⟨p1,p2⟩:=G.pos hi;rw [hl] at t;refine ⟨?_,t⟩;cases h with
  | out=>cases e
  | look l=>cases e;exact p1 _ e3
  | put l=>cases e;omega
  | holds v=>cases e;exact GY (G.own hi e3)
 ·obtain ⟨hi,e3⟩:=at_ i h e;obtain ⟨p1,p2⟩:=G.pos hi;cases h with
  | out=>trivial
  | look l=>
   have t:=G.top i l hi (by rw [e3];rfl);exact ⟨p1 _ e3,by omega⟩
  | put l=>
   have t:=G.top i (l+1) hi (by rw [e3];rfl);exact ⟨p2 _ e3,by omega⟩
  | holds v=>
   refine ⟨λx hx=>?_,?_,G.own hi e3⟩
   ·rw [G.view i v hi e3] at hx;have:=(sP hx).1;omega
   ·rw [G.view i v hi e3];exact yc _ _
theorem pF:ab m ⟨hs.map boxOf,hs⟩=none:=by
 have fn:∀ {β:Type} {f:Nat->Option β},(∀ j,j<m->f j=none)->(List.range m).findSome? f=none:=λ{β f} a=>by
  rcases P8 f m with ⟨_,e⟩ | ⟨j,y,g1,g2,g3,g4⟩
  ·exact e
  ·grind
 unfold ab;rw [fn λj hj=>?_]
 ·rw [fn λj hj=>?_]
  ·refine fn λj hj=>?_;show (match hs[j]? with
    | some (.holds v)=>if v=ups (hs.map boxOf) v.length then none else some (("view" : Str),j)
    | _=>none)=none
   rw [t4 (by omega)];cases e:hat hs j with
   | holds v=>
    show (if v=ups (hs.map boxOf) v.length then none else some (("view" : Str),j))=none;rw [if_pos (G.view j v (by omega) e)]
   | _=>rfl
  ·unfold r8;refine if_neg λz=>?_;have z:=z;have c:=G.cnt (j+1);have e:hs.countP (A8 (j+1))=(List.range hs.length).countP λi=>A8 (j+1) (hat hs i):=by
    conv=>lhs;rw [<- jf hs,Kl]
    rfl
   rw [L8,e] at z;have:=kc (l:=List.range hs.length) (r:=λi=>efB (j+1) (hat hs i)) (λi _ q=>⟨pP q,zp q⟩) λi _ q=>Af q;unfold nE at c;omega
 ·unfold u7;refine if_pos ?_;rw [FY]
end
def Tok (d:D):Prop:=∃ n,n<=40/\Any n 100000 d
theorem Any.tok (h:Any n N d) (a:n<=40) (b:N<=100000):Tok d:=⟨n,a,h.pl,h.dp,Gd h.sz b⟩
theorem LsOk.any (F:LsOk m r) (i:m<=6):Any 1 4000 r.d:=by
 have bl:=F.bl;have f:=F.hl;have b:Sml 1 400 (.tup (r.bx.map bxD)):=(Sml.tup (n:=0) (N:=60) (m:=6) (Smls.map λo c=>by
  cases o with
  | none=>exact Sml.non
  | some g=>exact Sml.nat (by have:=F.bs g c;omega)) (by rw [Fu];omega)).mono (by decide) (by decide)
 have a:Sml 3 3500 (.tup r.hs):=(Sml.tup (m:=6) F.hd (by omega)).mono (by decide) (by decide);have j:=b.sz;have e:=a.sz;refine ⟨Pln.up _ ⟨b.pl,a.pl,trivial⟩,?_,?_⟩
 ·have h:=b.dp;have d:=a.dp;show max (L3.dp (.tup (r.bx.map bxD))) (max (L3.dp (.tup r.hs)) 0)+1<=3+1;omega
 ·show L3.sz (.tup (r.bx.map bxD))+2+(L3.sz (.tup r.hs)+2+0)+3<=4000;omega
theorem Fit.ls (F:Fit m r) (d:m<=6):LsOk m ⟨r.bx,r.hs.map Hd.d⟩:=by
 refine ⟨F.bl,by show (r.hs.map Hd.d).length=m;rw [Fu,F.hl],λg j=>by have:=F.bs g j;omega,λh f=>?_⟩;obtain ⟨a,b,rfl⟩:=GI.mp f;obtain ⟨i,c,e⟩:=Hk b;exact (F.hd i a (by rw [Fy c,e])).sm d
theorem tf (ns:List Int) (i:Nat) (hi:i<4) (S:Sto) (k:Nat):∃ ms:List Int,rn (k+1) AD [.scr (ns.map D.int),.int (i:Int)] S=.ok (.ref S.length) (S++[m4 ms i 0 (17 * i)]):=by
 obtain ⟨ms,em⟩:=rP ns;refine ⟨ms,?_⟩;rw [rn,b8 (fd:=qT) rfl,vJ,a7 (show slD (.scr (ns.map D.int)) none (some 63) S=.ok (.lst (u6 (ns.map D.int) none (some 63))) S from rfl),em];have:i=0\/i=1\/i=2\/i=3:=by omega
 rcases this with rfl | rfl | rfl | rfl <;> kernel_rfl
def Ths (q n:Nat) (S:Sto):Prop:=∃ a:List D,S[q]?=some (.lst a)/\a.length=n/\∀ d∈a,Tok d
theorem Ths.keep (h:Ths q n S) (e:S'[q]?=S[q]?):Ths q n S':=by
 obtain ⟨c,a,b⟩:=h;exact ⟨c,by rw [e];exact a,b⟩
theorem Ths.lt (h:Ths q n S):q<S.length:=by
 obtain ⟨ts,a,_⟩:=h;grind
theorem Ths.app (h:Ths q n S) (f:n<100) {d:D} (hd:Tok d):∃ S',lstOf (.ref q) S=.ok (h.choose) S/\E5 (.ref q) [d] S=.ok .non S'/\Ths q (n+1) S'/\∀ p,p≠q->S'[p]?=S[p]?:=by
 obtain ⟨a,b,c⟩:=h.choose_spec;refine ⟨S.set q (.lst (h.choose++[d])),Q7 a,bp a (by rw [Gf];omega),⟨_,Ge (Fv.mp a).1,by simp [b],λx g=>?_⟩,λp e=>FS (Ne.symm e)⟩;grind
theorem yG {l:Nat} {h:Hd} (q:efB l h=true):bxB l h=true\/A8 l h=true:=by
 cases h with
 | out=>cases q
 | look e=>exact .inl q
 | put e=>
  have q:decide (e<=l)=true:=q;rw [FW] at q;by_cases z:e=l
  ·exact .inr (FM z)
  ·exact .inl (FM (by show e+1<=l;omega))
 | holds v=>exact .inl q
theorem nI {α:Type} {p q r:α->Bool}:∀ {l:List α},(∀ a∈l,r a=true->p a=true\/q a=true)->l.countP r<=l.countP p+l.countP q
 | [],_=>FH _
 | a :: l,h=>by
  have ih:=nI (l:=l) (p:=p) (q:=q) (r:=r) λb hb=>h b (FQ _ hb);rw [GO,GO,GO];cases er:r a with
  | true=>
   rcases h a (FO ..) er with z | z
   ·rw [z];simp;split <;> omega
   ·rw [z];simp;split <;> omega
  | false=>simp;split <;> split <;> omega
theorem rZ {m:Nat} {r:Lv} (F:Fit m r) (due:ab m r=none):r.bx=r.hs.map boxOf/\Good r.hs:=by
 have hl:=F.hl;have bl:=F.bl;unfold ab at due;cases d2:(List.range m).findSome? (u7 r) with
 | some x=>rw [d2] at due;cases due
 | none=>
 rw [d2] at due;cases d3:(List.range m).findSome? (r8 r) with
 | some x=>rw [d3] at due;cases due
 | none=>
 rw [d3] at due;have eb:r.bx=r.hs.map boxOf:=by
  refine JO λi=>?_;rw [FY];by_cases hi:i<m
  ·exact oU (W6 d2 i hi)
  ·rw [Gr (by omega),Gr (by omega)];rfl
 have low:∀ i,i<r.hs.length->efB 0 (hat r.hs i)=false:=λi hi=>by
  have o:=F.hd i _ (t4 hi);cases e:hat r.hs i with
  | out=>rfl
  | look l=>rw [e] at o;have o:1<=l/\l<=m:=o;exact FV (by omega)
  | put l=>rw [e] at o;have o:1<=l/\l+1<=m:=o;exact FV (by omega)
  | holds v=>
   rw [e] at o;have:=GY o.2.2;exact FV (by omega)
 refine ⟨eb,λl=>?_,λi v hi e=>?_,λi b hi e=>?_⟩
 ·by_cases l0:l=0
  ·subst l0;refine Kd (Iu.mpr λj hj q=>?_);rw [low j (Gc.mp hj)] at q;cases q
  by_cases lm:l<=m
  ·have q:=W6 d3 (l-1) (by omega);unfold r8 at q;rw [show l-1+1=l by omega] at q;have q:¬ l<(ups r.bx l).length+r.hs.countP (A8 l):=λz=>by rw [if_pos z] at q;cases q
   have e:r.hs.countP (A8 l)=(List.range r.hs.length).countP λi=>A8 l (hat r.hs i):=by
    conv=>lhs;rw [<- jf r.hs,Kl]
    rfl
   rw [eb,L8,e] at q;have:=nI (l:=List.range r.hs.length) (p:=λi=>bxB l (hat r.hs i)) (q:=λi=>A8 l (hat r.hs i)) (r:=λi=>efB l (hat r.hs i)) λi _ z=>yG z;unfold nE;omega
  ·have:nE r.hs l<=m:=by
    unfold nE;refine Gd IV ?_;rw [Gj,hl];exact FH _
   omega
 ·have q:=W6 due i (by omega);unfold A5 at q;rw [t4 hi,e] at q;have q:(if v=ups r.bx v.length then none else some (("view" : Str),i))=none:=q;rw [eb] at q;by_cases z:v=ups (r.hs.map boxOf) v.length
  ·exact z
  ·rw [if_neg z] at q;cases q
 ·have:some b∈r.bx:=by
   rw [eb];exact GI.mpr ⟨hat r.hs i,FT (t4 hi),e⟩
  have:=F.bs b this;omega
theorem cy {ds:List D} {i k:Nat} {x:D} {S:Sto} (h:i<ds.length) (hl:ds.length<=1000):Ok (rn (k+1) yK [.tup ds,.int (i:Int),x]) S λd S'=>d=.tup (ds.set i x)/\S'=S:=by
 rw [rn,b8 (fd:=sM) rfl,uQ];exact fJ h hl
section
variable {hs:List Hd} {i:Nat} (h6:hs.length<=6) (k:Nat) (S:Sto)
include h6
theorem my (l:Nat):Ok (rn (k+2) Ai [.tup ((hs.map boxOf).map bxD),.int (l:Int)]) S λd S'=>d=(X1 (hs.map boxOf) l).d/\S'=S:=by
 rw [rn,b8 (fd:=xx) rfl,AS];refine Ok.bind ((je (by rw [Fu];omega)).mono ?_);rintro _ _ ⟨rfl,rfl⟩;refine Ok.eq (B0 _ _) ?_;rw [Fu];refine Ok.eq (cV _ _ _) (Ok.eq (c9 _ _) ?_);unfold X1;by_cases q:l<=(ups (hs.map boxOf) l).length
 ·rw [if_pos (FM (by omega)),if_pos q];exact Ok.ret ⟨rfl,rfl⟩
 ·rw [if_neg (by rw [FV (by omega)];exact Fz),if_neg q];exact Ok.eq (bV (b:=1) (by omega) _) (Ok.ret ⟨rfl,rfl⟩)
variable (G:Good hs) (hi:i<hs.length)
include G hi
theorem du (n:∀ v,hat hs i≠.holds v):Ok (rn (k+3) rJ [lvD hs,.int (i:Int)]) S λd S'=>d=lvD (hs.set i (j9 hs i))/\S'=S:=by
 have bx:=G.box hi n;have ha:=t4 hi;have fin:∀ (b:List (Option Nat)) (h:Hd),(hs.set i (j9 hs i)).map boxOf=b->j9 hs i=h->(D.tup [.tup (b.map bxD),.tup ((hs.map Hd.d).set i h.d)])=lvD (hs.set i (j9 hs i)):=λb h e1 e2=>by
  unfold lvD;rw [e1,e2,HQ]
 rw [rn,b8 (fd:=Fa) rfl,kU,jH];refine Ok.first<|Ok.cg (wg ..)<|Ok.eq (a:=.nx [some (lvD hs),some (.int (i:Int)),some (.tup ((hs.map boxOf).map bxD)),some (.tup (hs.map Hd.d)),none,none]) rfl<|Ok.nxt<|Ok.cg (wU ..)<|Ok.eq (j8 S (h8 ha))<|Ok.nxt<|Ok.cg (xL ..) ?_;have last:∀ (l:Nat) (o5:Option D),(hs.set i (j9 hs i)).map boxOf=(hs.map boxOf).set i (some l)->j9 hs i=.look l->Ok (nxt (evK Rs Γ (rn (k+2)) 40) Y7 [nth Fa.body 5] endD (.nx [some (lvD hs),some (.int (i:Int)),some (.tup ((hs.map boxOf).map bxD)),some (.tup (hs.map Hd.d)),o5,some (.int (l:Int))])) S λd S'=>d=lvD (hs.set i (j9 hs i))/\S'=S:=λl o5 e1 e2=>by
  refine Ok.nxt (Ok.cg (Bx ..) (Ok.bind ((cy (k:=k+1) (by rw [Fu,Fu];exact hi) (by rw [Fu,Fu];omega)).mono ?_)));rintro _ _ ⟨rfl,rfl⟩;refine Ok.bind ((cy (k:=k+1) (by rw [Fu];exact hi) (by rw [Fu];omega)).mono ?_);rintro _ _ ⟨rfl,rfl⟩;refine Ok.ret ⟨?_,rfl⟩;rw [<- fin _ _ e1 e2,HQ];rfl
 cases e:hat hs i with
 | out=>
  rw [e] at bx;refine Ok.eq rfl (Ok.eq rfl (Ok.eq rfl (Ok.neg (by decide) (Ok.nxt (Ok.cg (pG ..) (Ok.eq rfl (Ok.eq rfl (Ok.eq rfl (Ok.neg (by decide) (Ok.nxt (Ok.cg (wx ..) (Ok.eq rfl (Ok.eq rfl (Ok.eq rfl (Ok.pos (by decide) (Ok.eq (B0 _ _) ?_))))))))))))))));rw [Fu,Fu];exact last hs.length _ bx (by unfold j9;rw [e])
 | put l=>
  rw [e] at bx;exact Ok.eq rfl<|Ok.eq rfl<|Ok.eq rfl<|Ok.neg (by decide)<|Ok.nxt<|Ok.cg (pG ..)<|Ok.eq rfl<|Ok.eq rfl<|Ok.eq rfl<|Ok.neg (by decide)<|Ok.nxt<|Ok.cg (wx ..)<|Ok.eq rfl<|Ok.eq rfl<|Ok.eq rfl<|Ok.neg (by decide)<|Ok.eq rfl<|last l _ bx (by unfold j9;rw [e])
 | look l=>
  rw [e] at bx;refine Ok.eq rfl (Ok.eq rfl (Ok.eq rfl (Ok.neg (by decide) (Ok.nxt (Ok.cg (pG ..) (Ok.eq rfl (Ok.eq rfl (Ok.eq rfl (Ok.pos (by decide) (Ok.eq rfl (Ok.bind ((my h6 k S l).mono ?_))))))))))));rintro _ _ ⟨rfl,rfl⟩;refine Ok.bind ((cy (k:=k+1) (by rw [Fu];exact hi) (by rw [Fu];omega)).mono ?_);rintro _ _ ⟨rfl,rfl⟩;exact Ok.ret ⟨fin _ _ bx (by unfold j9;rw [e]),rfl⟩
 | holds v=>exact absurd e (n v)
end
theorem iC {hs:List Hd} {i:Nat} (b:List (Option Nat)) (h:Hd) (e1:(hs.set i h).map boxOf=b):D.tup [.tup (b.map bxD),.tup ((hs.map Hd.d).set i h.d)]=lvD (hs.set i h):=by unfold lvD;rw [e1,HQ]
section
variable {hs:List Hd} {i:Nat} (h6:hs.length<=6) (k:Nat) (S:Sto) (G:Good hs) (hi:i<hs.length)
include h6 G hi
def B7:Hd->Bool
 | .holds _=>true
 | _=>false
def vr (hs:List Hd) (i:Nat):D:=if B7 (hat hs i)=true then .non else lvD (hs.set i (j9 hs i))
theorem oi:Ok (rn (k+2) AB [lvD hs,.int (i:Int)]) S λd S'=>d=vr hs i/\S'=S:=by
 have ha:=t4 hi;have w1:∀ (x:D) S,rn (k+1) V0 [.tup (hs.map Hd.d),.int (i:Int),x] S=.ok (.tup ((hs.map Hd.d).set i x)) S:=λx S=>dA (k:=k) (by rw [Fu];exact hi) (by rw [Fu];omega);have w2:∀ (x:D) S,rn (k+1) V0 [.tup ((hs.map boxOf).map bxD),.int (i:Int),x] S=.ok (.tup (((hs.map boxOf).map bxD).set i x)) S:=λx S=>dA (k:=k) (by rw [Fu,Fu];exact hi) (by rw [Fu,Fu];omega);rw [rn,b8 (fd:=Fc) rfl,tL,tj];refine Ok.first<|Ok.cg (CT ..)<|Ok.eq (a:=.nx [some (lvD hs),some (.int (i:Int)),some (.tup ((hs.map boxOf).map bxD)),some (.tup (hs.map Hd.d)),none,none,none,none]) rfl<|Ok.nxt<|Ok.cg (Cu ..)<|Ok.eq (j8 S (h8 ha))<|Ok.nxt<|Ok.cg (DU ..) ?_;unfold vr;have last:∀ (l:Nat) (o5 o6 o7:Option D),(hs.set i (j9 hs i)).map boxOf=(hs.map boxOf).set i (some l)->j9 hs i=.look l->Ok (nxt (evK Rs Γ (rn (k+1)) 40) X2 [nth Fc.body 5] endD (.nx [some (lvD hs),some (.int (i:Int)),some (.tup ((hs.map boxOf).map bxD)),some (.tup (hs.map Hd.d)),o5,o6,o7,some (.int (l:Int))])) S λd S'=>d=lvD (hs.set i (j9 hs i))/\S'=S:=λl o5 o6 o7 e1 e2=>by
  refine Ok.nxt<|Ok.cg (BK ..)<|Ok.eq (w2 _ S)<|Ok.eq (w1 _ S)<|Ok.ret ⟨?_,rfl⟩;rw [e2] at e1 ⊢;rw [<- iC _ _ e1,HQ];rfl
 cases e:hat hs i with
 | out=>
  have bx:=G.box hi (by rw [e];intro v z;cases z);rw [e] at bx;rw [if_neg (show ¬ B7 Hd.out=true from Fz)];refine Ok.eq rfl<|Ok.eq rfl<|Ok.eq rfl<|Ok.neg (by decide)<|Ok.nxt<|Ok.cg (oS ..)<|Ok.eq rfl<|Ok.eq rfl<|Ok.eq rfl<|Ok.neg (by decide)<|Ok.nxt<|Ok.cg (we ..)<|Ok.eq rfl<|Ok.eq rfl<|Ok.eq rfl<|Ok.neg (by decide)<|Ok.eq (B0 _ _) ?_;rw [Fu,Fu];exact last hs.length _ _ _ bx (by unfold j9;rw [e])
 | put l=>
  have bx:=G.box hi (by rw [e];intro v z;cases z);rw [e] at bx;rw [if_neg (show ¬ B7 (Hd.put l)=true from Fz)];exact Ok.eq rfl<|Ok.eq rfl<|Ok.eq rfl<|Ok.neg (by decide)<|Ok.nxt<|Ok.cg (oS ..)<|Ok.eq rfl<|Ok.eq rfl<|Ok.eq rfl<|Ok.neg (by decide)<|Ok.nxt<|Ok.cg (we ..)<|Ok.eq rfl<|Ok.eq rfl<|Ok.eq rfl<|Ok.pos (by decide)<|Ok.eq rfl<|last l _ _ _ bx (by unfold j9;rw [e])
 | holds v=>
  rw [if_pos (show B7 (Hd.holds v)=true from rfl)];exact Ok.eq rfl<|Ok.eq rfl<|Ok.eq rfl<|Ok.pos (by decide)<|Ok.ret ⟨rfl,rfl⟩
 | look l=>
  have bx:=G.box hi (by rw [e];intro v z;cases z);rw [e] at bx;rw [if_neg (show ¬ B7 (Hd.look l)=true from Fz)];have se:j9 hs i=X1 (hs.map boxOf) l:=by unfold j9;rw [e]
  have sn:rn (k+1) oQ [.tup ((hs.map boxOf).map bxD),.int (l:Int)] S=.ok (.tup ((ups (hs.map boxOf) l).map nD)) S:=j4 (ju (by rw [Fu];omega));refine Ok.eq rfl<|Ok.eq rfl<|Ok.eq rfl<|Ok.neg (by decide)<|Ok.nxt<|Ok.cg (oS ..)<|Ok.eq rfl<|Ok.eq rfl<|Ok.eq rfl<|Ok.pos (by decide)<|Ok.eq rfl<|Ok.eq sn<|Ok.eq (bD _ S)<|Ok.eq rfl<|Ok.eq (DA _ _ _)<|Ok.eq (c9 _ _) ?_;rw [se] at bx ⊢;unfold X1 at bx ⊢;by_cases q:l<=(ups (hs.map boxOf) l).length
  ·rw [if_pos q] at bx ⊢;exact Ok.pos (FM (by omega))<|Ok.eq (w1 _ S)<|Ok.ret ⟨iC _ (.holds (ups (hs.map boxOf) l)) bx,rfl⟩
  ·rw [if_neg q] at bx ⊢;exact Ok.neg (by rw [FV (by omega)];decide)<|Ok.eq rfl<|Ok.eq (bV (b:=1) (by omega) S)<|Ok.eq (w1 _ S)<|Ok.ret ⟨iC _ (.put (l-1)) bx,rfl⟩
theorem vF (hn:B7 (hat hs i)=true):Xn (rn (k+3) rJ [lvD hs,.int (i:Int)]) S λn S'=>n=S.length/\S'=S++[.exc 1 [("hand",.int (i:Int))]]:=by
 have ha:=t4 hi;rw [rn,b8 (fd:=Fa) rfl,kU,jH];refine Xn.first<|Xn.cg (wg ..)<|Xn.eq (a:=.nx [some (lvD hs),some (.int (i:Int)),some (.tup ((hs.map boxOf).map bxD)),some (.tup (hs.map Hd.d)),none,none]) rfl<|Xn.nxt<|Xn.cg (wU ..)<|Xn.eq (j8 S (h8 ha))<|Xn.nxt<|Xn.cg (xL ..) ?_;cases e:hat hs i with
 | holds v=>exact Xn.eq rfl<|Xn.eq rfl<|Xn.eq rfl<|Xn.pos (by decide)<|raise_k rfl (by simp only [Gy,List.all_nil,IB];exact sK ⟨by omega,by omega⟩)
 | _=>rw [e] at hn;cases hn
end
theorem fQ {n:Nat} {h:D} {S:Sto} (e:S[n]?=some (.exc 1 [("hand",h)])) (k:Nat):Ok (rn (k+1) ow [.ref n]) S λd S'=>d=.tup [.str "step",h]/\∃ R,S'=S++R:=by
 have hn:n<S.length:=(Fv.mp e).1;have eo:∀ o:O,(S++[o])[n]?=some (.exc 1 [("hand",h)]):=λo=>by rw [FI hn];exact e
 have ef:∀ o:O,(S++[o])[S.length]?=some o:=λo=>by simp
 have i:∀ (o:O) sx,t7 sx (.ref n) (S++[o])=.ok (.bl (sx 1)) (S++[o]):=λo sx=>by simp only [t7,eo o]
 rw [rn,b8 (fd:=Fe) rfl,kZ,jp];refine Ok.first (Ok.cg (xQ ..) (Ok.eq (show newL [] S=.ok (.ref S.length) (S++[.lst []]) from rfl) (Ok.nxt (Ok.cg (xP ..) (Ok.eq (i _ _) (Ok.eq rfl (Ok.pos (by decide) (Ok.eq (Q7 (ef _)) (Ok.eq (a:=h) (S1:=S++[.lst []]) (by simp only [bI,eo];rfl) (Ok.eq (bp (ef _) (by show 0<sizeLine;decide)) ?_))))))))));rw [jT];exact Ok.nxt<|Ok.cg (wa ..)<|Ok.eq (i _ _)<|Ok.eq rfl<|Ok.neg (by decide)<|Ok.nxt<|Ok.cg (wZ ..)<|Ok.eq (i _ _)<|Ok.eq rfl<|Ok.neg (by decide)<|Ok.nxt<|Ok.cg (ww ..)<|Ok.eq (i _ _)<|Ok.eq rfl<|Ok.neg (by decide)<|Ok.eq (i _ _)<|Ok.eq rfl<|Ok.neg (by decide)<|Ok.nxt<|Ok.cg (xI ..)<|Ok.eq (nw (ef _))<|Ok.eq (a:=.bl true) rfl<|Ok.eq rfl<|Ok.pos rfl<|Ok.eq (zf (i:=0) (ef _) rfl)<|Ok.ret ⟨rfl,_,rfl⟩
def lZ (hs:List Hd) (i:Nat):D:=if B7 (hat hs i)=true then .tup [.str "step",.int (i:Int)] else lvD (hs.set i (j9 hs i))
section
variable {hs:List Hd} {i:Nat} (h6:hs.length<=6) (k:Nat) (S:Sto) (G:Good hs) (hi:i<hs.length)
include h6 G hi
theorem xu:Ok (rn (k+4) xg [lvD hs,.int (i:Int)]) S λd S'=>d=lZ hs i/\∃ R,S'=S++R:=by
 rw [rn,b8 (fd:=Fh) rfl,wQ,vj];have fin:∀ (d:D) (o4:Option D) (S':Sto),d=lZ hs i->(∃ R,S'=S++R)->Ok (nxt (evK Rs Γ (rn (k+3)) 40) N8 [nth Fh.body 2] endD (.nx [some (lvD hs),some (.int (i:Int)),some d,o4])) S' λd S'=>d=lZ hs i/\∃ R,S'=S++R:=λd o4 S' h1 h2=>
  Ok.nxt (Ok.cg (CY ..) (Ok.ret ⟨h1,h2⟩))
 refine Ok.first (Ok.cg (Bd ..) (Ok.nxt (Ok.cg (Bp ..) (Ok.bind ?_))));cases hn:B7 (hat hs i) with
 | true=>
  refine Ok.caught ?_;rw [bL];obtain ⟨n,S',e,rfl,rfl⟩:=vF h6 k S G hi hn;refine Xn.bind ⟨_,_,e,1,[("hand",.int (i:Int))],by simp,rfl,?_⟩;show Ok (i4 (evK Rs Γ _ 39) (A6 N8) P7 [some (lvD hs),some (.int (i:Int)),some (.tup [.str "odd"]),some (.ref S.length)] ret) _ _;rw [ei];refine Ok.first (Ok.cg (lM ..) (nx_bind ((fQ (h:=.int (i:Int)) (n:=S.length) (by simp) (k+2)).mono ?_)));rintro _ _ ⟨rfl,R,rfl⟩;exact Ok.ret (fin _ _ _ (by unfold lZ;rw [if_pos hn]) ⟨_,GG _ _ _⟩)
 | false=>
  refine Ok.try_ ?_;rw [bL];refine Ok.bind ((du h6 k S G hi (λv z=>by rw [z] at hn;cases hn)).mono ?_);rintro _ _ ⟨rfl,rfl⟩;exact Ok.ret (fin _ _ _ (by unfold lZ;rw [if_neg (by rw [hn];exact Fz)]) ⟨[],by simp⟩)
end
theorem oP {m:Nat} {hs:List Hd} (hl:hs.length=m) (G:Good hs) (m6:m<=6):Any 1 4000 (lvD hs):=(ae hl G).any m6
theorem W3 {m:Nat} {hs:List Hd} (hl:hs.length=m) (G:Good hs) (m6:m<=6) (k:Nat) (S:Sto):Ok (rn (k+7) gJ [.int (m:Int),lvD hs]) S λt S'=>t=.str "let by"/\∃ R,S'=S++R:=by
 have F:=ae hl G;exact dz m6 (o:=none) k S (λ_=>(bg F m6 k S).1 (pF hl G)) λy z=>by cases z
theorem mz {i:Nat} (h:i<6):Any 1 4000 (.tup [.str "step",.int (i:Int)]):=by
 have s:Sml 1 200 (.tup [.str "step",.int (i:Int)]):=(Sml.tup (n:=0) (N:=60) (m:=2) (.cons .w (.cons (.nat (by omega)) .nil)) (FH _)).up;exact ⟨s.pl.up,by have:=s.dp;omega,by have:=s.sz;omega⟩
theorem aG (x:Str) (S:Sto):a9 .NotEq (.str x) (.str x) S=.ok (.bl false) S:=by
 show R.ok (D.bl (!decide (x=x))) S=_;rw [FM rfl];rfl
section
variable {m:Nat} (m6:m<=6) {hs:List Hd} (hl:hs.length=m) (G:Good hs) (k:Nat) (S:Sto)
include m6 hl G
theorem DK (S:Sto):a9 .Is (lvD hs) .non S=.ok (.bl false) S/\a9 .IsNot (lvD hs) .non S=.ok (.bl true) S:=⟨rfl,rfl⟩
theorem bZ:Ok (rn (k+8) AF [.int (m:Int),lvD hs]) S λt S'=>t=.bl true/\∃ R,S'=S++R:=by
 rw [rn,b8 (fd:=Fn) rfl,vI,tI];refine Ok.first<|Ok.cg (DC ..)<|Ok.eq (q9 (by omega) S)<|Ok.bind ((Ok.loop (n:=m) (λi ρ S'=>(∃ o3 o4 o5:Option D,ρ=[some (.int (m:Int)),some (lvD hs),o3,o4,o5])/\∃ R,S'=S++R) (λρ S' _=>t9 m S') ?_ ⟨⟨_,_,_,rfl⟩,[],by simp⟩).mono ?_)
 ·rintro i ρ S1 hi ⟨⟨o3,o4,o5,rfl⟩,R,rfl⟩;refine ⟨.int (i:Int),_,C7 hi _,rfl,?_⟩;unfold eV;rw [fR];have hi':i<hs.length:=by omega
  refine Ok.first<|Ok.cg (mZ ..)<|Ok.bind ((oi (by omega) (k+5) (S++R) G hi').mono ?_);rintro _ _ ⟨rfl,rfl⟩;refine Ok.nxt<|Ok.cg (mN ..)<|Ok.bind ((xu (by omega) (k+3) (S++R) G hi').mono ?_);rintro _ S2 ⟨rfl,R2,rfl⟩;refine Ok.nxt<|Ok.cg (mQ ..) ?_;unfold vr lZ;cases hh:B7 (hat hs i) with
  | true=>
   rw [if_pos rfl,if_pos rfl];have rp:=eG (mz (i:=i) (by omega)) (by omega) (by omega) (S++R++R2);refine Ok.eq rp<|Ok.eq (a:=.bl true) rfl<|Ok.eq (a:=true) rfl<|Ok.pos rfl<|Ok.eq rp<|Ok.eq (aG _ _)<|Ok.eq (a:=false) rfl<|Ok.neg (by decide) ?_;exact Ok.nxt<|Ok.cg (cI ..)<|Ok.eq (a:=.bl false) rfl<|Ok.eq (a:=false) rfl<|Ok.neg (by decide)<|Ok.ret ⟨_,.inl rfl,⟨_,_,_,rfl⟩,R++R2,by rw [GG]⟩
  | false=>
   rw [if_neg Fz,if_neg Fz];have G2:=G.step hi';have hl2:(hs.set i (j9 hs i)).length=m:=by rw [GZ];exact hl
   have rp:=eG (oP hl2 G2 m6) (by omega) (by omega) (S++R++R2);have is:=DK m6 hl2 G2 (S++R++R2);refine Ok.eq rp<|Ok.eq is.1<|Ok.eq (a:=false) rfl<|Ok.neg (by decide)<|Ok.eq rp<|Ok.eq (aG _ _)<|Ok.eq (a:=false) rfl<|Ok.neg (by decide) ?_;refine Ok.nxt<|Ok.cg (cI ..)<|Ok.eq is.2<|Ok.eq (a:=true) rfl<|Ok.pos rfl<|Ok.bind ((W3 hl2 G2 m6 k _).mono ?_);rintro _ S3 ⟨rfl,R3,rfl⟩;exact Ok.eq (aG _ _)<|Ok.eq (a:=false) rfl<|Ok.neg (by decide)<|Ok.ret ⟨_,.inl rfl,⟨_,_,_,rfl⟩,R++R2++R3,by rw [GG,GG,GG]⟩
 ·rintro _ S' ⟨ρ,rfl,⟨o3,o4,o5,rfl⟩,R,rfl⟩;exact Ok.nxt<|Ok.cg (At ..)<|Ok.ret ⟨rfl,R,rfl⟩
end
theorem O4 {S:Sto} {R:Sto} {q:Nat} (h:q<S.length):(S++R)[q]?=S[q]?:=FI h
theorem mJ {ns:List Int} {p N m:Nat} {S:Sto} (w:Fw ns p (N+12) S) (m1:0<m) (m6:m<=6) {hs:List Hd} (hl:hs.length=m) (G:Good hs) (k:Nat):Ok (rn (k+9) zP [.ref p,.int (m:Int),lvD hs]) S λt S'=>t=.bl true/\Fw ns p N S':=by
 rw [rn,b8 (fd:=Fo) rfl,sj,vG];refine Ok.first<|Ok.cg (Aq ..)<|Ok.eq (q9 (n:=12) (by omega) S)<|Ok.bind ((Ok.loop (n:=12) (λi ρ S'=>Fw ns p (N+(12-i)) S'/\∃ (hs:List Hd) (o4 o5:Option D),ρ=[some (.ref p),some (.int (m:Int)),some (lvD hs),o4,o5]/\hs.length=m/\Good hs) (λρ S' _=>t9 12 S') ?_ ⟨w,hs,_,_,rfl,hl,G⟩).mono ?_)
 ·rintro i ρ S1 hi ⟨w1,hs,o4,o5,rfl,hl,G⟩;refine ⟨.int (i:Int),_,C7 hi _,rfl,?_⟩;unfold fg;rw [gB];refine Ok.first<|Ok.cg (li ..)<|Ok.bind ((f8 (N:=N+(12-(i+1))) (m:=m) (w1.less (by omega)) m1 (by omega) (k+7)).mono ?_);rintro _ S2 ⟨x,rfl,hx,w2,_,_⟩;have hx':x<hs.length:=by omega
  refine Ok.bind ((oi (by omega) (k+6) S2 G hx').mono ?_);rintro _ S2 ⟨rfl,rfl⟩;have fin:∀ (hs2:List Hd) (o5:Option D),hs2.length=m->Good hs2->Ok (nxt (evK Rs Γ (rn (k+8)) 39) Y8 [nth v9 2] ret (.nx [some (.ref p),some (.int (m:Int)),some (lvD hs2),some (.int (i:Int)),o5])) S2 λfl S'=>∃ ρ',(fl=.nx ρ'\/fl=.ct ρ')/\Fw ns p (N+(12-(i+1))) S'/\∃ (hs:List Hd) (o4 o5:Option D),ρ'=[some (.ref p),some (.int (m:Int)),some (lvD hs),o4,o5]/\hs.length=m/\Good hs:=λhs2 o5 h1 h2=>by
   refine Ok.nxt<|Ok.cg (kg ..)<|Ok.bind ((W3 h1 h2 m6 (k+1) _).mono ?_);rintro _ S3 ⟨rfl,R3,rfl⟩;refine Ok.eq (aG _ _)<|Ok.eq (a:=false) rfl<|Ok.neg (by decide)<|Ok.bind ((bZ m6 h1 h2 k _).mono ?_);rintro _ S4 ⟨rfl,R4,rfl⟩;exact Ok.eq (a:=true) rfl<|Ok.neg (by decide)<|Ok.ret ⟨_,.inl rfl,(w2.keep (O4 (R:=R3) w2.lt)).keep (O4 (w2.keep (O4 (R:=R3) w2.lt)).lt),hs2,_,_,rfl,h1,h2⟩
  refine Ok.nxt<|Ok.cg (km ..) ?_;unfold vr;cases hh:B7 (hat hs x) with
  | true=>
   rw [if_pos rfl];exact Ok.eq (a:=.bl true) rfl<|Ok.eq (a:=true) rfl<|Ok.pos rfl<|fin hs _ hl G
  | false=>
   rw [if_neg Fz];have hl2:(hs.set x (j9 hs x)).length=m:=by rw [GZ];exact hl
   exact Ok.eq (a:=.bl false) rfl<|Ok.eq (a:=false) rfl<|Ok.neg (by decide)<|fin _ _ hl2 (G.step hx')
 ·rintro _ S' ⟨ρ,rfl,w2,hs,o4,o5,rfl,hl,G⟩;exact Ok.nxt<|Ok.cg (As ..)<|Ok.ret ⟨rfl,w2.less (by omega)⟩
theorem xY {o:Option (Str×Nat)} (w:Wo o) (S:Sto):a9 .Eq (uY o) (.str "let by") S=.ok (.bl o.isNone) S:=by
 cases o with
 | none=>kernel_rfl
 | some x=>
  obtain ⟨h1,h2⟩:=w x rfl;obtain ⟨a,b⟩:=x;have h2:b<10:=h2;have sa:Sml 0 100 (.str a):=by
   have h1:a∈[("shape" : Str),"box","many","view"]:=h1;simp only [FP,Hc,JC] at h1;rcases h1 with rfl | rfl | rfl | rfl <;> exact Sml.w
  have s:Sml 1 400 (uY (some (a,b))):=(Sml.tup (n:=0) (N:=100) (m:=3) (.cons Sml.w (.cons sa (.cons (Sml.nat (by omega)) .nil))) (FH _)).mono (by decide) (by decide);exact (E7 (s.any (by omega)) (by omega) (w:="let by") (u8 (n:=1) (N:=100) (by decide +kernel)).1 S).1
theorem eK {m:Nat} (h:0<m) (h6:m<=6) (S:Sto):Q0 (.tup [.non]) (.int (m:Int)) S=.ok (.tup (((List.replicate m Hd.out).map boxOf).map bxD)) S/\Q0 (.tup [(.tup [.str "out"])]) (.int (m:Int)) S=.ok (.tup ((List.replicate m Hd.out).map Hd.d)) S:=by
 have:m=1\/m=2\/m=3\/m=4\/m=5\/m=6:=by omega
 rcases this with rfl | rfl | rfl | rfl | rfl | rfl <;> exact ⟨by kernel_rfl,by kernel_rfl⟩
theorem oG {m:Nat} (h:0<m) (h6:m<=6) (k:Nat) (S:Sto):rn (k+1) Cr [.int (m:Int)] S=.ok (lvD (List.replicate m .out)) S:=by
 refine j4 ?_;rw [rn,b8 (fd:=zo) rfl,yR];exact Ok.eq (eK h h6 S).1<|Ok.eq (eK h h6 S).2<|Ok.ret ⟨rfl,rfl⟩
theorem gh (m:Nat):Good (List.replicate m Hd.out):=by
 have at_:∀ i,hat (List.replicate m Hd.out) i=.out:=λi=>by
  unfold hat;rw [FU,HH];split <;> rfl
 refine ⟨λl=>?_,λi v hi e=>?_,λi b hi e=>?_⟩
 ·unfold nE;rw [Iu.mpr λj _ q=>by rw [at_] at q;cases q];exact Gu _
 ·rw [at_] at e;cases e
 ·rw [at_] at e;cases e
section
variable {ns:List Int} {sc:D} {m:Nat} (m1:1<=m) (m6:m<=6) {r:Ls} (F:LsOk m r)
def gP (sc:D) (kk:D) (p:Nat) (m:Nat) (r:Ls) (q:Nat) (o7 o8:Option D):L3.Env:=[some sc,some kk,some (.ref p),some (.int (m:Int)),some r.d,some (.ref q),o7,o8]
include m1 m6 F
theorem FF {p q N n:Nat} {kk:D} {S:Sto} (w:Fw ns p (N+8 * 120) S) (T:Ths q n S) (hn:n<=10) (pq:p≠q) (o7 o8:Option D):Ok (i6 (E3 0 8) (λd ρ=>some (ρ.set 6 (some d))) (E2 (rn 10)) (8+1) 0 (gP sc kk p m r q o7 o8)) S λfl S'=>∃ ρ',fl=.nx ρ'/\∃ o7 o8,ρ'=gP sc kk p m r q o7 o8/\Fw ns p N S'/\Ths q (n+8) S':=by
 have a:=F.any m6;refine (Ok.loop (n:=8) (λi ρ S'=>∃ o7 o8,ρ=gP sc kk p m r q o7 o8/\Fw ns p (N+(8-i) * 120) S'/\Ths q (n+i) S') (λρ S' _=>t9 8 S') ?_ ⟨_,_,rfl,w.less (by omega),T⟩).mono ?_
 ·rintro i ρ S1 hi ⟨o7,o8,rfl,w1,T1⟩;refine ⟨.int (i:Int),_,C7 hi S1,rfl,?_⟩;unfold E2;rw [Z1];obtain ⟨ts,e1,_⟩:=T1;have T1:Ths q (n+i) S1:=⟨ts,e1,‹_›⟩;refine Ok.first<|Ok.cg (cD ..)<|Ok.eq (Q7 e1)<|Ok.bind ((lV (N:=N+(8-(i+1)) * 120+50) (m:=m) (w1.less (by omega)) (by omega) m6 F 7).mono ?_);rintro _ S2 ⟨w2,⟨r2,rfl,F2⟩,k2⟩;have T2:=T1.keep (k2 q T1.lt (Ne.symm pq));refine Ok.bind ((iq 7 r.d 1 (N+(8-(i+1)) * 120+10) S2 a.pl (by have:=a.dp;omega) a.dp (by omega) (by have:=a.sz;omega) (w2.less (by omega))).mono ?_);rintro d S3 ⟨b,w3,g3⟩;have T3:=T2.keep (g3.2 q (Ne.symm pq));have d2:=b.dp;have z2:=b.sz;have da:=a.dp;have za:=a.sz;have td:Tok d:=Any.tok (n:=2) (N:=9000) ⟨b.pl,by omega,by omega⟩ (by omega) (by omega);have t2:Tok r2.d:=Any.tok (F2.any m6) (by omega) (by omega);refine Ok.bind ((f8 (N:=N+(8-(i+1)) * 120) (m:=2) (w3.less (by omega)) (by omega) (by omega) 9).mono ?_);rintro _ S4 ⟨v,rfl,hv,w4,_,k4⟩;have T4:=T3.keep (k4 q (Ne.symm pq));obtain ⟨y,ey,ty⟩:∃ y,([r2.d,d]:List D)[v]?=some y/\Tok y:=by
   have:v=0\/v=1:=by omega
   rcases this with rfl | rfl
   ·exact ⟨_,rfl,t2⟩
   ·exact ⟨_,rfl,td⟩
  obtain ⟨S5,a1,a2,a3,a4⟩:=T4.app (by omega) ty;exact Ok.eq (mU S4 ey)<|Ok.eq a2<|Ok.ret ⟨_,.inl rfl,_,_,rfl,w4.keep (a4 p pq),a3⟩
 ·rintro _ S1 ⟨ρ,rfl,o7,o8,rfl,w1,T1⟩;exact ⟨_,rfl,_,_,rfl,w1.less (by omega),T1⟩
omit F in
theorem CK {p q n:Nat} {kk:D} {S:Sto} {ts:List D} (w:Fw ns p n S) (e:S[q]?=some (.lst ts)) (tk:∀ d∈ts,Tok d) (o7 o8:Option D):Ok (i6 (W8 q) (λd ρ=>some (ρ.set 7 (some d))) (F9 (rn 10)) (ts.length+1) 0 (gP sc kk p m r q o7 o8)) S λfl S'=>∃ ρ',fl=.nx ρ'/\∃ o7 o8,ρ'=gP sc kk p m r q o7 o8/\Fw ns p n S':=by
 refine (Ok.loop (n:=ts.length) (λi ρ S'=>∃ o7 o8 R,ρ=gP sc kk p m r q o7 o8/\S'=S++R) (λρ S' h=>?_) ?_ ⟨_,_,[],rfl,by simp⟩).mono ?_
 ·obtain ⟨_,_,R,_,rfl⟩:=h;show W8 q ts.length (S++R)=_;rw [cZ ((O4 (Fv.mp e).1).trans e),Gr (FH _)]
 ·rintro i ρ S1 hi ⟨o7,o8,R,rfl,rfl⟩;obtain ⟨d,hd⟩:∃ d,ts[i]?=some d:=⟨_,Fy hi⟩;refine ⟨d,_,by show W8 q i (S++R)=_;rw [cZ ((O4 (Fv.mp e).1).trans e),hd],rfl,?_⟩;unfold F9;rw [Z2];obtain ⟨n1,hn1,an⟩:=tk d (FT hd);obtain ⟨o,wo,e1,e2⟩:=qZ m6 hn1 (by omega) an;refine Ok.first<|Ok.cg (bw ..)<|Ok.bind ((e1 3 (S++R)).mono ?_);rintro _ S2 ⟨rfl,R2,rfl⟩;refine Ok.eq (xY wo _)<|Ok.eq (c9 _ _) ?_;cases o with
  | some x=>exact Ok.neg Fz<|Ok.ret ⟨_,.inl rfl,_,_,R++R2,rfl,by rw [GG]⟩
  | none=>
   obtain ⟨r1,rfl,F1,due⟩:=e2 rfl;obtain ⟨eb,G⟩:=rZ F1 due;have ed:r1.d=lvD r1.hs:=by
    unfold Lv.d lvD;rw [eb]
   have hl:r1.hs.length=m:=F1.hl;have st:=yn hn1 (by omega) m6 7 (S++R++R2) an;rw [F1.lev] at st;refine Ok.pos rfl<|Ok.eq st<|Ok.eq (a:=true) rfl<|Ok.neg (by decide) ?_;rw [ed];refine Ok.bind ((bZ m6 hl G 2 _).mono ?_);rintro _ S3 ⟨rfl,R3,rfl⟩;exact Ok.eq (a:=true) rfl<|Ok.neg (by decide)<|Ok.ret ⟨_,.inl rfl,_,_,R++R2++R3,by rfl,by simp only [GG]⟩
 ·rintro _ S1 ⟨ρ,rfl,o7,o8,R,rfl,rfl⟩;exact ⟨_,rfl,_,_,rfl,w.keep (O4 w.lt)⟩
end
theorem tH {x:Nat} (h:x<6):∃ m:Nat,([.int 6,.int 5,.int 4,.int 3,.int 2,.int 1]:List D)[x]?=some (.int (m:Int))/\1<=m/\m<=6:=by
 have:x=0\/x=1\/x=2\/x=3\/x=4\/x=5:=by omega
 rcases this with rfl | rfl | rfl | rfl | rfl | rfl
 ·exact ⟨6,rfl,by omega,by omega⟩
 ·exact ⟨5,rfl,by omega,by omega⟩
 ·exact ⟨4,rfl,by omega,by omega⟩
 ·exact ⟨3,rfl,by omega,by omega⟩
 ·exact ⟨2,rfl,by omega,by omega⟩
 ·exact ⟨1,rfl,by omega,by omega⟩
theorem yV (ns:List Int):∃ S',rn 11 nX [.scr (ns.map D.int)] []=.ok (.bl true) S':=by
 suffices h:Ok (rn 11 nX [.scr (ns.map D.int)]) [] λd _=>d=.bl true by
  obtain ⟨d,S',e,rfl⟩:=h;exact ⟨S',e⟩
 rw [rn,b8 (fd:=law_F) rfl,vD,uC];refine Ok.first<|Ok.cg (DW ..)<|Ok.eq (q9 (n:=4) (by omega) _)<|Ok.bind ((Ok.loop (n:=4) (λi ρ S'=>∃ (o2 o3 o4 o5 o6 o7 o8:Option D),ρ=[some (.scr (ns.map D.int)),o2,o3,o4,o5,o6,o7,o8]) (λρ S' _=>t9 4 S') ?_ ⟨_,_,_,_,_,_,_,rfl⟩).mono ?_)
 ·rintro i ρ S hi ⟨o2,o3,o4,o5,o6,o7,o8,rfl⟩;refine ⟨.int (i:Int),_,C7 hi S,rfl,?_⟩;unfold eJ;rw [fE];obtain ⟨ms,ew⟩:=tf ns i hi S 9;refine Ok.first<|Ok.cg (ly ..)<|Ok.eq ew ?_;have w0:Fw ms S.length 5000 (S++[m4 ms i 0 (17 * i)]):=⟨i,0,17 * i,by simp,by omega,by omega,by omega,by omega⟩;generalize (S++[m4 ms i 0 (17 * i)]:Sto)=S0 at w0;generalize S.length=p at w0;refine Ok.nxt<|Ok.cg (kr ..)<|Ok.bind ((f8 (N:=4900) (m:=6) (w0.less (by omega)) (by omega) (by omega) 9).mono ?_);rintro _ S1 ⟨x,rfl,hx,w1,_,_⟩;obtain ⟨m,em,m1,m6⟩:=tH hx;refine Ok.eq (mU S1 em)<|Ok.nxt<|Ok.cg (mR ..)<|Ok.eq (oG m1 m6 9 S1)<|Ok.bind ((W3 (m:=m) (by simp) (gh m) m6 3 S1).mono ?_);rintro _ S2 ⟨rfl,R,rfl⟩;have w2:=w1.keep (O4 (R:=R) w1.lt);generalize S1++R=S2 at w2;refine Ok.eq (zj S2)<|Ok.eq (a:=false) rfl<|Ok.neg (by decide)<|Ok.nxt<|Ok.cg (kt ..)<|Ok.bind ((xX (N:=4700) (m:=m) (w2.less (by omega)) m1 m6 7).mono ?_);rintro _ S3 ⟨w3,hs,rfl,hl,G⟩;have F0:=ae hl G;have F:=F0.ls m6;change LsOk m ⟨hs.map boxOf,hs.map Hd.d⟩ at F;have er:lvD hs=(⟨hs.map boxOf,hs.map Hd.d⟩:Ls).d:=rfl;have t0:Tok (lvD hs):=Any.tok (oP hl G m6) (by omega) (by omega);refine Ok.nxt<|Ok.cg (lX ..)<|Ok.eq (show newL [lvD hs] S3=.ok (.ref S3.length) (S3++[.lst [lvD hs]]) from rfl) ?_;have T4:Ths S3.length 1 (S3++[.lst [lvD hs]]):=⟨[lvD hs],by simp,rfl,λd hd=>by rw [Gb.mp hd];exact t0⟩;have w4:=w3.push (.lst [lvD hs]);have pq:p≠S3.length:=by have:=w3.lt;omega
  generalize (S3++[.lst [lvD hs]]:Sto)=S4 at T4 w4;generalize S3.length=q at T4 pq;rw [er];refine Ok.nxt<|Ok.cg (lx ..)<|Ok.eq (q9 (n:=8) (by omega) _)<|Ok.bind ((FF (N:=2500) m1 m6 F (w4.less (by omega)) T4 (by omega) pq _ _).mono ?_);rintro _ S5 ⟨_,rfl,o7,o8,rfl,w5,ts,e5,l5,tk⟩;refine Ok.nxt<|Ok.cg (mO ..)<|Ok.eq (show G9 (.ref q) S5=.ok (W8 q,ts.length+1) S5 by simp only [G9,e5])<|Ok.bind ((CK m1 m6 w5 e5 tk _ _).mono ?_);rintro _ S6 ⟨_,rfl,o7,o8,rfl,w6⟩;rw [show (gP (.scr (ns.map D.int)) (.int (i:Int)) p m ⟨hs.map boxOf,hs.map Hd.d⟩ q o7 o8)=[some (.scr (ns.map D.int)),some (.int (i:Int)),some (.ref p),some (.int (m:Int)),some (lvD hs),some (.ref q),o7,o8] from rfl];refine Ok.nxt<|Ok.cg (mD ..)<|Ok.bind ((mJ (N:=1000) (w6.less (by omega)) m1 m6 hl G 1).mono ?_);rintro _ S7 ⟨rfl,w7⟩;exact Ok.eq (a:=true) rfl<|Ok.neg (by decide)<|Ok.ret ⟨_,.inl rfl,_,_,_,_,_,_,_,rfl⟩
 ·rintro _ S' ⟨ρ,rfl,o2,o3,o4,o5,o6,o7,o8,rfl⟩;exact Ok.nxt<|Ok.cg (Ct ..)<|Ok.ret rfl
end L3.K23
namespace L3.K23
open PySem L2 Hn
abbrev iHE:Stmt:=N1 (top 1) 0
abbrev iNS:Stmt:=N1 (top 2) 0
abbrev iNP:Stmt:=N1 (top 3) 0
abbrev iND:Stmt:=N1 (top 4) 0
abbrev iTM:Stmt:=N1 (top 5) 0
abbrev iNT:Stmt:=N1 (top 6) 0
section
variable {P:Program} {w:World} {K:PySem.W.Frag} {mg:Str->Option Value} {base:Heap} {f fB B:Addr} {fd fdB:FuncData}
theorem Dv:FnScope ["self","text"] ["self","text"] (b7 iHE):=⟨rfl,rfl,rfl,by decide +kernel,rfl,by decide +kernel,by decide +kernel⟩
theorem cc (F:Fun K "__init__" "HandError.__init__" iHE f fd) (T:TxE K mg B fB):FnOk P w K mg base CX0 1 f fd ["self","text"] (spHE K):=by
 refine F.ok Dv (λvs H Q E h=>?_) (λb A a s H vs Q E e h=>?_)
 ·obtain ⟨x,y,C,d,rfl,_⟩:=h;rfl
 ·obtain ⟨x,y,C,d,rfl,M,c,k⟩:=h;refine ⟨_,M1 (D9 (pH rfl T.mV T.fV (f7 (pv 0) (f7 (pv 1) A1)))),?_⟩;exact ⟨_,rfl,_,rfl,x,C,d,y,rfl,M,c,k⟩
theorem Du:FnScope ["self","hand"] ["self","hand"] (b7 iNS):=⟨rfl,rfl,rfl,by decide +kernel,rfl,by decide +kernel,by decide +kernel⟩
theorem By (F:Fun K "__init__" "NoStep.__init__" iNS f fd) (T:TxE K mg B fB) (o:Fun K "__init__" "HandError.__init__" iHE fB fdB) (r:Binds K fdB ["self","text"] []):FnOk P w K mg base CX0 2 f fd ["self","hand"] (sp1 K "hand"):=by
 have G:FnOk P w K mg base CX0 1 fB fdB ["self","text"] (spHE K):=cc o T;refine F.ok Du (λvs H Q E h=>?_) (λj A e s H vs Q E g h=>?_)
 ·obtain ⟨x,v,C,m,rfl,_⟩:=h;rfl
 ·obtain ⟨x,v,C,m,rfl,M,t,i,a,k⟩:=h;have n:(A.deeper (PyProof.Rows.envOfC "NoStep.__init__" (b7 iNS) s.heap.objs.size f j)).units+80<cLine:=by have:=g.un;omega
  refine ⟨_,u3 (D9 (L1 rfl T.mB T.sB T.rB T.cB T.kB G g r Y4 (f7 (pv 0) (f7 (S9 (B1 (E1 g.gd n (pv 1) (B1 R7))) (by decide)) A1))))
   (M1 (E4 (pv 0) (pv 1) rfl)),?_⟩
  refine ⟨_,rfl,_,rfl,m,a.at_,a.sh,a.l1,a.l2,λz hz=>?_⟩;refine ⟨x,.str z,C,none,rfl,M,i,?_⟩;refine ⟨_,rfl,_,rfl,x,C,rfl,M,t,.inl ⟨i,λd hd=>?_⟩⟩;have l:d≠x:=λq=>by rw [q,i] at hd;cases hd
  exact k _ ⟨d,hd,l,b6,by rw [a8 l,b6],λb p c=>by rw [a8 p,a8 c]⟩
theorem FC:FnScope ["self","word","at"] ["self","word","at"] (b7 iNP):=⟨rfl,rfl,rfl,by decide +kernel,rfl,by decide +kernel,by decide +kernel⟩
theorem Cg (F:Fun K "__init__" "NoPaper.__init__" iNP f fd) (T:TxE K mg B fB) (r:Fun K "__init__" "HandError.__init__" iHE fB fdB) (y:Binds K fdB ["self","text"] []):FnOk P w K mg base CX0 2 f fd ["self","word","at"] (sp2 K "word" "at"):=by
 have G:FnOk P w K mg base CX0 1 fB fdB ["self","text"] (spHE K):=cc r T;refine F.ok FC (λvs H Q E h=>?_) (λm A j s H vs Q E e h=>?_)
 ·obtain ⟨x,v,u,C,o,p,rfl,_⟩:=h;rfl
 ·obtain ⟨x,v,u,C,o,p,rfl,M,I,D,l,i,g,k⟩:=h;have n:(A.deeper (PyProof.Rows.envOfC "NoPaper.__init__" (b7 iNP) s.heap.objs.size f m)).units+80<cLine:=by have:=e.un;omega
  refine ⟨_,u3 (D9 (L1 rfl T.mB T.sB T.rB T.cB T.kB G e y Y4 (f7 (pv 0) (f7 (S9 (B1 (E1 e.gd n (pv 1) (B1 (E1 e.gd n (pv 2) R7)))) (by decide)) A1))))
   (u3 (E4 (pv 0) (pv 1) rfl) (M1 (E4 (pv 0) (pv 2) rfl))),?_⟩
  refine ⟨_,rfl,_,rfl,o,i.at_,i.sh,i.l1,i.l2,_,rfl,p,g.at_,g.sh,g.l1,g.l2,λz hz=>?_⟩;refine ⟨x,.str z,C,none,rfl,M,l,?_⟩;refine ⟨_,rfl,_,rfl,x,C,rfl,M,I,.inl ⟨l,λd hd=>?_⟩⟩;have c:d≠x:=λq=>by rw [q,l] at hd;cases hd
  refine ⟨_,rfl,_,rfl,x,C,rfl,M,D,.inr ⟨d,_,c,b6,by rw [a8 c,b6],by show 1<900;decide,?_⟩⟩;refine k _ ⟨d,hd,c,by rw [a8 c.symm,b6],by rw [b6,ij],λb t a=>by rw [a8 a,a8 t,a8 a]⟩
theorem Dt:FnScope ["self","word","at"] ["self","word","at"] (b7 iND):=⟨rfl,rfl,rfl,by decide +kernel,rfl,by decide +kernel,by decide +kernel⟩
theorem BZ (F:Fun K "__init__" "NoStand.__init__" iND f fd) (T:TxE K mg B fB) (r:Fun K "__init__" "HandError.__init__" iHE fB fdB) (y:Binds K fdB ["self","text"] []):FnOk P w K mg base CX0 2 f fd ["self","word","at"] (sp2 K "word" "at"):=by
 have G:FnOk P w K mg base CX0 1 fB fdB ["self","text"] (spHE K):=cc r T;refine F.ok Dt (λvs H Q E h=>?_) (λm A j s H vs Q E e h=>?_)
 ·obtain ⟨x,v,u,C,o,p,rfl,_⟩:=h;rfl
 ·obtain ⟨x,v,u,C,o,p,rfl,M,I,D,l,i,g,k⟩:=h;have n:(A.deeper (PyProof.Rows.envOfC "NoStand.__init__" (b7 iND) s.heap.objs.size f m)).units+80<cLine:=by have:=e.un;omega
  refine ⟨_,u3 (D9 (L1 rfl T.mB T.sB T.rB T.cB T.kB G e y Y4 (f7 (pv 0) (f7 (S9 (B1 (E1 e.gd n (pv 1) (B1 (E1 e.gd n (pv 2) R7)))) (by decide)) A1))))
   (u3 (E4 (pv 0) (pv 1) rfl) (M1 (E4 (pv 0) (pv 2) rfl))),?_⟩
  refine ⟨_,rfl,_,rfl,o,i.at_,i.sh,i.l1,i.l2,_,rfl,p,g.at_,g.sh,g.l1,g.l2,λz hz=>?_⟩;refine ⟨x,.str z,C,none,rfl,M,l,?_⟩;refine ⟨_,rfl,_,rfl,x,C,rfl,M,I,.inl ⟨l,λd hd=>?_⟩⟩;have c:d≠x:=λq=>by rw [q,l] at hd;cases hd
  refine ⟨_,rfl,_,rfl,x,C,rfl,M,D,.inr ⟨d,_,c,b6,by rw [a8 c,b6],by show 1<900;decide,?_⟩⟩;refine k _ ⟨d,hd,c,by rw [a8 c.symm,b6],by rw [b6,ij],λb t a=>by rw [a8 a,a8 t,a8 a]⟩
theorem EQ:FnScope ["self","word"] ["self","word"] (b7 iTM):=⟨rfl,rfl,rfl,by decide +kernel,rfl,by decide +kernel,by decide +kernel⟩
theorem Bn (F:Fun K "__init__" "TooMany.__init__" iTM f fd) (T:TxE K mg B fB) (o:Fun K "__init__" "HandError.__init__" iHE fB fdB) (r:Binds K fdB ["self","text"] []):FnOk P w K mg base CX0 2 f fd ["self","word"] (sp1 K "word"):=by
 have G:FnOk P w K mg base CX0 1 fB fdB ["self","text"] (spHE K):=cc o T;refine F.ok EQ (λvs H Q E h=>?_) (λj A e s H vs Q E g h=>?_)
 ·obtain ⟨x,v,C,m,rfl,_⟩:=h;rfl
 ·obtain ⟨x,v,C,m,rfl,M,t,i,a,k⟩:=h;have n:(A.deeper (PyProof.Rows.envOfC "TooMany.__init__" (b7 iTM) s.heap.objs.size f j)).units+80<cLine:=by have:=g.un;omega
  refine ⟨_,u3 (D9 (L1 rfl T.mB T.sB T.rB T.cB T.kB G g r Y4 (f7 (pv 0) (f7 (S9 (B1 (E1 g.gd n (pv 1) R7)) (by decide)) A1))))
   (M1 (E4 (pv 0) (pv 1) rfl)),?_⟩
  refine ⟨_,rfl,_,rfl,m,a.at_,a.sh,a.l1,a.l2,λz hz=>?_⟩;refine ⟨x,.str z,C,none,rfl,M,i,?_⟩;refine ⟨_,rfl,_,rfl,x,C,rfl,M,t,.inl ⟨i,λd hd=>?_⟩⟩;have l:d≠x:=λq=>by rw [q,i] at hd;cases hd
  exact k _ ⟨d,hd,l,b6,by rw [a8 l,b6],λb p c=>by rw [a8 p,a8 c]⟩
theorem Dy:FnScope ["self","type_here"] ["self","type_here"] (b7 iNT):=⟨rfl,rfl,rfl,by decide +kernel,rfl,by decide +kernel,by decide +kernel⟩
theorem DF (F:Fun K "__init__" "NoType.__init__" iNT f fd) (T:TxE K mg B fB) (o:Fun K "__init__" "HandError.__init__" iHE fB fdB) (r:Binds K fdB ["self","text"] []):FnOk P w K mg base CX0 2 f fd ["self","type_here"] (sp1 K "type_here"):=by
 have G:FnOk P w K mg base CX0 1 fB fdB ["self","text"] (spHE K):=cc o T;refine F.ok Dy (λvs H Q E h=>?_) (λj A e s H vs Q E g h=>?_)
 ·obtain ⟨x,v,C,m,rfl,_⟩:=h;rfl
 ·obtain ⟨x,v,C,m,rfl,M,t,i,a,k⟩:=h;have n:(A.deeper (PyProof.Rows.envOfC "NoType.__init__" (b7 iNT) s.heap.objs.size f j)).units+80<cLine:=by have:=g.un;omega
  refine ⟨_,u3 (D9 (L1 rfl T.mB T.sB T.rB T.cB T.kB G g r Y4 (f7 (pv 0) (f7 (S9 (B1 (E1 g.gd n (pv 1) R7)) (by decide)) A1))))
   (M1 (E4 (pv 0) (pv 1) rfl)),?_⟩
  refine ⟨_,rfl,_,rfl,m,a.at_,a.sh,a.l1,a.l2,λz hz=>?_⟩;refine ⟨x,.str z,C,none,rfl,M,i,?_⟩;refine ⟨_,rfl,_,rfl,x,C,rfl,M,t,.inl ⟨i,λd hd=>?_⟩⟩;have l:d≠x:=λq=>by rw [q,i] at hd;cases hd
  exact k _ ⟨d,hd,l,b6,by rw [a8 l,b6],λb p c=>by rw [a8 p,a8 c]⟩
end
end L3.K23
section
namespace L3.K23
open PySem PySem.Spec PyProof.Rows L2 Hn
theorem all_mk {l:PySem.W.OpenLaw} {w:World} {K:PySem.W.Frag} {h:Heap} {mg:Str->Option Value} {fa B fB C1 f1 C2 f2 C3 f3 C4 f4 C5 f5 C6 g0 g1 g2 g3 g4 g5 g6 g7 g8 g9 g10 g11 g12 g13 g14 g15 g16 g17 g18 g19 g20 g21 g22 g23 g24 g25 g26 g27 g28 g29 g30 g31 g32:Addr} (X:K.In h) (G:h.Ns mainGlobals mg) (hfa:mg "law" = some (.ref fa))
  {odHE anHE odNS anNS odNP anNP odND anND odTM anTM odNT anNT:Option Addr} {slHE slNS slNP slND slTM slNT:Array (Option Value)} {ocHE kVHE dcHE pmHE cdHE ctHE ocNS kVNS dcNS pmNS cdNS ctNS ocNP kVNP dcNP pmNP cdNP ctNP ocND kVND dcND pmND cdND ctND ocTM kVTM dcTM pmTM cdTM ctTM ocNT kVNT dcNT pmNT cdNT ctNT:Value}
  (aHE:PySem.W.nsIn K mainGlobals "HandError" = some (some (.ref B))) (iHE_:PySem.W.findIn K (.ref B) "__init__" = some (some (.ref fB))) (nHE:PySem.W.isFn K (.ref fB)=true) (lHE:K.lookup fB=some ⟨ocHE,odHE,.func (PySem.W.fnOf "__init__" "HandError.__init__" (j3 (iHE)) (h7 (iHE)) (b7 (iHE)) .none kVHE dcHE pmHE anHE cdHE ctHE),slHE⟩) (cHE:PySem.W.codeIn K cdHE "HandError.__init__" = true) (kHE:PySem.W.keepIn K (.ref fB)=true)
  (aNS:PySem.W.nsIn K mainGlobals "NoStep" = some (some (.ref C1))) (iNS_:PySem.W.findIn K (.ref C1) "__init__" = some (some (.ref f1))) (nNS:PySem.W.isFn K (.ref f1)=true) (lNS:K.lookup f1=some ⟨ocNS,odNS,.func (PySem.W.fnOf "__init__" "NoStep.__init__" (j3 (iNS)) (h7 (iNS)) (b7 (iNS)) .none kVNS dcNS pmNS anNS cdNS ctNS),slNS⟩) (cNS:PySem.W.codeIn K cdNS "NoStep.__init__" = true) (kNS:PySem.W.keepIn K (.ref f1)=true)
  (aNP:PySem.W.nsIn K mainGlobals "NoPaper" = some (some (.ref C2))) (iNP_:PySem.W.findIn K (.ref C2) "__init__" = some (some (.ref f2))) (nNP:PySem.W.isFn K (.ref f2)=true) (lNP:K.lookup f2=some ⟨ocNP,odNP,.func (PySem.W.fnOf "__init__" "NoPaper.__init__" (j3 (iNP)) (h7 (iNP)) (b7 (iNP)) .none kVNP dcNP pmNP anNP cdNP ctNP),slNP⟩) (cNP:PySem.W.codeIn K cdNP "NoPaper.__init__" = true) (kNP:PySem.W.keepIn K (.ref f2)=true)
  (aND:PySem.W.nsIn K mainGlobals "NoStand" = some (some (.ref C3))) (iND_:PySem.W.findIn K (.ref C3) "__init__" = some (some (.ref f3))) (nND:PySem.W.isFn K (.ref f3)=true) (lND:K.lookup f3=some ⟨ocND,odND,.func (PySem.W.fnOf "__init__" "NoStand.__init__" (j3 (iND)) (h7 (iND)) (b7 (iND)) .none kVND dcND pmND anND cdND ctND),slND⟩) (cND:PySem.W.codeIn K cdND "NoStand.__init__" = true) (kND:PySem.W.keepIn K (.ref f3)=true)
  (aTM:PySem.W.nsIn K mainGlobals "TooMany" = some (some (.ref C4))) (iTM_:PySem.W.findIn K (.ref C4) "__init__" = some (some (.ref f4))) (nTM:PySem.W.isFn K (.ref f4)=true) (lTM:K.lookup f4=some ⟨ocTM,odTM,.func (PySem.W.fnOf "__init__" "TooMany.__init__" (j3 (iTM)) (h7 (iTM)) (b7 (iTM)) .none kVTM dcTM pmTM anTM cdTM ctTM),slTM⟩) (cTM:PySem.W.codeIn K cdTM "TooMany.__init__" = true) (kTM:PySem.W.keepIn K (.ref f4)=true)
  (aNT:PySem.W.nsIn K mainGlobals "NoType" = some (some (.ref C5))) (iNT_:PySem.W.findIn K (.ref C5) "__init__" = some (some (.ref f5))) (nNT:PySem.W.isFn K (.ref f5)=true) (lNT:K.lookup f5=some ⟨ocNT,odNT,.func (PySem.W.fnOf "__init__" "NoType.__init__" (j3 (iNT)) (h7 (iNT)) (b7 (iNT)) .none kVNT dcNT pmNT anNT cdNT ctNT),slNT⟩) (cNT:PySem.W.codeIn K cdNT "NoType.__init__" = true) (kNT:PySem.W.keepIn K (.ref f5)=true)
  (aNR:PySem.W.nsIn K mainGlobals "NoRow" = some (some (.ref C6))) (iNR:PySem.W.findIn K (.ref C6) "__init__" = some (some (.ref fB)))
  (fV:PySem.W.findCls K (.type "ValueError") (.type "type") "__init__" = some (.val (.builtin "ValueError.__init__"))) (sB:PySem.W.specialIn K (.ref B) "__getattribute__" = some (some (.builtin "type.__getattribute__"))) (rB:PySem.W.readsIn K B (.type "type")=true) (cB:PySem.W.findCls K (.ref B) (.type "type") "__init__" = some (.val (.ref fB)))
  (rxc:[B,C1,C2,C3,C4,C5,C6].all (xcB K)=true)
  (rjk:Y3 K fB=false)
  (rsub:((List.range [B,C1,C2,C3,C4,C5,C6].length).all λc=>(List.range [B,C1,C2,C3,C4,C5,C6].length).all λc0=>isB (PySem.W.kitOne K (.ref (bm [B,C1,C2,C3,C4,C5,C6] fB c)) (.ref (bm [B,C1,C2,C3,C4,C5,C6] fB c0))) (Γ.sub c c0))=true)
  (rsV:([B,C1,C2,C3,C4,C5,C6].all λC=>isB (PySem.W.kitOne K (.ref C) (.type "ValueError")) true)=true)
  (rsT:([B,C1,C2,C3,C4,C5,C6].all λC=>tys.all λt=>isB (PySem.W.kitOne K (.ref C) (.type t)) false)=true)
  (rfl_:(Γ.flds.all λg=>[B,C1,C2,C3,C4,C5,C6].all λC=>isNo (PySem.W.findIn K (.ref C) g))=true)
  (rbl:(bnames.all λx=>(Γ.gl.lookup x).isSome||isNo (PySem.W.nsIn K mainGlobals x))=true)
  (dg0:GF K "is_whole" (top 9) g0)
  (dg1:GF K "is_within" (top 10) g1)
  (dg2:GF K "is_tuple_of" (top 11) g2)
  (dg3:GF K "are_rising_hands" (top 12) g3)
  (dg4:GF K "with_at" (top 13) g4)
  (dg5:GF K "first_levels" (top 15) g5)
  (dg6:GF K "step_levels" (top 16) g6)
  (dg7:GF K "behind_look" (top 17) g7)
  (dg8:GF K "hands_up_to" (top 18) g8)
  (dg9:GF K "lets_levels" (top 20) g9)
  (dg10:GF K "is_level_stand" (top 21) g10)
  (dg11:GF K "is_hand_here" (top 22) g11)
  (dg12:GF K "box_due" (top 23) g12)
  (dg13:GF K "_law_well" (top 25) g13)
  (dg14:GF K "_law_draw" (top 26) g14)
  (dg15:GF K "_law_with" (top 27) g15)
  (dg16:GF K "_law_seen" (top 28) g16)
  (dg17:GF K "_law_level_step" (top 29) g17)
  (dg18:GF K "_law_refusal" (top 30) g18)
  (dg19:GF K "_law_odd" (top 31) g19)
  (dg20:GF K "_law_bent" (top 32) g20)
  (dg21:GF K "_law_level_rows" (top 33) g21)
  (dg22:GF K "_law_let_by" (top 34) g22)
  (dg23:GF K "_law_any_levels" (top 35) g23)
  (dg24:GF K "_law_is_whole" (top 36) g24)
  (dg25:GF K "_law_is_level_hand" (top 37) g25)
  (dg26:GF K "_law_is_levels" (top 38) g26)
  (dg27:GF K "_law_level_told" (top 39) g27)
  (dg28:GF K "_law_level_out" (top 40) g28)
  (dg29:GF K "_law_broken" (top 41) g29)
  (dg30:GF K "_law_carries" (top 42) g30)
  (dg31:GF K "_law_walked" (top 43) g31)
  (dg32:GF K "law" (top 44) g32) :
  ∃ fd:FuncData,(∀ (s:Shared) (v:Value),BindsTo s fd ⟨[v],[]⟩ [("_law_script",v)])/\∀ base:Heap,K.In base->base.Ns mainGlobals mg->FnOk l.prog w K mg base CX0 14 fa fd ["_law_script"] (dZ K):=by
 have e:=hfa.symm.trans (He X G dg32.a);cases e;have RB:RowB K Γ [B,C1,C2,C3,C4,C5,C6] fB:=⟨rxc,rjk,rsub,rsV,rsT,rfl_,rbl⟩;have FHE:=J6 (st:=iHE) lHE cHE kHE;have bHE:=FHE.binds (ps:=["self","text"]) λ_ _ _ _ _ _ us hl=>w8 hl λ_ _=>rfl;have FNS:=J6 (st:=iNS) lNS cNS kNS;have bNS:=FNS.binds (ps:=["self","hand"]) λ_ _ _ _ _ _ us hl=>w8 hl λ_ _=>rfl;have FNP:=J6 (st:=iNP) lNP cNP kNP;have bNP:=FNP.binds (ps:=["self","word","at"]) λ_ _ _ _ _ _ us hl=>dt hl λ_ _ _=>rfl;have FND:=J6 (st:=iND) lND cND kND;have bND:=FND.binds (ps:=["self","word","at"]) λ_ _ _ _ _ _ us hl=>dt hl λ_ _ _=>rfl;have FTM:=J6 (st:=iTM) lTM cTM kTM;have bTM:=FTM.binds (ps:=["self","word"]) λ_ _ _ _ _ _ us hl=>w8 hl λ_ _=>rfl;have FNT:=J6 (st:=iNT) lNT cNT kNT;have bNT:=FNT.binds (ps:=["self","type_here"]) λ_ _ _ _ _ _ us hl=>w8 hl λ_ _=>rfl;have xHE:XC K B:=O6 ((FX.mp rxc) B (by simp));have xNS:XC K C1:=O6 ((FX.mp rxc) C1 (by simp));have xNP:XC K C2:=O6 ((FX.mp rxc) C2 (by simp));have xND:XC K C3:=O6 ((FX.mp rxc) C3 (by simp));have xTM:XC K C4:=O6 ((FX.mp rxc) C4 (by simp));have xNT:XC K C5:=O6 ((FX.mp rxc) C5 (by simp));have xNR:XC K C6:=O6 ((FX.mp rxc) C6 (by simp));obtain ⟨_,⟨oc,od,kV,dc,pm,an,cd,ct,sl,rfl,lk,hc⟩,kp⟩:=dg32.f;have FL:=J6 lk hc kp;refine ⟨PySem.W.fnOf "law" "law" (j3 (top 44)) (h7 (top 44)) (b7 (top 44)) .none kV dc pm an cd ct,λs v=>.of_eq rfl,λbase KB GB=>?_⟩
 let T:Tx:=⟨l.prog,w,K,mg,base,bm [B,C1,C2,C3,C4,C5,C6] fB⟩
 have mV:mg "ValueError" = none:=PySem.W.mg_none_of X G (aF ((FX.mp rbl) "ValueError" (by decide)));have TE:TxE K mg B fB:=⟨mV,fV,He X G aHE,sB,rB,cB,kHE⟩;have gHE:FnOk l.prog w K mg base CX0 2 fB _ ["self","text"] (spHE K):=(cc FHE TE).mono (by decide);have gNS:FnOk l.prog w K mg base CX0 2 f1 _ _ _:=By FNS TE FHE bHE;have gNP:FnOk l.prog w K mg base CX0 2 f2 _ _ _:=Cg FNP TE FHE bHE;have gND:FnOk l.prog w K mg base CX0 2 f3 _ _ _:=BZ FND TE FHE bHE;have gTM:FnOk l.prog w K mg base CX0 2 f4 _ _ _:=Bn FTM TE FHE bHE;have gNT:FnOk l.prog w K mg base CX0 2 f5 _ _ _:=DF FNT TE FHE bHE;have st:TxSt T Γ:=by
  refine RB.st (T:=T) X G rfl (λx d e=>?_) (λx c fs e=>?_) (λx kvs e=>?_)
  ·have m:=L2.mem_of_lookup e;simp [Γ] at m
  ·have m:=L2.mem_of_lookup e;simp only [Γ,FP,Hc,JC,Prod.mk.injEq,L3.G.err.injEq,reduceCtorEq,and_false,false_or] at m;rcases m with ⟨rfl,rfl,rfl⟩ | ⟨rfl,rfl,rfl⟩ | ⟨rfl,rfl,rfl⟩ | ⟨rfl,rfl,rfl⟩ | ⟨rfl,rfl,rfl⟩ | ⟨rfl,rfl,rfl⟩ | ⟨rfl,rfl,rfl⟩
   ·exact ⟨by simp,⟨xHE,He X G aHE,fB,_,_,iHE_,nHE,bHE,gHE⟩,by simp⟩
   ·exact ⟨by simp,⟨xNS,He X G aNS,f1,_,_,iNS_,nNS,bNS,gNS⟩,by simp [Γ]⟩
   ·exact ⟨by simp,⟨xNP,He X G aNP,f2,_,_,iNP_,nNP,bNP,gNP⟩,by simp [Γ]⟩
   ·exact ⟨by simp,⟨xND,He X G aND,f3,_,_,iND_,nND,bND,gND⟩,by simp [Γ]⟩
   ·exact ⟨by simp,⟨xTM,He X G aTM,f4,_,_,iTM_,nTM,bTM,gTM⟩,by simp [Γ]⟩
   ·exact ⟨by simp,⟨xNT,He X G aNT,f5,_,_,iNT_,nNT,bNT,gNT⟩,by simp [Γ]⟩
   ·exact ⟨by simp,⟨xNR,He X G aNR,fB,_,_,iNR,nHE,bHE,gHE⟩,by simp⟩
  ·have m:=L2.mem_of_lookup e;simp [Γ] at m
 have fs:rM T Γ Tb:=by
  refine Ca ?_;refine And.intro (fe X G (T:=T) dg0 (by decide +kernel) (λ_ _ _ _ _ _ us hl=>lR hl λ_=>rfl) rfl rfl) ?_;refine And.intro (fe X G (T:=T) dg1 (by decide +kernel) (λ_ _ _ _ _ _ us hl=>dt hl λ_ _ _=>rfl) rfl rfl) ?_;refine And.intro (fe X G (T:=T) dg2 (by decide +kernel) (λ_ _ _ _ _ _ us hl=>w8 hl λ_ _=>rfl) rfl rfl) ?_;refine And.intro (fe X G (T:=T) dg3 (by decide +kernel) (λ_ _ _ _ _ _ us hl=>w8 hl λ_ _=>rfl) rfl rfl) ?_;refine And.intro (fe X G (T:=T) dg4 (by decide +kernel) (λ_ _ _ _ _ _ us hl=>dt hl λ_ _ _=>rfl) rfl rfl) ?_;refine And.intro (fe X G (T:=T) dg5 (by decide +kernel) (λ_ _ _ _ _ _ us hl=>lR hl λ_=>rfl) rfl rfl) ?_;refine And.intro (fe X G (T:=T) dg6 (by decide +kernel) (λ_ _ _ _ _ _ us hl=>w8 hl λ_ _=>rfl) rfl rfl) ?_;refine And.intro (fe X G (T:=T) dg7 (by decide +kernel) (λ_ _ _ _ _ _ us hl=>w8 hl λ_ _=>rfl) rfl rfl) ?_;refine And.intro (fe X G (T:=T) dg8 (by decide +kernel) (λ_ _ _ _ _ _ us hl=>w8 hl λ_ _=>rfl) rfl rfl) ?_;refine And.intro (fe X G (T:=T) dg9 (m:=["count"]) (by decide +kernel) (λ_ _ _ _ _ _ us hl=>w8 hl λ_ _=>rfl) rfl rfl) ?_;refine And.intro (fe X G (T:=T) dg10 (by decide +kernel) (λ_ _ _ _ _ _ us hl=>w8 hl λ_ _=>rfl) rfl rfl) ?_;refine And.intro (fe X G (T:=T) dg11 (by decide +kernel) (λ_ _ _ _ _ _ us hl=>dt hl λ_ _ _=>rfl) rfl rfl) ?_;refine And.intro (fe X G (T:=T) dg12 (by decide +kernel) (λ_ _ _ _ _ _ us hl=>lR hl λ_=>rfl) rfl rfl) ?_;refine And.intro (fe X G (T:=T) dg13 (by decide +kernel) (λ_ _ _ _ _ _ us hl=>w8 hl λ_ _=>rfl) rfl rfl) ?_;refine And.intro (fe X G (T:=T) dg14 (by decide +kernel) (λ_ _ _ _ _ _ us hl=>w8 hl λ_ _=>rfl) rfl rfl) ?_;refine And.intro (fe X G (T:=T) dg15 (by decide +kernel) (λ_ _ _ _ _ _ us hl=>dt hl λ_ _ _=>rfl) rfl rfl) ?_;refine And.intro (fe X G (T:=T) dg16 (by decide +kernel) (λ_ _ _ _ _ _ us hl=>w8 hl λ_ _=>rfl) rfl rfl) ?_;refine And.intro (fe X G (T:=T) dg17 (by decide +kernel) (λ_ _ _ _ _ _ us hl=>w8 hl λ_ _=>rfl) rfl rfl) ?_;refine And.intro (fe X G (T:=T) dg18 (m:=["~","_law_found"]) (by decide +kernel) (λ_ _ _ _ _ _ us hl=>lR hl λ_=>rfl) rfl rfl) ?_;refine And.intro (fe X G (T:=T) dg19 (by decide +kernel) (λ_ _ _ _ _ _ us hl=>lR hl λ_=>rfl) rfl rfl) ?_;refine And.intro (fe X G (T:=T) dg20 (by decide +kernel) (λ_ _ _ _ _ _ us hl=>w8 hl λ_ _=>rfl) rfl rfl) ?_;refine And.intro (fe X G (T:=T) dg21 (m:=["_law_rows","_law_inside"]) (by decide +kernel) (λ_ _ _ _ _ _ us hl=>w8 hl λ_ _=>rfl) rfl rfl) ?_;refine And.intro (fe X G (T:=T) dg22 (m:=["_law_hands"]) (by decide +kernel) (λ_ _ _ _ _ _ us hl=>w8 hl λ_ _=>rfl) rfl rfl) ?_;refine And.intro (fe X G (T:=T) dg23 (m:=["_law_boxes","_law_hands"]) (by decide +kernel) (λ_ _ _ _ _ _ us hl=>w8 hl λ_ _=>rfl) rfl rfl) ?_;refine And.intro (fe X G (T:=T) dg24 (by decide +kernel) (λ_ _ _ _ _ _ us hl=>dt hl λ_ _ _=>rfl) rfl rfl) ?_;refine And.intro (fe X G (T:=T) dg25 (by decide +kernel) (λ_ _ _ _ _ _ us hl=>dt hl λ_ _ _=>rfl) rfl rfl) ?_;refine And.intro (fe X G (T:=T) dg26 (by decide +kernel) (λ_ _ _ _ _ _ us hl=>w8 hl λ_ _=>rfl) rfl rfl) ?_;refine And.intro (fe X G (T:=T) dg27 (by decide +kernel) (λ_ _ _ _ _ _ us hl=>w8 hl λ_ _=>rfl) rfl rfl) ?_;refine And.intro (fe X G (T:=T) dg28 (by decide +kernel) (λ_ _ _ _ _ _ us hl=>w8 hl λ_ _=>rfl) rfl rfl) ?_;refine And.intro (fe X G (T:=T) dg29 (by decide +kernel) (λ_ _ _ _ _ _ us hl=>w8 hl λ_ _=>rfl) rfl rfl) ?_;refine And.intro (fe X G (T:=T) dg30 (by decide +kernel) (λ_ _ _ _ _ _ us hl=>w8 hl λ_ _=>rfl) rfl rfl) ?_;refine And.intro (fe X G (T:=T) dg31 (by decide +kernel) (λ_ _ _ _ _ _ us hl=>dt hl λ_ _ _=>rfl) rfl rfl) ?_;refine And.intro (fe X G (T:=T) dg32 (m:=["_law_things"]) (by decide +kernel) (λ_ _ _ _ _ _ us hl=>lR hl λ_=>rfl) rfl rfl) ?_
  trivial
 have ok:=vM (Rs:=Rs) (T:=T) (k:=10) (i:=32) (fd:=j1 (top 44) ["_law_things"]) (wF st fs 10) rfl FL rfl rfl (aT (by decide +kernel));exact FnOk.imp ok (lH yV)
theorem walk {l:PySem.W.OpenLaw} {q:Program} {loose:List Str} {XP:(Str->Option Value)->Heap->Prop} {YP:World->Heap->Prop} {d:DefRec} {K:Params->PySem.W.Frag} (hn:l.most=some 63) (hdf:d.params.defaults=[])
  (hY:∀ (w:World) (h:Heap),YP w h->(K w.params).In h)
  (F:∀ (w:World) (mg:Str->Option Value) (fa:Addr) (h:Heap),(K w.params).In h->h.Ns mainGlobals mg->mg d.name=some (.ref fa) ->
   ∃ fd:FuncData,(∀ (s:Shared) (u:Value),BindsTo s fd ⟨[u],[]⟩ [("_law_script",u)])/\∀ base:Heap,(K w.params).In base->base.Ns mainGlobals mg->FnOk l.prog w (K w.params) mg base CX0 14 fa fd ["_law_script"] (dZ (K w.params))) :
  PySem.W.WalkO q loose XP YP l.row.toRowW d [] (λf vs=>PySem.call f vs):=
 L2.walk_of (n:=63) (k:=14) (x:="_law_script") (CX:=λ_=>CX0) (sp:=λw=>dZ (K w.params)) hn (by decide) hdf ⟨λ_=>rfl,by decide,by decide,rfl⟩ hY F (λ_ _ a ns hl _ hS=>⟨a,ns,rfl,hS,λ_=>rfl⟩) λ_ _ _ _ _ z=>z
end L3.K23
open PySem PySem.W PyProof.Rows
set_option maxRecDepth 100000 in
set_option maxHeartbeats 0 in
theorem PySem.Challenge.cw_handnames_k23_whole_levels_carry_holds : PySem.Challenge.rw_handnames_k23_whole_levels_carry.Holds := by
 w_on;o_law;k_head;(case hw=>w_witness2)
 k_fill
 refine L3.K23.walk (l:=PySem.Challenge.rw_handnames_k23_whole_levels_carry) rfl rfl (λw h Y=>PySem.W.kIn_of Y) ?F
 case F=>
  intro w mg fa h KX G hmg;refine' L3.K23.all_mk KX G hmg ?_ ?_ ?_ ?_ ?_ ?_ ?_ ?_ ?_ ?_ ?_ ?_ ?_ ?_ ?_ ?_ ?_ ?_ ?_ ?_ ?_ ?_ ?_ ?_ ?_ ?_ ?_ ?_ ?_ ?_ ?_ ?_ ?_ ?_ ?_ ?_ ?_ ?_ ?_ ?_ ?_ ?_ ?_ ?_ ?_ ?_ ?_ ?_ ?_ ?_ ?_ ?_ ?_ ?_ ?_ ?_ ?_ ?_ ?_ ?_ ?_ ?_ ?_ ?_ ?_ ?_ ?_ ?_ ?_ ?_ ?_ ?_ ?_ ?_ ?_ ?_ ?_ ?_ ?_ ?_ ?_ ?_
  rotate_left 100
  iterate 42 k_is
  iterate 7 kernel_rfl
  iterate 33 (refine' L3.gf_mk ?a ?l ?c ?k;(case a=>k_is);(case l=>k_is);(case c=>k_is);(case k=>k_is))
end
