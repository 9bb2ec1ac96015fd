import PyProof.Rows.All
import Wide.All
import OpenK.AllK
import Wide.FinOn
import Lean
import PyProof.EqAt
import PyProof.EqKinds
import PyProof.TupleCall
import PyProof.CompUse
import PyProof.P3Eq
import PyProof.NeData
import PyProof.P3In
import PyProof.EnumMake
import PyProof.Draws
import PyProof.ConsumeWalk
import PyProof.Rows.SetFrom
import PyProof.SetRoads
import PyProof.Rows.SortWalk
import PyProof.ListRange
import PyProof.WalksMore
import PySem.Challenge.RW_handnames_k22_levels_judged
set_option Elab.async false
set_option linter.all false
set_option bootstrap.genMatcherCode false
set_option maxRecDepth 100000
set_option maxHeartbeats 4000000
local macro_rules (kind:=Lean.Parser.Command.declaration)
|s=>do
 if (s[1].isOfKind ``Lean.Parser.Command.definition||s[1].isOfKind ``Lean.Parser.Command.abbrev)&&s[0].getArgs.all (·.isNone) then return s.setArg 0 (<-`(command|noncomputable def x:=0)).raw[0]
 else Lean.Macro.throwUnsupported
local macro_rules|`(tactic|omega)=>`(tactic|first|with_reducible assumption|with_reducible exact Nat.le_refl _|exact Nat.zero_le _|exact Nat.succ_pos _|exact Nat.le_of_lt (by with_reducible assumption)|exact Nat.lt_succ_of_le (by with_reducible assumption)|exact Nat.le_trans (by with_reducible assumption) (by decide)|exact Nat.lt_of_le_of_lt (by with_reducible assumption) (by decide)|exact Nat.lt_of_lt_of_le (by with_reducible assumption) (by decide)|lia|omega +splitDisjunctions)
namespace PySem.W.Fast
def tw12185836904148356307:=0
def tw441696995136397527:=0
def tw2654656409173790254:=0
def tw5401434820285820622:=0
def tw14002772069252805283:=0
def tw17474369230045387272:=0
def tw11789889582470938461:=0
def tw7696961395120717428:=0
def tw13895926766954310780:=0
def tw5910129970233560509:=0
def tw13772747151737932423:=0
def tw13574215504948965133:=0
def tw11247596019088453351:=0
def tw3141313473056694770:=0
def tw2783742860103577720:=0
def tw2195010958217368260:=0
def tw6332902443328769606:=0
def tw629500422070437930:=0
def tw6842195360898473455:=0
def tw2012236872644894083:=0
def tw11060467032954843735:=0
def tw3764348145411014183:=0
def tw15213613709362970869:=0
def tw13889998827679429832:=0
def tw3819174686331772068:=0
def tw14880165043721479978:=0
def tw4808675777347614532:=0
def tw10890425068739589603:=0
def tw2533254611459463972:=0
def tw11945158407018583510:=0
def tw801575708003990180:=0
def tw728080735222948414:=0
def tw18226381756598614091:=0
def tw6764642616015741981:=0
def tw10938187996119467498:=0
def tw365414120900173433:=0
def tw5113438273452627568:=0
def tw14473561243184856234:=0
def tw14908261127952922557:=0
def tw10773403843666634847:=0
def tw10977085036119064385:=0
def tw12326496623725470910:=0
def tw9088621492121601713:=0
def tw6762213124105611197:=0
def tw8181878186294262401:=0
def tw3371595608314329625:=0
def tw10068686841504541239:=0
def tw5694787883041755712:=0
def tw1699647132184792508:=0
def tw644918816888973223:=0
def tw6855656535835274518:=0
def tw941603613528703646:=0
def tw10157229420926842909:=0
def tw3252671914332708522:=0
def tw7881203735590304277:=0
def tw6466037002236531316:=0
def tw9449357183426953795:=0
def tw9343069597162040768:=0
def tw7651331506655860575:=0
def tw13692766391058879800:=0
def tw12811549161251640588:=0
def tw15647331455317675292:=0
def tw505082018581914092:=0
def tw18322834691263934943:=0
def tw11422097411412459316:=0
def tw5420800097489808705:=0
def tw10618737246587706346:=0
def tw9547875942049877054:=0
def tw12186518511987956059:=0
def tw8390215143187233431:=0
def tw3453215391555468181:=0
def tw8933721062326479758:=0
def tw17631988535848284699:=0
def tw9097302554215830366:=0
def tw17564670422942426198:=0
def tw10825739773664434719:=0
def tw17074802716853063247:=0
def tw729711588655511535:=0
def tw11046205637333186800:=0
def tw17629053451537179362:=0
def tw11543704817961360361:=0
def tw5154165182367258406:=0
def tw735504112343951418:=0
def tw4620055145269080397:=0
def tw9552029468606633790:=0
def tw4439664917679604273:=0
def tw16459455892155507783:=0
def tw12285362097117504816:=0
def tw3337759312341138255:=0
def tw15447666156297669560:=0
def tw16257958230903405002:=0
def tw16510826963087977006:=0
def tw12964347123978506528:=0
def tw9852822358474067434:=0
def tw969113209663881296:=0
def tw10514696678019666037:=0
def tw2910138762727842582:=0
def tw14869127808836029642:=0
def tw4666728615798887943:=0
def tw4745237344436333710:=0
def tw12015223955097111506:=0
def tw12834572438780486367:=0
def tw13209239913844921087:=0
def tw7620348527556789371:=0
def tw6595366607936513338:=0
def tw9920538719082362727:=0
def tw3226770463392158641:=0
def tw6935304216700483513:=0
def tw13344878531873573237:=0
def tw8902159856824841981:=0
def tw3054230817377995843:=0
def tw7250518928969022608:=0
def tw3292708992199884521:=0
def tw2529748280987882965:=0
def tw4956614396309624245:=0
def tw4910799481637561749:=0
def tw7491853672145042138:=0
def tw18332042115003233383:=0
def tw7222531069407925169:=0
def tw3036702664834457565:=0
def tw6843406920960733968:=0
def tw9864297795768385041:=0
def tw9458028927642024360:=0
def tw14801629194926746214:=0
def tw11810946323839058902:=0
def tw11432454014325584551:=0
def tw5768411626912246232:=0
def tw3560199851904978527:=0
def tw11214080765720369960:=0
def tw3878107292731735353:=0
def tw2305951818941893284:=0
def tw15756440077654100159:=0
def tw10205920665835536734:=0
def tw6529962826778280459:=0
def tw15605507501929054750:=0
def tw1252284570385087277:=0
def tw1810050043986886785:=0
def tw12854762583152291663:=0
def tw5526988736606411140:=0
def tw16230593251445504460:=0
def tw13505677082869189581:=0
def tw13513303592216509884:=0
def tw10975917639058209253:=0
def tw154831343468396055:=0
def tw17749513186236315399:=0
def tw3699017976766295696:=0
def tw14509873097201294611:=0
def tw16651783858522253345:=0
def tw11523223070181281118:=0
def tw11492111266164569398:=0
def tw8009993333176559774:=0
def tw172988344244329877:=0
def tw8180426913361133273:=0
def tw10939705715077008477:=0
def tw10652934592885274255:=0
def tw719398689445209941:=0
def tw18122419716310836076:=0
def tw14451748008680316361:=0
def tw13741518402725897511:=0
def tw10539360554086491208:=0
def tw7874324284525483029:=0
def tw270358751767246704:=0
def tw12223208234767439166:=0
def tw384584400751639884:=0
def tw13433552429191449495:=0
def tw18061571580179389996:=0
def tw7568219629401184812:=0
def tw5929655480247340576:=0
def tw9079484868710564029:=0
def tw4803217902568692688:=0
def tw6213386276510806595:=0
def tw2272963943384677416:=0
def tw11656231287447969248:=0
def tw10505474492373443192:=0
def tw1927219528932062207:=0
def tw4450263516124642547:=0
def tw9424678895870521269:=0
def tw6876857107579127612:=0
def tw3666227505106004902:=0
def tw7129276006934286224:=0
def tw9586028357968650123:=0
def tw7131581556270504901:=0
def tw3075195001073543818:=0
def tw18009623893544336912:=0
def tw11703480776343903040:=0
def tw7601228799981624135:=0
def tw4169130401632389140:=0
def tw10674474546089930466:=0
def tw7462610001647755318:=0
def tw16184876709975944807:=0
def tw11306590341825048950:=0
def tw18184886183282993179:=0
def tw4484349420377134178:=0
def tw3739221413655366277:=0
def tw13899962407190071307:=0
def tw1360064641769570685:=0
def tw16859277693409117056:=0
def tw7080170356836673827:=0
def tw10989695758780233271:=0
def tw9591823710901625110:=0
def tw17879786701795278547:=0
def tw14405743598091788425:=0
def tw4365402753839217299:=0
def tw1982251585129309178:=0
def tw10695615154723888056:=0
def tw14503210837200886014:=0
def tw6203588173201092625:=0
def tw15721424113461971181:=0
def tw14841899745834212765:=0
def tw13612710196706677262:=0
def tw14308578175126292982:=0
def tw16143189094302175205:=0
def tw16641419233833292678:=0
def tw3054735060045215440:=0
def tw17921258466365250839:=0
def tw1540669577168509028:=0
def tw7831274033965659038:=0
def tw9285245060151588599:=0
def tw1516281861640828015:=0
def tw17578960343990280501:=0
def tw4380850779719550596:=0
def tw552029255343809665:=0
def tw7211041209778130213:=0
def tw18163474510906774043:=0
def tw4325277804706470674:=0
def tw16047347955288671072:=0
def tw10891564194052956266:=0
def tw12345104060469146518:=0
def tw15613460535376195782:=0
def tw4716193605444464443:=0
def tw4628485591983657098:=0
def tw10685036049104047373:=0
def tw13559661849763791207:=0
def tw16451373072124982930:=0
def tw4089988031938885759:=0
def tw2161963036527918531:=0
def tw2512862094744785523:=0
def tw2617368919186967518:=0
def tw14367325279794047646:=0
def tw12809206708510855760:=0
def tw16735453835779035326:=0
def tw13149520614473037331:=0
def tw14114602756542549222:=0
def tw6007375742523187351:=0
def tw17361427508984087656:=0
def tw10540317623338938347:=0
def tw16512835503226764439:=0
def tw7630067629099208835:=0
def tw13410666007404651683:=0
def tw9744234522337136445:=0
def tw10284859476178597253:=0
def tw16115474163001311747:=0
def tw3269314587901241423:=0
def tw3487692020602211288:=0
def tw6301164810810332755:=0
def tw3898269850369930636:=0
def tw2181925351568498000:=0
def tw8259020562605758790:=0
def tw5468664105383697862:=0
def tw10845074066450079149:=0
def tw12104546366125872568:=0
def tw3601366672417932970:=0
def tw10968992703393500949:=0
def tw15207414362815192241:=0
def tw3664548908606689940:=0
def tw3137308097929161694:=0
def tw3616273974316221502:=0
def tw13622041680301006626:=0
def tw18029979190717104151:=0
def tw2716339644609570396:=0
def tw13785735652090042015:=0
def tw8547548245316063950:=0
def tw12377682400986619508:=0
def tw13938347822495281891:=0
def tw7078702390037917342:=0
def tw10371029746998541139:=0
def tw5938376420583729791:=0
def tw2464624043502143163:=0
def tw13923269675350169432:=0
def tw12591056499322089164:=0
def tw4941306016036875983:=0
def tw10329373856885449065:=0
def tw12121442659022301346:=0
def tw2635255453881871835:=0
def tw92572491671476837:=0
def tw8898200670844748011:=0
def tw11949413680788076137:=0
def tw17981264346877296224:=0
def tw15015726510559980496:=0
def tw14267510056722821559:=0
def tw14820164277052367919:=0
def tw16880275931357101663:=0
def tw13768650002311022489:=0
def tw9653196630057619709:=0
def tw1097585133711109532:=0
def tw585167436067515050:=0
def tw17545045425524333455:=0
def tw5548634222317515093:=0
def tw5370028687148257187:=0
def tw3513602571759952190:=0
def tw5821953045273835298:=0
def tw11011659102113841815:=0
def tw2664101275329655876:=0
def tw260982147872772892:=0
end PySem.W.Fast
def Ej:=@PySem.wpAny_bind
def Ek:=@PySem.wpAny_pure
def El:=@PySem.Heap.get?_push_of_some
def Em:=@List.getElem?_eq_getElem
def En:=@List.length_map
def Eo:=@List.getElem?_eq_some_iff
def Ep:=@Bool.and_eq_true
def Er:=@Bool.false_ne_true
def Es:=@Nat.le_refl
def Et:=@List.getElem?_append_left
def Eu:=@PySem.Heap.get?_push_size
def Ew:=@PySem.Heap.lt_size
def Ex:=@Nat.ne_of_lt
def Ey:=@List.size_toArray
def Ez:=@List.mem_cons
def Fa:=@decide_eq_true
def Fc:=@List.getD_eq_getElem?_getD
def Fe:=@List.mem_cons_self
def Ff:=@List.getElem?_set_ne
def Fg:=@List.mem_cons_of_mem
def Fh:=@decide_eq_true_eq
def Fi:=@List.all_eq_true
def Fk:=@List.mem_of_getElem?
def Fm:=@List.mem_append_right
def Fn:=@Nat.lt_of_lt_of_le
def Fo:=@List.mem_append
def Fp:=@PySem.sizeLine_eq
def Fq:=@List.mem_range
def Fs:=@List.map_cons
def Ft:=@PySem.wpAny_newObj_type
def Fu:=@List.length_range
def Fv:=@decide_eq_false
def Fy:=@List.mem_singleton
def Fz:=@List.getElem?_map
def FA:=@List.getElem?_set_self
def FB:=@Nat.lt_succ_self
def FC:=@Array.length_toList
def FD:=@Nat.le_trans
def FE:=@PySem.Heap.get?_update_self
def FF:=@List.getElem?_append_right
def FG:=@of_decide_eq_true
def FH:=@Nat.lt_succ_of_lt
def FI:=@PySem.wpAny_mono
def FJ:=@Nat.zero_le
def FK:=@List.getElem_mem
def FM:=@List.append_nil
def FN:=@List.length_append
def FO:=@List.getElem?_eq_none
def FP:=@PySem.wpAny_callSpecial?_slot
def FQ:=@Option.isNone_iff_eq_none
def FR:=@Option.some.inj
def FS:=@PySem.wpAny_call_entry
def FT:=@PySem.Heap.size_push
def FU:=@PySem.wpAny_holding
def FV:=@List.all_cons
def FW:=@PyProof.Rows.slot_tuple_getitem
def FX:=@List.mem_map
def FY:=@PySem.wpAny_Call_Name_kw
def FZ:=@PySem.Heap.SameBut.update
def Ga:=@PyProof.Rows.callWith_type1
def Gb:=@Nat.le_succ
def Gc:=@PySem.lookup_relabel_local
def Gd:=@List.map_append
def Ge:=@List.not_mem_nil
def Gf:=@PySem.wpAny_field
def Gg:=@Bool.not_eq_true'
def Gh:=@Option.isSome_iff_exists
def Gi:=@PySem.codeAny_mono
def Gj:=@PySem.Heap.get?_update_other
def Gk:=@PySem.wpAny_setField
def Gn:=@Int.toNat_natCast
def Go:=@List.mem_filter
def Gp:=@PySem.codeAny_builtin
def Gq:=@Array.getElem?_toList
def Gr:=@List.length_filter_le
def Gs:=@PyProof.Rows.callWith_builtin1
def Gu:=@PySem.W.mg_of
def Gv:=@Int.eq_ofNat_of_zero_le
def Gw:=@PySem.W.kia_one
def Gx:=@List.replicate_succ
def Gy:=@List.getElem_of_mem
def Gz:=@PyProof.Rows.F.plain_set_update_loop
def GA:=@List.map_map
def GC:=@List.any_cons
def GD:=@List.length_take
def GE:=@List.length_cons
def GG:=@PySem.wpAny_pyIter_tuple
def GH:=@List.pairwise_cons
def GI:=@Array.getElem?_eq_getElem
def GJ:=@PySem.wpAny_passesOwn
def GK:=@List.nodup_cons
def GL:=@List.find?_cons
def GM:=@PySem.codeAny_call_builtin
def GN:=@PySem.wpAny_setState_of
def GO:=@PySem.Around.under_plainId
def GP:=@List.take_succ_eq_append_getElem
def GQ:=@List.filterMap_cons
def GR:=@PySem.mem_of_lookup
def GS:=@PySem.wpAny_setEntries_of
def GT:=@List.lookup_cons
def GU:=@PySem.Calls.spliced_cons
def GV:=@PySem.wpAny_call
def GW:=@Option.map_eq_some_iff
def GX:=@Bool.false_eq_true
def GY:=@List.take_of_length_le
def GZ:=@PySem.PyData.shownAll_length
def Ha:=@List.length_pos_of_mem
def Hb:=@PySem.wpAny_execs_nil
def Hc:=@Bool.eq_iff_iff
def He:=@List.forIn_cons
def Hf:=@List.countP_eq_length_filter
def Hg:=@Nat.lt_irrefl
def Hh:=@List.getElem?_toArray
def Hi:=@PySem.wpAny_truthy_bool
def Hj:=@PySem.Calls.spliced_nil
def Hk:=@List.flatten_cons
def Hl:=@List.reverse_cons
def Hm:=@PySem.call_meets
def Ho:=@List.mem_iff_getElem
def Hq:=@List.length_drop
def Hr:=@PySem.wpAny_typeOf
def Hs:=@Nat.le_of_not_lt
def Ht:=@Option.bind_some
def Hu:=@List.countP_cons
def Hv:=@PySem.wpAny_binaryOp_repeat_ref
def Hw:=@List.getElem?_eq_none_iff
def Hx:=@List.mem_or_eq_of_mem_set
def Hy:=@PySem.Heap.get?_update_ne
def Hz:=@PyProof.Rows.F.entry_set_update_loop
def HA:=@List.filter_eq_self
def HB:=@PySem.wpAny_standAt
def HC:=@PySem.F.args_tuple_add_2
def HD:=@PySem.wpAny_comprehension_free
def HE:=@PySem.wpAny_attempt
def HF:=@List.length_erase_of_mem
def HG:=@Bool.and_self
def HH:=@PySem.W.callWith_K
def HI:=@List.filterMap_map
def HJ:=@Int.emod_lt_of_pos
def HK:=@List.filter_append
def HL:=@List.getElem?_replicate
def HM:=@PySem.F.entry_tuple_add
def HN:=@List.length_eq_zero_iff
def HP:=@List.filter_cons_of_neg
def HQ:=@Nat.le_of_lt
def HR:=@Nat.ne_of_gt
def HS:=@List.take_sublist
def HU:=@PySem.F.slot_tuple_add
def HV:=@List.append_assoc
def HW:=@PySem.codeAny_compStart_list
def HX:=@PySem.PyData.noDict_hsm
def HY:=@List.nodup_append
def HZ:=@PySem.wpAny_pyIter_enum
def Ia:=@or_false
def Ib:=@List.pairwise_map
def Ic:=@Array.getElem?_eq_none
def Ie:=@List.length_replicate
def Ig:=@List.Pairwise.sublist
def Ih:=@beq_iff_eq
def Ii:=@PySem.typeIs_int
def Ij:=@PySem.wpAny_rule
def Ik:=@List.ext_getElem
def Il:=@PySem.wpAny_askSetting
def Im:=@Bool.and_true
def Io:=@PySem.wpAny_newFunctionEnv
def Ip:=@List.mem_of_mem_tail
def Iq:=@Array.getElem_toList
def Ir:=@List.mem_erase_of_ne
def Iu:=@PySem.codeAny_of_tree
def Iv:=@Bool.or_eq_true
def Iw:=@PyProof.Rows.entry_list_sort
def Ix:=@List.find?_some
def Iy:=@Int.emod_nonneg
def Iz:=@List.range_succ
def IA:=@PyProof.Rows.entry_tuple_getitem
def IB:=@beq_eq_false_iff_ne
def IC:=@List.map_congr_left
def ID:=@List.length_reverse
def IE:=@List.filter_sublist
def IF:=@PyProof.Rows.slot_list_sort
def IG:=@PyProof.Rows.list_sort_tree
def IH:=@PyProof.Rows.args_list_sort
def II:=@PySem.Calls.Name_function_global
def IJ:=@PyProof.Rows.slicePart_none
def IK:=@PyProof.Rows.args_tuple_getitem
def IL:=@PySem.Heap.IsSliceOf.new
def IM:=@List.forIn_nil
def IN:=@PyProof.Rows.isRef_of_reads
def IP:=@PySem.wpAny_loadPart
def IQ:=@PySem.F.excBase_ValueError
def IR:=@PySem.wpAny_seqItems
def IS:=@PySem.wpAny_runValue
def IT:=@PySem.wpAny_fieldsOf
def IU:=@PyProof.Rows.listItems_at
def IV:=@PySem.Calls.call_function_entry
def IW:=@PyProof.Rows.plain_sorted
def IY:=@PyProof.Rows.entry_sorted
def IZ:=@PyProof.Rows.args_sorted1
def Ja:=@List.any_eq_false
def Jb:=@PySem.wpAny_sequenceKey
def Jc:=@PySem.wpAny_pyIter_list
def Jd:=@List.drop_sublist
def Je:=@PyProof.Rows.tupleItemsOf_
def Jf:=@PySem.wpAny_getItem_list_slice
def Jg:=@PySem.strLen_append
def Jh:=@PyProof.Rows.kind_sorted
def Ji:=@PySem.plainId_quiet
def Jj:=@PySem.F.slot_tuple_count
def Jk:=@PySem.wpAny_execs_cons
def Jl:=@PySem.noFill_tuple_add
def Jm:=@Nat.succ_ne_self
def Jn:=@PySem.F.plainAttrs_list
def Jo:=@PyProof.Rows.size_push'
def Jp:=@PySem.F.entry_type_call
def Jq:=@PySem.wpAny_isInstance
def Jr:=@PySem.F.plain_list_iadd
def Js:=@Int.ne_of_gt
def Jt:=@Int.le_trans
def Ju:=@List.of_mem_zip
def Jv:=@List.length_nil
def Jw:=@Option.map_some
def Jx:=@Nat.not_lt_zero
def Jy:=@List.countP_map
def Jz:=@PySem.wpAny_alloc
def JA:=@PySem.wpAny_of_eq
def JB:=@PySem.isSubtype_type
def JC:=@Bool.and_false
def JD:=@LawfulBEq.eq_of_beq
def JE:=@PySem.seq_tuple_add
def JF:=@PySem.evalPart_none
def JG:=@PySem.wpAny_newList
def JH:=@PySem.wpAny_load
def JI:=@if_true
namespace L2
open PySem PySem.Spec PyProof.Rows
abbrev Key:=Sum Int Str
def ci:Key->Value->Bool
 | .inl k,v=>Value.isInt k v
 | .inr x,v=>Value.isStrOf x v
def DS (w:World):Key->Int
 | .inl k=>hashInt k
 | .inr x=>hashStr w x
theorem j3:∀ {k:Key} {v:Value},ci k v=true->(∃ i t,k=Sum.inl i/\v=Value.int i t)\/(∃ x t,k=Sum.inr x/\v=Value.str x t)
 | .inl i,v,h=>by
  obtain ⟨t,e⟩:=Value.isInt_shape h;exact .inl ⟨i,t,rfl,e⟩
 | .inr x,v,h=>by
  obtain ⟨t,e⟩:=Value.isStrOf_shape h;exact .inr ⟨x,t,rfl,e⟩
theorem mF (i:Int) (t:Tok):ci (.inl i) (.int i t)=true:=by simp [ci,Value.isInt]
theorem lD (x:Str) (t:Tok):ci (.inr x) (.str x t)=true:=by simp [ci,Value.isStrOf]
theorem wy (a b:Int):decide ((Sum.inl a:Key)=Sum.inl b)=(a==b):=by grind
theorem yQ (a b:Str):decide ((Sum.inr a:Key)=Sum.inr b)=decide (a=b):=by grind
theorem xQ (a:Int) (b:Str):decide ((Sum.inl a:Key)=Sum.inr b)=false:=by grind
theorem xC (a:Str) (b:Int):decide ((Sum.inr a:Key)=Sum.inl b)=false:=by grind
def k0 (prog:Program) (w:World):PySem.KeyKind prog w Key where
 is:=ci
 hash:=DS w
 inj:=λv a b f d=>by
  rcases j3 f with ⟨i,t,rfl,rfl⟩ | ⟨x,t,rfl,rfl⟩
  ·rcases j3 d with ⟨j,u,rfl,e⟩ | ⟨y,u,rfl,e⟩
   ·grind
   ·exact nomatch e
  ·rcases j3 d with ⟨j,u,rfl,e⟩ | ⟨y,u,rfl,e⟩
   ·exact nomatch e
   ·grind
 byValue:=λk v h=>by
  rcases j3 h with ⟨i,t,rfl,rfl⟩ | ⟨x,t,rfl,rfl⟩ <;> rfl
 pyHash:=λc h=>by
  rcases j3 c with ⟨i,t,rfl,rfl⟩ | ⟨x,t,rfl,rfl⟩
  ·exact wpAny_pyHash_int h
  ·exact wpAny_pyHash_str h
 eqBool:=λg c h=>by
  rcases j3 g with ⟨i,t,rfl,rfl⟩ | ⟨x,t,rfl,rfl⟩
  ·rcases j3 c with ⟨j,u,rfl,rfl⟩ | ⟨y,u,rfl,rfl⟩
   ·rw [wy] at h;exact wpAny_eqBool_int h
   ·rw [xQ] at h;exact SeqAt.EqAt.int_str i t y u _ _ _ _ h
  ·rcases j3 c with ⟨j,u,rfl,rfl⟩ | ⟨y,u,rfl,rfl⟩
   ·rw [xC] at h;exact SeqAt.EqAt.str_int x t j u _ _ _ _ h
   ·rw [yQ] at h;exact wpAny_eqBool_str h
 «strs»:=λk x t v h=>by
  rcases j3 h with ⟨i,u,rfl,e⟩ | ⟨y,u,rfl,e⟩
  ·exact nomatch e
  ·injection e with e1 _;subst e1;cases v <;> rfl
theorem eP (prog:Program) (w:World) (i:Int) (t:Tok):(k0 prog w).is (.inl i) (.int i t)=true:=mF i t
theorem eZ (prog:Program) (w:World) (x:Str) (t:Tok):(k0 prog w).is (.inr x) (.str x t)=true:=lD x t
inductive V where
 | non | bl (b:Bool) | int (i:Int) | str (x:Str) | byt (b:Array UInt8) | flt (b:UInt64) | ref (a:Addr) | ty (n:String)
 deriving DecidableEq
def RelV:V->Value->Prop
 | .non,u=>u=Value.none
 | .bl b,u=>u=Value.bool b
 | .int i,u=>∃ t,u=Value.int i t
 | .str x,u=>∃ t,u=Value.str x t
 | .byt b,u=>∃ t,u=Value.bytes b t
 | .flt b,u=>∃ t,u=Value.float b t
 | .ref a,u=>u=Value.ref a
 | .ty n,u=>u=Value.type n
abbrev Vals:List V->List Value->Prop:=Paired RelV
theorem Vals.length (r:Vals xs us):xs.length=us.length:=Paired.length r
theorem Vals.get:∀ {xs:List V} {us:List Value} {i:Nat} {x:V},Vals xs us->xs[i]?=some x->∃ u,us[i]?=some u/\RelV x u
 | _,_,_,_,.nil,e=>by simp at e
 | _,_,0,_,.cons r _,e=>by simp at e;subst e;exact ⟨_,rfl,r⟩
 | _,_,i+1,x,.cons _ t,e=>by
  obtain ⟨u,b,a⟩:=Vals.get t (by simpa using e);exact ⟨u,by simpa using b,a⟩
theorem Vals.set (r:RelV x u):∀ {xs:List V} {us:List Value} (i:Nat),Vals xs us->Vals (xs.set i x) (us.set i u)
 | _,_,_,.nil=>.nil
 | _,_,0,.cons _ t=>.cons r t
 | _,_,i+1,.cons q t=>.cons q (Vals.set r i t)
theorem Vals.append:∀ {xs ys:List V} {us ws:List Value},Vals xs us->Vals ys ws->Vals (xs++ys) (us++ws)
 | _,_,_,_,.nil,s=>s
 | _,_,_,_,.cons r t,s=>.cons r (Vals.append t s)
theorem Vals.take:∀ {xs:List V} {us:List Value} (n:Nat),Vals xs us->Vals (xs.take n) (us.take n)
 | _,_,0,_=>.nil
 | _,_,_+1,.nil=>.nil
 | _,_,n+1,.cons r t=>.cons r (Vals.take n t)
theorem Vals.drop:∀ {xs:List V} {us:List Value} (n:Nat),Vals xs us->Vals (xs.drop n) (us.drop n)
 | _,_,0,r=>r
 | _,_,_+1,.nil=>.nil
 | _,_,n+1,.cons _ t=>Vals.drop n t
def RelO:Option V->Option Value->Prop
 | some v,some u=>RelV v u
 | none,none=>True
 | _,_=>False
def KV {κ:Type}:List (κ×V)->List (κ×Value)->Prop:=Paired λ(p:κ×V) (q:κ×Value)=>p.1=q.1/\RelV p.2 q.2
def kV:Key->V
 | .inl i=>.int i
 | .inr x=>.str x
inductive HO where
 | lst (xs:List V)
 | tup (xs:List V)
 | dK (kvs:List (Key×V)) | dT (kvs:List (List Key×V))
 | set (S:Int->Bool) (n:Nat)
 | ins (C dx:Addr) (fs:List (Str×V))
 | own (x:Addr)
 | xd (fs:List (Str×V))
 | met (f x:Addr)
 | rng (lo hi:Int)
 | frz (o:Obj) (u:HO)
 | tbl (ps:Array Value)
 | ext (φ:Heap->Prop)
abbrev Hp:=Addr->Option HO
def upd (H:Hp) (a:Addr) (o:HO):Hp:=λb=>if b=a then some o else H b
theorem b6:upd H a o a=some o:=by unfold upd;rw [if_pos rfl]
theorem a8 {a b:Addr} {o:HO} (h:b≠a):upd H a o b=H b:=by unfold upd;rw [if_neg h]
theorem jR {H:Hp} {a b:Addr} {o u:HO} (h:H a=some o) (h':H b=some u) (d:o≠u):a≠b:=by grind
theorem b8 {H:Hp} {a b:Addr} {o:HO} (h:H a=some o) (h':H b=none):a≠b:=by grind
def TupN (h:Heap) (a:Addr) (items:Array Value):Prop:=∃ o,h.get? a=some o/\o.cls=.type "tuple"/\∃ n,o.data=.seq items n/\o.dict=none
theorem TupN.is (x:TupN h a items):IsTup h a items:=let ⟨o,e,c,n,d,_⟩:=x;⟨o,e,c,n,d⟩
theorem TupN.new (h:Heap) (items:Array Value):TupN (h.push { cls:=.type "tuple",data:=.seq items }) h.objs.size items:=⟨_,Eu _ rfl,rfl,_,rfl,rfl⟩
section
variable (P:Program) (w:World)
def ObjOk (H:Hp) (h:Heap) (a:Addr):HO->Prop
 | .lst xs=>xs.length<=sizeLine/\∃ (b:List Value) (n:Nat),Vals xs b/\h.get? a=some { cls:=.type "list",data:=.seq b.toArray n }
 | .tup xs=>xs.length<=sizeLine/\∃ b:List Value,Vals xs b/\TupN h a b.toArray
 | .dK c=>c.length<=sizeLine/\(a==sysModules)=false/\∃ vs,KV c vs/\h.DictOf (k0 P w) a vs
 | .dT c=>c.length<=sizeLine/\(a==sysModules)=false/\∃ xs:List (List Key×Addr×Value),
   Paired (λ(p:List Key×V) (q:List Key×Addr×Value)=>p.1=q.1/\H q.2.1=some (.tup (p.1.map kV))/\RelV p.2 q.2.2) c xs /\
   ∃ o es k,h.get? a=some o/\o.ExactDict/\o.data=.dict es k/\es.toList=xs.map (entryOfKey (tupleKind (k0 P w)))/\(xs.map (·.1)).Nodup
 | .set S n=>h.SetOf (intKind P w) a S n
 | .ins C d fs=>H d=some (.own a)/\fs.length<=1000/\d≠a/\h.get? a=some (PySem.W.instObj C d) /\
   ∃ mA,h.Ns1 d mA/\(∀ f,RelO (fs.lookup f) (mA f))/\PySem.Within mA (fs.map (·.1))
 | .own _=>∃ o,h.get? a=some o
 | .xd fs=>∃ mA,h.Ns1 a mA/\∀ f,RelO (fs.lookup f) (mA f)
 | .rng lo j=>∃ t u v,h.get? a=some { cls:=.type "range",data:=.fields #[.int lo t,.int j u,.int 1 v] }
 | .frz o u=>h.get? a=some o/\ObjOk H h a u
 | .tbl ps=>h.get? a=some { cls:=.none,data:=.fields ps }
 | .met f x=>h.get? a=some (PySem.W.methodObj (.ref f) (.ref x))
 | .ext e=>e h/\(∃ o,h.get? a=some o)/\∀ g i:Heap,e g->(∀ o,g.get? a=some o->i.get? a=some o)->e i
def HOk (H:Hp) (h:Heap):Prop:=∀ a o,H a=some o->ObjOk P w H h a o
end
section
variable {P:Program} {w:World} {H H':Hp} {h h':Heap} {a:Addr} {o:HO}
theorem ObjOk.lt (x:ObjOk P w H h a o):a<h.objs.size:=by
 cases o with
 | lst xs=>obtain ⟨_,_,_,_,e⟩:=x;exact Ew e
 | tup xs=>obtain ⟨_,_,_,p⟩:=x;exact p.is.lt
 | dK kvs=>obtain ⟨_,_,_,_,o,_,_,e,_⟩:=x;exact Ew e
 | dT kvs=>obtain ⟨_,_,_,_,o,_,_,e,_⟩:=x;exact Ew e
 | set S n=>obtain ⟨o,_,_,_,e,_⟩:=x;exact Ew e
 | ins C dx fs=>obtain ⟨_,_,_,e,_⟩:=x;exact Ew e
 | own y=>obtain ⟨_,e⟩:=x;exact Ew e
 | xd fs=>obtain ⟨_,⟨_,_,_,e,_⟩,_⟩:=x;exact Ew e
 | rng lo hi=>obtain ⟨_,_,_,e⟩:=x;exact Ew e
 | frz ob u=>obtain ⟨e,_⟩:=x;exact Ew e
 | tbl ps=>exact Ew (x)
 | met f y=>exact Ew (x)
 | ext φ=>obtain ⟨_,⟨_,e⟩,_⟩:=x;exact Ew e
theorem Paired.mapP:∀ {c:List α} {d:List β},Paired F c d->(∀ a b,F a b->G a b)->Paired G c d
 | _,_,.nil,_=>.nil
 | _,_,.cons r t,f=>.cons (f _ _ r) (Paired.mapP t f)
theorem ObjOk.stay (x:ObjOk P w H h a o) (k:∀ b u,(b=a\/H b=some (.own a))->h.get? b=some u->h'.get? b=some u)
  (ho:∀ b,H b=some (.own a)->H' b=some (.own a)) (ht:∀ b xs,H b=some (.tup xs)->H' b=some (.tup xs)):ObjOk P w H' h' a o:=by
 induction o with
 | lst xs=>obtain ⟨z,its,n,r,e⟩:=x;exact ⟨z,its,n,r,k _ _ (.inl rfl) e⟩
 | tup xs=>obtain ⟨z,its,r,ob,e,c⟩:=x;exact ⟨z,its,r,ob,k _ _ (.inl rfl) e,c⟩
 | dK kvs=>obtain ⟨z,y,vs,r,ob,es,ep,e,c⟩:=x;exact ⟨z,y,vs,r,ob,es,ep,k _ _ (.inl rfl) e,c⟩
 | dT kvs=>
  obtain ⟨z,y,xs,r,ob,es,ep,e,c⟩:=x;exact ⟨z,y,xs,Paired.mapP r λp q z=>⟨z.1,ht _ _ z.2.1,z.2.2⟩,ob,es,ep,k _ _ (.inl rfl) e,c⟩
 | set S n=>obtain ⟨ob,es,ep,t,e,c⟩:=x;exact ⟨ob,es,ep,t,k _ _ (.inl rfl) e,c⟩
 | ins C dx fs=>
  obtain ⟨d,z,ne,e,mA,⟨od,es,ep,e2,c⟩,r⟩:=x;exact ⟨ho _ d,z,ne,k _ _ (.inl rfl) e,mA,⟨od,es,ep,k _ _ (.inr d) e2,c⟩,r⟩
 | own y=>obtain ⟨ob,e⟩:=x;exact ⟨ob,k _ _ (.inl rfl) e⟩
 | xd fs=>obtain ⟨mA,⟨od,es,ep,e,c⟩,r⟩:=x;exact ⟨mA,⟨od,es,ep,k _ _ (.inl rfl) e,c⟩,r⟩
 | rng lo hi=>obtain ⟨t,u,v,e⟩:=x;exact ⟨t,u,v,k _ _ (.inl rfl) e⟩
 | frz ob u ih=>obtain ⟨e,q⟩:=x;exact ⟨k _ _ (.inl rfl) e,ih q⟩
 | tbl ps=>
  have e:=x;exact k a _ (.inl rfl) e
 | met f y=>
  have e:=x;exact k a _ (.inl rfl) e
 | ext φ=>obtain ⟨p,⟨o,e⟩,st⟩:=x;exact ⟨st _ _ p λo q=>k _ _ (.inl rfl) q,⟨o,k _ _ (.inl rfl) e⟩,st⟩
theorem HOk.lt (x:HOk P w H h) (e:H a=some o):a<h.objs.size:=(x a o e).lt
theorem HOk.fresh (x:HOk P w H h) (e:h.objs.size<=a):H a=none:=by
 cases q:H a with
 | none=>rfl
 | some u=>exact absurd (Fn (x.lt q) e) (Hg _)
theorem HOk.kept (x:HOk P w H h) (k:∀ b u,h.get? b=some u->h'.get? b=some u):HOk P w H h':=λa o e=>
 (x a o e).stay (λb u _ q=>k b u q) (λ_ q=>q) λ_ _ q=>q
theorem HOk.laid (x:HOk P w H h) (k:∀ b u,h.get? b=some u->h'.get? b=some u) (i:h.objs.size<=a) (d:ObjOk P w (upd H a o) h' a o):HOk P w (upd H a o) h':=λb u e=>by
 have g:=x.fresh i;by_cases f:b=a
 ·subst f;rw [b6] at e;cases e;exact d
 ·rw [a8 f] at e;exact (x b u e).stay (λc v _ q=>k c v q) (λc q=>by rw [a8 (b8 q g)];exact q) λc xs q=>by rw [a8 (b8 q g)];exact q
end
def Rd (H:Hp) (a:Addr) (u:HO):Prop:=H a=some u\/∃ o,H a=some (.frz o u)
theorem Rd.ok {H:Hp} {h:Heap} {a:Addr} {u:HO} (r:Rd H a u) (x:HOk P w H h):ObjOk P w H h a u:=by
 rcases r with r | ⟨o,r⟩
 ·exact x a u r
 ·obtain ⟨_,q⟩:=x a _ r;exact q
def Mut:Option HO->Prop
 | some (.lst _)=>True
 | some (.dK _)=>True
 | some (.dT _)=>True
 | some (.set _ _)=>True
 | some (.ins _ _ _)=>True
 | some (.ext _)=>True
 | _=>False
section
variable {P:Program} {w:World} {H:Hp} {h h':Heap} {x e:Addr} {o':HO}
theorem HOk.write (s:HOk P w H h) (g:Mut (H x)) (o:e=x\/H e=some (.own x)) (k:∀ b u,b≠e->h.get? b=some u->h'.get? b=some u) (i:∃ u,h'.get? e=some u)
  (j:ObjOk P w (upd H x o') h' x o'):HOk P w (upd H x o') h':=λb u q=>by
 have f:∀ c y,H c=some (.own y)->c≠x:=λc y r z=>by subst z;rw [r] at g;exact g
 have d:∀ c xs,H c=some (.tup xs)->c≠x:=λc xs r z=>by subst z;rw [r] at g;exact g
 by_cases l:b=x
 ·subst l;rw [b6] at q;cases q;exact j
 ·rw [a8 l] at q;by_cases a:b=e
  ·have n:H b=some (.own x):=by
    rcases o with z | z
    ·grind
    ·rw [a];exact z
   rw [q] at n;cases n;obtain ⟨v,p⟩:=i;exact ⟨v,by rw [a];exact p⟩
  ·refine (s b u q).stay (λc v m r=>k c v ?_ r) (λc r=>by rw [a8 (f c b r)];exact r) λc xs r=>by rw [a8 (d c xs r)];exact r
   rcases m with rfl | m
   ·exact a
   ·grind
end
structure Un (fs ex:List Addr) (H H':Hp) (h h':Heap):Prop where
 keep:∀ b o,h.get? b=some o->H b=none->b∉fs->b∉ex->h'.get? b=some o
 slot:∀ b o,h.get? b=some o->H b=none->b∈fs->b∉ex->∃ sl,h'.get? b=some { o with slots:=sl }
 free:∀ b o,h.get? b=some o->H b=none->b∉ex->H' b=none
 there:∀ b o,h.get? b=some o->b∉ex->∃ o',h'.get? b=some o'
 tups:∀ b xs,H b=some (.tup xs)->H' b=some (.tup xs)
 frzs:∀ b o u,H b=some (.frz o u)->H' b=some (.frz o u)
 tbls:∀ b ps,H b=some (.tbl ps)->∃ more,H' b=some (.tbl (ps++more))
section
variable {fs fs' ex ex':List Addr} {H H1 H2:Hp} {h h1 h2 h':Heap} {a x e:Addr} {o:HO}
theorem Un.any (u:Un fs ex H H1 h h1) {b:Addr} {ob:Obj} (q:h.get? b=some ob) (n:H b=none) (c:b∉ex):∃ d,h1.get? b=some { ob with slots:=d }:=by
 by_cases a:b∈fs
 ·exact u.slot b ob q n a c
 ·exact ⟨ob.slots,u.keep b ob q n a c⟩
theorem Un.kept (k:∀ b u,h.get? b=some u->h'.get? b=some u):Un fs ex H H h h':=
 ⟨λb ob q _ _ _=>k b ob q,λb ob q _ _ _=>⟨ob.slots,k b ob q⟩,λ_ _ _ n _=>n,λb ob q _=>⟨ob,k b ob q⟩,λ_ _ q=>q,λ_ _ _ q=>q,λ_ ps q=>⟨#[],by rw [q];simp⟩⟩
theorem Un.refl:Un fs ex H H h h:=Un.kept λ_ _ q=>q
theorem Un.laid (k:∀ b u,h.get? b=some u->h'.get? b=some u) (d:h.objs.size<=a) (c:H a=none):Un fs ex H (upd H a o) h h' where
 keep:=λb u q _ _ _=>k b u q
 slot:=λb u q _ _ _=>⟨u.slots,k b u q⟩
 free:=λb u q n _=>by rw [a8 (Ex (Fn (Ew q) d))];exact n
 there:=λb u q _=>⟨u,k b u q⟩
 tups:=λb xs q=>by rw [a8 (b8 q c)];exact q
 frzs:=λb u xs q=>by rw [a8 (b8 q c)];exact q
 tbls:=λb ps q=>⟨#[],by rw [a8 (b8 q c),q];simp⟩
theorem Un.write (a:Mut (H x)) (i:e=x\/H e=some (.own x)) (k:∀ b u,b≠e->h.get? b=some u->h'.get? b=some u) (g:∃ u,h'.get? e=some u):Un fs ex H (upd H x o) h h':=by
 have d:∀ b,H b=none->b≠x:=λb n z=>by subst z;rw [n] at a;exact a
 have f:∀ b,H b=none->b≠e:=λb n z=>by
  subst z;rcases i with r | r
  ·exact d b n r
  ·rw [n] at r;cases r
 have c:∀ b u,H b=some u->¬ Mut (some u)->b≠x:=λb u q j z=>by subst z;rw [q] at a;exact j a
 refine ⟨λb u q n _ _=>k b u (f b n) q,λb u q n _ _=>⟨u.slots,k b u (f b n) q⟩,λb u q n _=>by rw [a8 (d b n)];exact n,λb u q _=>?_,
  λb xs q=>by rw [a8 (c b _ q λz=>z)];exact q,λb u xs q=>by rw [a8 (c b _ q λz=>z)];exact q,λb ps q=>⟨#[],by rw [a8 (c b _ q λz=>z),q];simp⟩⟩
 grind
end
def trk (h:Heap) (H:Hp):List Addr:=(List.range h.objs.size).filter λa=>(H a).isSome
def eL (h:Heap) (H:Hp):Heap:=PySem.W.hideAll h (trk h H)
theorem kc (h:Heap) (H:Hp):(eL h H).objs.size=h.objs.size:=PySem.W.hideAll_size _ _
theorem pj {H:Hp} {b:Addr} {o:Obj} (e:h.get? b=some o) (n:H b=none):(eL h H).get? b=some o:=
 PySem.W.hideAll_get _ e λa=>by
  have q:=(Go.mp a).2;rw [n] at q;simp at q
theorem rm (e:(eL h H).get? b=some o):h.get? b=some o/\H b=none:=by
 have a:=PySem.W.of_hideAll (trk h H) e;refine ⟨a,?_⟩;cases q:H b with
 | none=>rfl
 | some x=>
  have c:b∈trk h H:=Go.mpr ⟨Fq.mpr (Ew a),by simp [q]⟩;have z:(eL h H).get? b=none:=PySem.W.hideAll_none (trk h H) c;rw [z] at e;cases e
structure Mod (K:PySem.W.Frag) (mg:Str->Option Value) (base:Heap):Prop where
 kin:K.In base
 glob:base.Ns mainGlobals mg
 blt:∃ mb,base.Ns builtinsNs mb/\∀ x:Str,x ≠ "__name__"->mb x=bootBuiltins x
 nolimit:base.NoLimit
structure Cx where
 prog:Program
 w:World
 K:PySem.W.Frag
 mg:Str->Option Value
 base:Heap
 A:Around
 N:List Str
 s₀:Shared
 H₀:Hp
 env:Env
 outer:List Env
 stack:List Env
 ex:List Addr
 fn:Str->Bool
 calm:Bool
 pn:List (Addr×Obj)
 xe:Value->Shared->Prop
def frs (l:List Env):List Addr:=l.filterMap (·.frame)
abbrev Cx.fs (X:Cx):List Addr:=frs X.outer
def Vis (a:Scope) (x:Str):Prop:=a.names.lookup x=some .local\/a.names.lookup x=some .cell\/a.names.lookup x=some .free
def Loc (a:Scope) (x:Str):Prop:=a.names.lookup x=some .local\/a.names.lookup x=some .cell
def DR (a:Env) (h:Heap) (m:Str->Option Value) (x:Str) (u:Value):Prop:=
 (a.kindOf x=some .local/\m x=some u)\/((a.kindOf x=some .cell\/a.kindOf x=some .free)/\∃ c,a.cells.lookup x=some c/\h.IsCell c (some u))
structure Cx.Ok (X:Cx):Prop where
 mod:Mod X.K X.mg X.base
 kind:X.env.scope.kind=.function
 glob:X.env.globals=mainGlobals
 blt:X.env.builtins=builtinsNs
 above:X.s₀.heap.objs.size<=X.env.locals
 inj:∀ x y c,X.env.cells.lookup x=some c->X.env.cells.lookup y=some c->x=y
 has:∀ x,(X.env.kindOf x=some .cell\/X.env.kindOf x=some .free)->∃ c,X.env.cells.lookup x=some c
 cab:∀ x c,X.fn x=true->X.env.cells.lookup x=some c->X.s₀.heap.objs.size<=c
 hd:X.calm=true->X.A.handled=none
 frames:X.A.frames=some X.stack
 stk:X.stack=X.outer\/(X.stack=X.env :: X.outer/\X.env.frame=some X.env.locals)
 exf:∀ b∈X.ex,b≠X.env.locals/\∀ x c,X.env.cells.lookup x=some c->c≠b
 bs:∀ b o,X.base.get? b=some o->X.s₀.heap.get? b=some o/\X.H₀ b=none
 bsz:X.base.objs.size<=X.s₀.heap.objs.size
 noex:∀ b o,X.base.get? b=some o->b∉X.ex
 exfs:∀ b∈X.ex,b∉X.fs
 funs:X.s₀.heap.FunFrames X.base X.outer
 frf:∀ b∈X.fs,X.H₀ b=none
structure Inv (X:Cx) (pins:List (Addr×Obj)) (σ:List (Option V)) (H:Hp) (s:Shared):Prop where
 ok:X.Ok
 os:s.os=X.s₀.os
 bare:AllBare s.gens
 base:Un X.fs X.ex X.H₀ H X.s₀.heap s.heap
 loc:∃ m,s.heap.Ns X.env.locals m/\∀ (i:Nat) (x:Str) (v:V),X.N[i]?=some x->σ[i]?=some (some v)->Vis X.env.scope x->∃ u,RelV v u/\DR X.env s.heap m x u
 cell:∀ x c,X.env.cells.lookup x=some c->∃ v,s.heap.IsCell c v
 free:H X.env.locals=none
 freeC:∀ x c,X.env.cells.lookup x=some c->H c=none
 pin:∀ p∈X.pn++pins,s.heap.get? p.1=some p.2/\H p.1=none/\p.1≠X.env.locals/\p.1∉X.fs/\∀ v,p.2.data≠.cell v
 hok:HOk X.prog X.w H s.heap
 len:σ.length=X.N.length
section
variable {X:Cx} {pins:List (Addr×Obj)} {σ:List (Option V)} {H H':Hp} {s:Shared} {h':Heap}
theorem Cx.Ok.nofr (c:X.Ok) {b:Addr} {o:Obj} (e:X.base.get? b=some o):b∉X.fs:=λa=>by
 have:=(c.funs.mem a).1;rw [e] at this;cases this
theorem Inv.bs (I:Inv X pins σ H s):∀ b o,X.base.get? b=some o->s.heap.get? b=some o/\H b=none:=λb o e=>
 ⟨I.base.keep b o (I.ok.bs b o e).1 (I.ok.bs b o e).2 (I.ok.nofr e) (I.ok.noex b o e),I.base.free b o (I.ok.bs b o e).1 (I.ok.bs b o e).2 (I.ok.noex b o e)⟩
theorem Inv.bk (I:Inv X pins σ H s):∀ b o,X.base.get? b=some o->s.heap.get? b=some o:=λb o e=>(I.bs b o e).1
theorem Inv.mod (I:Inv X pins σ H s):Mod X.K X.mg X.base:=I.ok.mod
theorem Inv.kIn (I:Inv X pins σ H s):X.K.In s.heap:=I.ok.mod.kin.keeps I.bk
theorem Inv.fr (I:Inv X pins σ H s):∃ m,Fr X.base X.env.locals s.heap m:=
 let ⟨m,a,_⟩:=I.loc
 ⟨m,a,I.bk,FD I.ok.bsz I.ok.above⟩
theorem Inv.lt (I:Inv X pins σ H s):X.env.locals<s.heap.objs.size:=let ⟨_,a,_⟩:=I.loc;a.lt
theorem Inv.sz (I:Inv X pins σ H s):X.s₀.heap.objs.size<=s.heap.objs.size:=FD I.ok.above (HQ I.lt)
theorem Inv.nofs (I:Inv X pins σ H s) {a:Addr} (h:s.heap.objs.size<=a):a∉X.fs:=λb=>by
 obtain ⟨_,o,c,_⟩:=I.ok.funs.mem b;exact absurd (Fn (Ew c) (FD I.sz h)) (Hg _)
theorem Inv.cne (I:Inv X pins σ H s):∀ x c,X.env.cells.lookup x=some c->c≠X.env.locals:=λx c e z=>by
 obtain ⟨v,o,d,hd⟩:=I.cell x c e;obtain ⟨m,⟨o',es,f,a,b,_⟩,_⟩:=I.loc;rw [z,a] at d;cases d;rw [b] at hd;cases hd
theorem Inv.funs (I:Inv X pins σ H s):s.heap.FunFrames X.base X.outer:=by
 have a:∀ (l:List Env),(∀ b∈frs l,b∈X.fs)->X.s₀.heap.FunFrames X.base l->s.heap.FunFrames X.base l:=by
  intro l;induction l with
  | nil=>intro _ _;trivial
  | cons j r n=>
   intro hs k;obtain ⟨g,⟨L,o,c,i,h,hd⟩,m⟩:=k;have f:=hs L (by unfold frs;rw [GQ,c];exact Fe);obtain ⟨p,e⟩:=I.base.slot L o h (I.ok.frf L f) f λz=>I.ok.exfs L z f;exact ⟨g,⟨L,_,c,i,e,hd⟩,n (λb d=>hs b (by unfold frs;rw [GQ,c];exact Fg _ d)) m⟩
 exact a X.outer (λ_ d=>d) I.ok.funs
theorem Inv.stack (I:Inv X pins σ H s):s.heap.FunFrames X.base X.stack:=by
 rcases I.ok.stk with e | ⟨e,hf⟩
 ·rw [e];exact I.funs
 ·rw [e];obtain ⟨m,a,_⟩:=I.loc;refine .cons (by rw [I.ok.kind];decide) hf a ?_ I.funs;exact Heap.get?_none_of_le (FD I.ok.bsz I.ok.above)
theorem Inv.stkSub (I:Inv X pins σ H s):∀ b∈frs X.stack,b∈X.env.locals :: X.fs:=λb a=>by
 rcases I.ok.stk with e | ⟨e,hf⟩
 ·grind
 ·rw [e] at a;unfold frs at a;rw [GQ,hf] at a;exact a
theorem Inv.stkFree (I:Inv X pins σ H s):∀ b∈frs X.stack,H b=none:=λb a=>by
 rcases Ez.mp (I.stkSub b a) with e | a
 ·rw [e];exact I.free
 ·obtain ⟨_,o,c,_⟩:=I.ok.funs.mem a;exact I.base.free b o c (I.ok.frf b a) λz=>I.ok.exfs b z a
theorem Inv.step {d':Drawn} {ch:List Addr} (I:Inv X pins σ H s)
  (h:∀ b∈ch,(b∈X.ex\/X.s₀.heap.objs.size<=b)/\b≠X.env.locals/\(∀ x c,X.env.cells.lookup x=some c->c≠b)/\∀ p∈X.pn++pins,p.1≠b)
  (j:∀ b o,b≠X.env.locals->b∉X.fs->b∉ch->s.heap.get? b=some o->H b=none->h'.get? b=some o)
  (A:∀ b o,b≠X.env.locals->b∈X.fs->b∉ch->s.heap.get? b=some o->H b=none->∃ O,h'.get? b=some { o with slots:=O }) (f:∀ b o,b∉ch->s.heap.get? b=some o->H b=none->H' b=none)
  (C:∀ b o,b∉ch->s.heap.get? b=some o->∃ o',h'.get? b=some o')
  (G:∀ b xs,H b=some (.tup xs)->H' b=some (.tup xs)) (J:∀ b o u,H b=some (.frz o u)->H' b=some (.frz o u)) (E:∀ b ps,H b=some (.tbl ps)->∃ F,H' b=some (.tbl (ps++F)))
  (ns:∀ m,s.heap.Ns X.env.locals m->h'.Ns X.env.locals m) (N:HOk X.prog X.w H' h') (Y:AllBare g') :
  Inv X pins σ H' { s with heap:=h',gens:=g',drawn:=d',toks:=t' }:=by
 have K:∀ b o,X.s₀.heap.get? b=some o->b≠X.env.locals:=λb o e=>Ex (Fn (Ew e) I.ok.above);have w:∀ b o,X.s₀.heap.get? b=some o->b∉X.ex->b∉ch:=λb o e a B=>by
  rcases (h b B).1 with z | z
  ·exact a z
  ·exact absurd (Fn (Ew e) z) (Hg _)
 have t:∀ x c,X.env.cells.lookup x=some c->∀ v,s.heap.IsCell c v->h'.IsCell c v:=λx c e v ⟨o,D,hd⟩=>by
  have g:=λz=>(h c z).2.2.1 x c e rfl;by_cases P:c∈X.fs
  ·obtain ⟨O,q⟩:=A c o (I.cne x c e) P g D (I.freeC x c e);exact ⟨_,q,hd⟩
  ·exact ⟨o,j c o (I.cne x c e) P g D (I.freeC x c e),hd⟩
 refine ⟨I.ok,I.os,Y,⟨λb o e n B a=>?_,λb o e n B a=>?_,λb o e n a=>?_,λb o e a=>?_,λb xs e=>G b xs (I.base.tups b xs e),λb o xs e=>J b o xs (I.base.frzs b o xs e),λb ps e=>?_⟩,?_,λx c e=>?_,?_,λx c e=>?_,λp S=>?_,N,I.len⟩
 ·exact j b o (K b o e) B (w b o e a) (I.base.keep b o e n B a) (I.base.free b o e n a)
 ·obtain ⟨O,y⟩:=I.base.slot b o e n B a;obtain ⟨M,L⟩:=A b _ (K b o e) B (w b o e a) y (I.base.free b o e n a);exact ⟨M,L⟩
 ·obtain ⟨o',y⟩:=I.base.there b o e a;exact f b o' (w b o e a) y (I.base.free b o e n a)
 ·obtain ⟨o',y⟩:=I.base.there b o e a;exact C b o' (w b o e a) y
 ·obtain ⟨U,y⟩:=I.base.tbls b ps e;obtain ⟨m2,L⟩:=E b _ y;exact ⟨U++m2,by rw [L,Array.append_assoc]⟩
 ·obtain ⟨m,V,T⟩:=I.loc;refine ⟨m,ns m V,λi x v y L W=>?_⟩;obtain ⟨u,r,l⟩:=T i x v y L W;refine ⟨u,r,?_⟩;rcases l with l | ⟨k,c,e,z⟩
  ·exact .inl l
  ·exact .inr ⟨k,c,e,t x c e _ z⟩
 ·obtain ⟨v,z⟩:=I.cell x c e;exact ⟨v,t x c e v z⟩
 ·obtain ⟨m,⟨o,_,_,D,_⟩,_⟩:=I.loc;exact f _ o (λz=>(h _ z).2.1 rfl) D I.free
 ·obtain ⟨v,o,D,hd⟩:=I.cell x c e;exact f c o (λz=>(h c z).2.2.1 x c e rfl) D (I.freeC x c e)
 ·obtain ⟨e,n,R,Q,d⟩:=I.pin p S;have g:=λz=>(h p.1 z).2.2.2 p S rfl;exact ⟨j p.1 p.2 R Q g e n,f p.1 p.2 g e n,R,Q,d⟩
theorem Inv.un (I:Inv X pins σ H s) (u:Un X.fs [] H H' s.heap h') (c:HOk X.prog X.w H' h'):Inv X pins σ H' { s with heap:=h',toks:=t' }:=by
 obtain ⟨m,⟨o,es,k,g,r⟩,_⟩:=id I.loc;obtain ⟨l,j⟩:=u.any g I.free (by simp);exact I.step (ch:=[]) (λ_ z=>nomatch z) (λb o _ d _ e n=>u.keep b o e n d (by simp)) (λb o _ d _ e n=>u.slot b o e n d (by simp)) (λb o _ e n=>u.free b o e n (by simp)) (λb o _ e=>u.there b o e (by simp)) u.tups u.frzs u.tbls (λm' i=>by
  obtain ⟨o',es',f,a,h⟩:=i;rw [g] at a;cases a;exact ⟨_,es',f,j,h⟩) c I.bare
theorem Inv.call {d':Drawn} {ch:List Addr} (I:Inv X pins σ H s) (u:Un (frs X.stack) ch H H' s.heap h') (g:HOk X.prog X.w H' h') (q:AllBare g')
  (f:∀ b∈ch,(b∈X.ex\/X.s₀.heap.objs.size<=b)/\b≠X.env.locals/\(∀ x c,X.env.cells.lookup x=some c->c≠b)/\∀ p∈X.pn++pins,p.1≠b) :
  Inv X pins σ H' { s with heap:=h',gens:=g',drawn:=d',toks:=t' }:=by
 obtain ⟨m,⟨o,es,v,j,r⟩,_⟩:=id I.loc;obtain ⟨w,i⟩:=u.any j I.free λz=>(f _ z).2.1 rfl;exact I.step f (λb o i l a e n=>u.keep b o e n (λz=>(Ez.mp (I.stkSub b z)).elim i l) a) (λb o _ _ a e n=>u.any e n a) (λb o a e n=>u.free b o e n a) (λb o a e=>u.there b o e a) u.tups u.frzs u.tbls (λm' t=>by
  obtain ⟨o',es',h,d,k⟩:=t;rw [j] at d;cases d;exact ⟨_,es',h,i,k⟩) g q
theorem Inv.turned {it:Addr} (I:Inv X pins σ H s) (k:∀ b o,b≠it->s.heap.get? b=some o->h'.get? b=some o) (g:H it=none) (j:it≠X.env.locals)
  (l:it∈X.ex\/X.s₀.heap.objs.size<=it) (t:∀ x c,X.env.cells.lookup x=some c->c≠it) (y:∀ p∈X.pn++pins,p.1≠it):Inv X pins σ H { s with heap:=h',toks:=t' }:=by
 have d:∀ b u,H b=some u->b≠it:=λb u e z=>by rw [z,g] at e;cases e
 refine I.step (ch:=[it]) (λb w=>?_) (λb o _ _ a e _=>k b o (λz=>a (by simp [z])) e) (λb o _ _ a e _=>⟨o.slots,k b o (λz=>a (by simp [z])) e⟩) (λ_ _ _ _ n=>n)
  (λb o a e=>⟨o,k b o (λz=>a (by simp [z])) e⟩) (λ_ _ e=>e) (λ_ _ _ e=>e) (λb ps e=>⟨#[],by rw [e];simp⟩) (λm i=>?_) (λb u e=>?_) I.bare
 ·grind
 ·obtain ⟨o,es,h,f,r⟩:=i;exact ⟨o,es,h,k _ o (Ne.symm j) f,r⟩
 ·refine (I.hok b u e).stay (λc v a q=>k c v ?_ q) (λ_ q=>q) λ_ _ q=>q;rcases a with z | z
  ·rw [z];exact d b u e
  ·exact d c _ z
theorem Inv.tok (I:Inv X pins σ H s) (t:Nat):Inv X pins σ H { s with toks:=t }:=I.un Un.refl I.hok
theorem Inv.kept (I:Inv X pins σ H s) (k:∀ b u,s.heap.get? b=some u->h'.get? b=some u):Inv X pins σ H { s with heap:=h',toks:=t' }:=I.un (Un.kept k) (I.hok.kept k)
theorem Inv.laid {a:Addr} {o:HO} {t':Nat} (I:Inv X pins σ H s) (k:∀ b u,s.heap.get? b=some u->h'.get? b=some u) (d:s.heap.objs.size<=a) (c:ObjOk X.prog X.w (upd H a o) h' a o) :
  Inv X pins σ (upd H a o) { s with heap:=h',toks:=t' }:=I.un (Un.laid k d (I.hok.fresh d)) (I.hok.laid k d c)
theorem Inv.write (I:Inv X pins σ H s) (f:Mut (H x)) (d:e=x\/H e=some (.own x)) (k:∀ b u,b≠e->s.heap.get? b=some u->h'.get? b=some u) (a:∃ u,h'.get? e=some u)
  (c:ObjOk X.prog X.w (upd H x o) h' x o):Inv X pins σ (upd H x o) { s with heap:=h',toks:=t' }:=I.un (Un.write f d k a) (I.hok.write f d k a c)
theorem Inv.weak (I:Inv X pins σ H s) (d:σ'.length=σ.length) (w:∀ (i:Nat) v,σ'[i]?=some (some v)->σ[i]?=some (some v)):Inv X pins σ' H s:=
 ⟨I.ok,I.os,I.bare,I.base,let ⟨m,b,a⟩:=I.loc;⟨m,b,λi x v e c f=>a i x v e (w i v c) f⟩,I.cell,I.free,I.freeC,I.pin,I.hok,d.trans I.len⟩
theorem Inv.pins_of (I:Inv X pins σ H s) (h:∀ p∈pins',s.heap.get? p.1=some p.2/\H p.1=none/\p.1≠X.env.locals/\p.1∉X.fs/\∀ v,p.2.data≠.cell v):Inv X pins' σ H s:=
 ⟨I.ok,I.os,I.bare,I.base,I.loc,I.cell,I.free,I.freeC,λp a=>(Fo.mp a).elim (λz=>I.pin p (List.mem_append_left _ z)) (h p),I.hok,I.len⟩
theorem au {N:List Str} (e:N.Nodup) {i j:Nat} {x:Str} (a:N[i]?=some x) (b:N[j]?=some x):i=j:=by
 obtain ⟨f,d⟩:=Eo.mp a;obtain ⟨g,c⟩:=Eo.mp b;exact (List.getElem_inj e).mp (d.trans c.symm)
theorem cc {i:Nat} {x:Str} {v:V} {u:Value} {Q:Unit->Shared->Prop} (I:Inv X pins σ H s) (hN:X.N.Nodup) (O:X.N[i]?=some x) (t:Loc X.env.scope x) (r:RelV v u)
  (h:∀ s',Inv X pins (σ.set i (some v)) H s'->(∃ a,Heap.SameBut a s.heap s'.heap/\(a=X.env.locals\/X.env.cells.lookup x=some a))->Q () s') (hf:X.fn x=true\/X.env.scope.names.lookup x=some .local:=by first | exact .inl rfl | exact .inr rfl | assumption):wpAny M A (storeName X.env x u) Q E s:=by
 obtain ⟨m,Z,hl⟩:=id I.loc;have L:(X.env.scope.kind==.class||(X.env.scope.kind==.module&&X.env.locals != X.env.globals))=false:=by rw [I.ok.kind];rfl
 have B:i<σ.length:=by rw [I.len];exact (Eo.mp O).1
 have C:=I.cne;have f:∀ {a:Addr} {h':Heap},(∃ o,s.heap.get? a=some o/\H a=none)->Heap.SameBut a s.heap h'->HOk X.prog X.w H h':=λ{a h'} ha hs b ob e=>by
  obtain ⟨_,_,hfree⟩:=ha;refine (I.hok b ob e).stay (λc w' l q=>(hs.2 c ?_).trans q) (λ_ q=>q) λ_ _ q=>q;rintro rfl;rcases l with rfl | l
  ·grind
  ·grind
 rcases t with hk | hk
 ·refine wpAny_storeName_local hk Z (λh' W hs=>?_) L;obtain ⟨oL,_,_,hoL,_⟩:=id Z;refine h _ ⟨I.ok,I.os,I.bare,⟨λb o e n D t=>?_,λb o e n D t=>?_,I.base.free,λb o e t=>?_,I.base.tups,I.base.frzs,I.base.tbls⟩,⟨_,W,λj y T g w e3=>?_⟩,λy c e=>?_,I.free,I.freeC,λp hp=>?_,f ⟨oL,hoL,I.free⟩ hs,by simpa using I.len⟩ ⟨_,hs,.inl rfl⟩
  ·exact (hs.2 b (Ex (Fn (Ew e) I.ok.above))).trans (I.base.keep b o e n D t)
  ·obtain ⟨sl,g⟩:=I.base.slot b o e n D t;exact ⟨sl,(hs.2 b (Ex (Fn (Ew e) I.ok.above))).trans g⟩
  ·obtain ⟨o',g⟩:=I.base.there b o e t;exact ⟨o',(hs.2 b (Ex (Fn (Ew e) I.ok.above))).trans g⟩
  ·by_cases F:j=i
   ·subst F;rw [O] at g;cases g;rw [FA B] at w;cases w;exact ⟨u,r,.inl ⟨hk,by simp⟩⟩
   ·rw [Ff (Ne.symm F)] at w;obtain ⟨Y,r',q⟩:=hl j y T g w e3;refine ⟨Y,r',?_⟩;rcases q with ⟨k,e⟩ | ⟨k,c,e,z⟩
    ·refine .inl ⟨k,?_⟩;have:y≠x:=λe=>F (au hN g (e▸O));simp [this,e]
    ·exact .inr ⟨k,c,e,z.sameBut hs (C y c e)⟩
  ·obtain ⟨w',z⟩:=I.cell y c e;exact ⟨w',z.sameBut hs (C y c e)⟩
  ·obtain ⟨e,n,R,U,d⟩:=I.pin p hp;exact ⟨(hs.2 p.1 R).trans e,n,R,U,d⟩
 ·have G:X.fn x=true:=by
   rcases hf with z | z
   ·exact z
   ·rw [z] at hk;cases hk
  obtain ⟨c,l⟩:=I.ok.has x (.inl hk);obtain ⟨w',z⟩:=I.cell x c l;refine wpAny_storeName_cell I.ok.kind hk l z (λh' N hs=>?_);obtain ⟨oc,J,P⟩:=id z;refine h { s with heap:=h' } ⟨I.ok,I.os,I.bare,⟨λb o e n D t=>?_,λb o e n D t=>?_,I.base.free,λb o e t=>?_,I.base.tups,I.base.frzs,I.base.tbls⟩,⟨m,Z.sameBut hs (Ne.symm (C x c l)),λj y T g w e3=>?_⟩,λy S e=>?_,I.free,I.freeC,λp hp=>?_,f ⟨oc,J,I.freeC x c l⟩ hs,by simpa using I.len⟩ ⟨c,hs,.inr l⟩
  ·exact (hs.2 b (Ex (Fn (Ew e) (I.ok.cab x c G l)))).trans (I.base.keep b o e n D t)
  ·obtain ⟨sl,g⟩:=I.base.slot b o e n D t;exact ⟨sl,(hs.2 b (Ex (Fn (Ew e) (I.ok.cab x c G l)))).trans g⟩
  ·obtain ⟨o',g⟩:=I.base.there b o e t;exact ⟨o',(hs.2 b (Ex (Fn (Ew e) (I.ok.cab x c G l)))).trans g⟩
  ·by_cases F:j=i
   ·subst F;rw [O] at g;cases g;rw [FA B] at w;cases w;exact ⟨u,r,.inr ⟨.inl hk,c,l,N⟩⟩
   ·rw [Ff (Ne.symm F)] at w;obtain ⟨Y,r',q⟩:=hl j y T g w e3;refine ⟨Y,r',?_⟩;rcases q with q | ⟨k,S,e,z'⟩
    ·exact .inl q
    ·refine .inr ⟨k,S,e,z'.sameBut hs ?_⟩;rintro rfl;exact F (au hN g (I.ok.inj _ _ _ e l▸O))
  ·by_cases K:S=c
   ·subst K;exact ⟨_,N⟩
   ·obtain ⟨w2,z2⟩:=I.cell y S e;exact ⟨w2,z2.sameBut hs K⟩
  ·obtain ⟨e,n,R,U,d⟩:=I.pin p hp;refine ⟨(hs.2 p.1 ?_).trans e,n,R,U,d⟩;intro q;rw [q,J] at e;have q':=FR e;exact d w' (by rw [<- q'];exact P)
theorem S8 {i:Nat} {x:Str} {v:V} {u:Value} {Q:Unit->Shared->Prop} (I:Inv X pins σ H s) (e:X.N.Nodup) (c:X.N[i]?=some x) (a:Loc X.env.scope x) (r:RelV v u)
  (h:∀ s',Inv X pins (σ.set i (some v)) H s'->Q () s') (b:X.fn x=true\/X.env.scope.names.lookup x=some .local:=by first | exact .inl rfl | exact .inr rfl | assumption):wpAny M A (storeName X.env x u) Q E s:=
 cc I e c a r (λs' d _=>h s' d) b
theorem Inv.call' {ch:List Addr} (I:Inv X pins σ H s) (g:s'.os=s.os) (u:Un (frs X.stack) ch H H' s.heap s'.heap) (d:HOk X.prog X.w H' s'.heap) (f:AllBare s'.gens)
  (a:∀ b∈ch,(b∈X.ex\/X.s₀.heap.objs.size<=b)/\b≠X.env.locals/\(∀ x c,X.env.cells.lookup x=some c->c≠b)/\∀ p∈X.pn++pins,p.1≠b):Inv X pins σ H' s':=by
 obtain ⟨h',g',d',t',o'⟩:=s';have e:=g;subst e;exact I.call u d f a
end
abbrev XK:=Value->Option Addr->Hp->Prop
abbrev St:=List (Option V)
abbrev VK:=V->Hp->Prop
abbrev TE:=St->Hp->VK->Prop
abbrev TT:=St->Hp->(Bool->Hp->Prop)->Prop
abbrev TA:=St->Hp->(List V->Hp->Prop)->Prop
structure Ends where
 nx:St->Hp->Prop
 rt:VK
 bk:St->Hp->Prop:=λ_ _=>False
 ct:St->Hp->Prop:=λ_ _=>False
abbrev TS:=Ends->St->Hp->Prop
def EP (X:Cx) (pins:List (Addr×Obj)) (σ:St) (Q:VK) (u:Value) (s':Shared):Prop:=∃ v H',Inv X pins σ H' s'/\RelV v u/\Q v H'
def TP (X:Cx) (pins:List (Addr×Obj)) (σ:St) (Q:Bool->Hp->Prop) (b:Bool) (s':Shared):Prop:=∃ H',Inv X pins σ H' s'/\Q b H'
def AP (X:Cx) (pins:List (Addr×Obj)) (σ:St) (Q:List V->Hp->Prop) (us:List Value) (s':Shared):Prop:=∃ vs H',Inv X pins σ H' s'/\Vals vs us/\Q vs H'
def SP (X:Cx) (pins:List (Addr×Obj)) (D:Ends) (f:Flow) (s':Shared):Prop:=
 match f with
 | .next=>∃ a H',Inv X pins a H' s'/\D.nx a H'
 | .brk=>∃ a H',Inv X pins a H' s'/\D.bk a H'
 | .cont=>∃ a H',Inv X pins a H' s'/\D.ct a H'
 | .ret u=>∃ v a H',Inv X pins a H' s'/\RelV v u/\D.rt v H'
def PE (X:Cx) (e:Expr) (t:TE):Prop:=
 ∀ (pins:List (Addr×Obj)) (s:Shared) (σ:St) (H:Hp) (Q:VK),Inv X pins σ H s->t σ H Q->wpAny (model X.prog X.w) X.A (eval e X.env) (EP X pins σ Q) X.xe s
def PT (X:Cx) (e:Expr) (t:TT):Prop:=
 ∀ (pins:List (Addr×Obj)) (s:Shared) (σ:St) (H:Hp) (Q:Bool->Hp->Prop),Inv X pins σ H s->t σ H Q->wpAny (model X.prog X.w) X.A (isTrue e X.env (eval e X.env)) (TP X pins σ Q) X.xe s
def PW (X:Cx) (e:Expr) (t:TT):Prop:=
 ∀ (a:Sem Value) (pins:List (Addr×Obj)) (s:Shared) (σ:St) (H:Hp) (Q:Bool->Hp->Prop),Inv X pins σ H s->t σ H Q->wpAny (model X.prog X.w) X.A (isTrue e X.env a) (TP X pins σ Q) X.xe s
theorem PW.pt (h:PW X e t):PT X e t:=h _
def PA (X:Cx) (es:List Expr) (t:TA):Prop:=
 ∀ (pos:Pos) (pins:List (Addr×Obj)) (s:Shared) (σ:St) (H:Hp) (Q:List V->Hp->Prop),Inv X pins σ H s->t σ H Q->wpAny (model X.prog X.w) X.A (spliced (backTo pos (starEach es X.env))) (AP X pins σ Q) X.xe s
def PS (X:Cx) (st:Stmt) (t:TS):Prop:=
 ∀ (pins:List (Addr×Obj)) (s:Shared) (σ:St) (H:Hp) (D:Ends),Inv X pins σ H s->t D σ H->wpAny (model X.prog X.w) X.A (exec st X.env) (SP X pins D) X.xe s
def PSs (X:Cx) (st:List Stmt) (t:TS):Prop:=
 ∀ (pins:List (Addr×Obj)) (s:Shared) (σ:St) (H:Hp) (D:Ends),Inv X pins σ H s->t D σ H->wpAny (model X.prog X.w) X.A (execs st X.env) (SP X pins D) X.xe s
theorem thn {M:Model} {A:Around} {E:Value->Shared->Prop} {s:Shared} (h:wpAny M A t Q E s) (b:∀ a s,Q a s->Q' a s):wpAny M A t Q' E s:=FI h b λ_ _ x=>x
section
variable {X:Cx}
def zq (i:Nat):TE:=λσ H Q=>∃ v,σ[i]?=some (some v)/\Q v H
def tC (v:V):TE:=λ_ H Q=>Q v H
theorem oC {pos:Pos} (o:X.N[i]?=some x) (p:Vis X.env.scope x) (hd:(x==("__debug__" : Str))=false:=by decide) (f:(x==("__classdict__" : Str))=false:=by decide):PE X (.Name x pos) (zq i):=by
 intro pins s σ H Q I h;obtain ⟨v,e,h⟩:=h;obtain ⟨m,j,k⟩:=I.loc;obtain ⟨u,r,l⟩:=k i x v o e p;have d:EP X pins σ Q u s:=⟨v,H,I,r,h⟩;rcases l with ⟨b,n⟩ | ⟨b,c,g,a⟩
 ·exact wpAny_Name (wpAny_loadName_local I.ok.kind b j n d) hd
 ·rcases b with b | b
  ·exact wpAny_Name (wpAny_loadName_cell I.ok.kind b g a d) hd
  ·exact wpAny_Name (wpAny_loadName_free I.ok.kind b g a d f) hd
theorem xj {i j pos}:PE X (.Constant (.int i) j pos) (tC (.int i)):=λ_ _ _ H _ I h=>wpAny_Constant_int ⟨.int i,H,I.tok _,⟨_,rfl⟩,h⟩
theorem CO {b j pos}:PE X (.Constant (.bool b) j pos) (tC (.bl b)):=λ_ _ _ H _ I h=>Constant_bool ⟨.bl b,H,I,rfl,h⟩
theorem AD {j pos}:PE X (.Constant .none j pos) (tC .non):=λ_ _ _ H _ I h=>Constant_none ⟨.non,H,I,rfl,h⟩
theorem yO {x j pos}:PE X (.Constant (.str x) j pos) (tC (.str x)):=λ_ _ _ H _ I h=>Calls.Constant_str ⟨.str x,H,I.tok _,⟨_,rfl⟩,h⟩
def Gl (X:Cx) (x:Str):Prop:=X.env.kindOf x=some .globalImplicit
theorem G7 {pins:List (Addr×Obj)} {s:Shared} {σ:St} {H:Hp} {x:Str} {u:Value} {pos:Pos} {Q:Value->Shared->Prop} (I:Inv X pins σ H s) (a:Gl X x) (b:X.mg x=some u) (h:Q u s)
  (hd:(x==("__debug__" : Str))=false:=by decide):wpAny (model X.prog X.w) X.A (eval (.Name x pos) X.env) Q E s:=
 II I.ok.kind a (Calls.loadGlobal_global (by rw [I.ok.glob];exact I.mod.glob.keeps I.bk) b h) hd
theorem A8 {E:Value->Shared->Prop} {pins:List (Addr×Obj)} {s:Shared} {σ:St} {H:Hp} {x:Str} {u:Value} {pos:Pos} {Q:Value->Shared->Prop} (I:Inv X pins σ H s) (d:Gl X x) (e:X.mg x=none) (f:bootBuiltins x=some u) (h:Q u s)
  (a:x ≠ "__name__":=by decide) (hd:(x==("__debug__" : Str))=false:=by decide):wpAny (model X.prog X.w) X.A (eval (.Name x pos) X.env) Q E s:=by
 obtain ⟨g,b,c⟩:=I.mod.blt;exact II I.ok.kind d (Calls.loadGlobal_builtin (by rw [I.ok.glob];exact I.mod.glob.keeps I.bk) e (by rw [I.ok.blt];exact b.keeps I.bk) ((c x a).trans f) h) hd
theorem dW {u:Value} {pos:Pos} (a:Gl X x) (b:X.mg x=some u) (r:RelV v u) (hd:(x==("__debug__" : Str))=false:=by decide):PE X (.Name x pos) (tC v):=
 λ_ _ _ H _ I h=>G7 I a b ⟨v,H,I,r,h⟩ hd
theorem uI {u:Value} {pos:Pos} (c:Gl X x) (d:X.mg x=none) (b:bootBuiltins x=some u) (r:RelV v u) (a:x ≠ "__name__":=by decide) (hd:(x==("__debug__" : Str))=false:=by decide):PE X (.Name x pos) (tC v):=
 λ_ _ _ H _ I h=>A8 I c d b ⟨v,H,I,r,h⟩ a hd
variable {a b:Expr} {ta tb:TE} {pos:Pos}
variable {tA tB':TT} {rest:List Expr}
def DX (t u:TT):TT:=λσ H Q=>t σ H λc a=>if c=true then u σ a Q else Q false a
def tOr (t u:TT):TT:=λσ H Q=>t σ H λc a=>if c=true then Q true a else u σ a Q
def xS (t:TT):TT:=λσ H Q=>t σ H λc a=>Q (!c) a
theorem pw_and1 (b:PT X a tA):PW X (.BoolOp .And [a] pos) tA:=by
 intro d pins s σ H Q I h;refine isTrue_and (thn (b pins s σ H Q I h) λc f e=>?_);cases c with
 | true=>exact isTrue_and_nil e
 | false=>exact e
theorem pw_or1 (b:PT X a tA):PW X (.BoolOp .Or [a] pos) tA:=by
 intro d pins s σ H Q I h;refine isTrue_or (thn (b pins s σ H Q I h) λc f e=>?_);cases c with
 | false=>exact isTrue_or_nil e
 | true=>exact e
theorem pw_and (g:PT X a tA) (j:PW X (.BoolOp .And (b :: rest) pos) tB'):PW X (.BoolOp .And (a :: b :: rest) pos) (DX tA tB'):=by
 intro i pins s σ H Q I h;refine isTrue_and (thn (g pins s σ H _ I h) λc k ⟨e,d,f⟩=>?_);cases c with
 | true=>exact j i pins k σ e Q d f
 | false=>exact ⟨e,d,f⟩
theorem pw_or (g:PT X a tA) (j:PW X (.BoolOp .Or (b :: rest) pos) tB'):PW X (.BoolOp .Or (a :: b :: rest) pos) (tOr tA tB'):=by
 intro i pins s σ H Q I h;refine isTrue_or (thn (g pins s σ H _ I h) λc k ⟨e,d,f⟩=>?_);cases c with
 | true=>exact ⟨e,d,f⟩
 | false=>exact j i pins k σ e Q d f
theorem gq (d:PT X a tA):PT X (.UnaryOp .Not a pos) (xS tA):=by
 intro pins s σ H Q I h;exact isTrue_not (d pins s σ H (λc b=>Q (!c) b) I h)
theorem yj {op} {t:TE} (h:PE X a t):PE X (.BoolOp op [a] pos) t:=λpins s σ H Q I b=>BoolOp_one (h pins s σ H Q I b)
def tIf (t:TT) (b d:TE):TE:=λσ H Q=>t σ H λc a=>if c=true then b σ a Q else d σ a Q
theorem oO (l:PT X c tA) (j:PE X a ta) (k:PE X b tb):PE X (.IfExp c a b pos) (tIf tA ta tb):=by
 intro pins s σ H Q I h;refine wpAny_IfExp (thn (l pins s σ H _ I h) λd g ⟨f,e,i⟩=>?_);cases d with
 | true=>exact j pins g σ f Q e i
 | false=>exact k pins g σ f Q e i
end
def SqL (K:PySem.W.Frag) (H:Hp) (a:Addr) (xs:List V):Prop:=
 Rd H a (.lst xs) \/
  ∃ (o:Obj) (b:Array Value) (n:Nat),K.lookup a=some o/\o.cls=.type "list"/\o.dict=none/\o.data=.seq b n/\b.size<=sizeLine/\Vals xs b.toList
def SqT (K:PySem.W.Frag) (H:Hp) (a:Addr) (xs:List V):Prop:=
 Rd H a (.tup xs) \/
  ∃ (o:Obj) (b:Array Value) (n:Nat),K.lookup a=some o/\o.cls=.type "tuple"/\o.data=.seq b n/\b.size<=sizeLine/\Vals xs b.toList
def DL:Value->Option V
 | .none=>some .non
 | .bool b=>some (.bl b)
 | .int i _=>some (.int i)
 | .str x _=>some (.str x)
 | .bytes b _=>some (.byt b)
 | .float b _=>some (.flt b)
 | .ref a=>some (.ref a)
 | .type n=>some (.ty n)
 | _=>none
theorem RelV.abs (r:RelV x u):DL u=some x:=by
 cases x with
 | non=>cases r;rfl
 | bl _=>cases r;rfl
 | int _=>obtain ⟨t,rfl⟩:=r;rfl
 | str _=>obtain ⟨t,rfl⟩:=r;rfl
 | byt _=>obtain ⟨t,rfl⟩:=r;rfl
 | flt _=>obtain ⟨t,rfl⟩:=r;rfl
 | ref _=>cases r;rfl
 | ty _=>cases r;rfl
theorem RelV.inj {u:Value} (r:RelV x u) (q:RelV y u):x=y:=FR (r.abs.symm.trans q.abs)
theorem Vals.inj:∀ {xs ys:List V} {us:List Value},Vals xs us->Vals ys us->xs=ys
 | _,_,_,.nil,.nil=>rfl
 | _,_,_,.cons r t,.cons a t'=>by rw [r.inj a,Vals.inj t t']
section
variable {X:Cx} {pins:List (Addr×Obj)} {σ:St} {H:Hp} {s:Shared} {a:Addr} {xs ys:List V}
theorem Inv.list (I:Inv X pins σ H s) (h:SqL X.K H a xs):∃ b:List Value,Vals xs b/\PlainL s.heap a b.toArray/\xs.length<=sizeLine:=by
 rcases h with h | ⟨o,b,n,hk,hc,hd,hs,hz,r⟩
 ·obtain ⟨z,b,n,r,e⟩:=h.ok I.hok;exact ⟨b,r,⟨_,n,e,rfl,rfl,rfl⟩,z⟩
 ·refine ⟨b.toList,r,⟨o,n,I.kIn a o hk,hc,hd,by simpa using hs⟩,?_⟩;have e:=r.length;simp at e;omega
theorem Inv.tuple (I:Inv X pins σ H s) (h:SqT X.K H a xs):∃ b:List Value,Vals xs b/\IsTup s.heap a b.toArray/\xs.length<=sizeLine:=by
 rcases h with h | ⟨o,b,n,hk,hc,hs,hz,r⟩
 ·obtain ⟨z,b,r,p⟩:=h.ok I.hok;exact ⟨b,r,p.is,z⟩
 ·refine ⟨b.toList,r,⟨o,I.kIn a o hk,hc,n,by simpa using hs⟩,?_⟩;have e:=r.length;simp at e;omega
theorem Inv.list_inj (I:Inv X pins σ H s) (h:SqL X.K H a xs) (h':SqL X.K H a ys):xs=ys:=by
 obtain ⟨b,r,⟨o,n,e,_,_,d⟩,_⟩:=I.list h;obtain ⟨its',f,⟨o',g,c,_,_,d'⟩,_⟩:=I.list h';rw [e] at c;cases c;rw [d] at d';injection d' with d1 _;have:b=its':=by simpa using congrArg Array.toList d1
 subst this;exact r.inj f
theorem Inv.tuple_inj (I:Inv X pins σ H s) (h:SqT X.K H a xs) (h':SqT X.K H a ys):xs=ys:=by
 obtain ⟨b,r,⟨o,e,_,n,d⟩,_⟩:=I.tuple h;obtain ⟨its',f,⟨o',c,_,g,d'⟩,_⟩:=I.tuple h';rw [e] at c;cases c;rw [d] at d';injection d' with d1 _;have:b=its':=by simpa using congrArg Array.toList d1
 subst this;exact r.inj f
end
abbrev Cx.wish (X:Cx) (E:Value->Shared->Prop):Cx:={ X with xe:=E }
abbrev Cx.nox (X:Cx):Cx:=X.wish λ_ _=>False
theorem Cx.Ok.wish {X:Cx} (a:X.Ok) (E:Value->Shared->Prop):(X.wish E).Ok:=
 ⟨a.mod,a.kind,a.glob,a.blt,a.above,a.inj,a.has,a.cab,a.hd,a.frames,a.stk,a.exf,a.bs,a.bsz,a.noex,a.exfs,a.funs,a.frf⟩
theorem Cx.Ok.unwish {X:Cx} {E:Value->Shared->Prop} (a:(X.wish E).Ok):X.Ok:=
 ⟨a.mod,a.kind,a.glob,a.blt,a.above,a.inj,a.has,a.cab,a.hd,a.frames,a.stk,a.exf,a.bs,a.bsz,a.noex,a.exfs,a.funs,a.frf⟩
section
variable {X:Cx} {pins:List (Addr×Obj)} {σ:St} {H:Hp} {s:Shared} {E:Value->Shared->Prop}
theorem Inv.wish (I:Inv X pins σ H s) (E:Value->Shared->Prop):Inv (X.wish E) pins σ H s:=⟨I.ok.wish E,I.os,I.bare,I.base,I.loc,I.cell,I.free,I.freeC,I.pin,I.hok,I.len⟩
theorem Inv.unwish (I:Inv (X.wish E) pins σ H s):Inv X pins σ H s:=⟨I.ok.unwish,I.os,I.bare,I.base,I.loc,I.cell,I.free,I.freeC,I.pin,I.hok,I.len⟩
theorem SP.unwish (h:SP (X.wish E) pins D f s'):SP X pins D f s':=by
 cases f with
 | next=>obtain ⟨σ',H',I,q⟩:=h;exact ⟨σ',H',I.unwish,q⟩
 | brk=>obtain ⟨σ',H',I,q⟩:=h;exact ⟨σ',H',I.unwish,q⟩
 | cont=>obtain ⟨σ',H',I,q⟩:=h;exact ⟨σ',H',I.unwish,q⟩
 | ret u=>obtain ⟨v,σ',H',I,r,q⟩:=h;exact ⟨v,σ',H',I.unwish,r,q⟩
theorem PSs.nox {st:List Stmt} {t:TS} (h:PSs X.nox st t):PSs X st t:=λpins s σ H D I a=>
 FI (h pins s σ H D (I.wish _) a) (λ_ _ q=>q.unwish) λ_ _ z=>False.elim z
end
section
variable {X:Cx} {st:Stmt} {rest:List Stmt} {t u:TS} {e:Expr} {te:TE} {pos:Pos}
def tNext:TS:=λD σ H=>D.nx σ H
def DJ (t u:TS):TS:=λD σ H=>t { D with nx:=u D } σ H
theorem rq:PSs X [] tNext:=λ_ _ σ H _ I h=>Hb ⟨σ,H,I,h⟩
theorem v8 (h1:PS X st t) (h2:PSs X rest u):PSs X (st :: rest) (DJ t u):=by
 intro pins s σ H D I h;refine Jk (thn (h1 pins s σ H { D with nx:=u D } I h) λf s1 q=>?_);cases f with
 | next=>
  obtain ⟨σ',H',I',q⟩:=q;exact h2 pins s1 σ' H' D I' q
 | ret v=>exact q
 | brk=>exact q
 | cont=>exact q
theorem M5 (h1:PS X st t):PSs X [st] t:=by
 intro pins s σ H D I h;refine Jk (thn (h1 pins s σ H D I h) λf s1 q=>?_);cases f with
 | next=>exact Hb q
 | ret v=>exact q
 | brk=>exact q
 | cont=>exact q
theorem Inv.quiet {σ:St} {H:Hp} {s:Shared} (I:Inv X pins σ H s):interactive X.env=false:=by simp [interactive,I.ok.kind]
def Cd (te:TE):TS:=λD σ H=>te σ H λ_ a=>D.nx σ a
theorem E9 (a:PE X e te) (hs:swapsWith e none pos.line X.env=pure false:=by rfl):PS X (.Expr e pos) (Cd te):=by
 intro pins s σ H D I h;exact wpAny_Expr_any (thn (a pins s σ H _ I h) λv f ⟨x,c,b,g,d⟩=>⟨σ,c,b,d⟩) I.quiet hs
def EF (te:TE):TS:=λD σ H=>te σ H D.rt
theorem xP (a:PE X e te):PS X (.Return (some e) pos) (EF te):=by
 intro pins s σ H D I h;exact wpAny_Return_some (thn (a pins s σ H _ I h) λv g ⟨x,c,b,f,d⟩=>⟨x,σ,c,b,f,d⟩)
def ES (c:TT) (t u:TS):TS:=λD σ H=>c σ H λb a=>if b=true then t D σ a else u D σ a
theorem ps_if {j:TT} (m:PT X c j) (k:PSs X a t) (l:PSs X b u):PS X (.If c a b pos) (ES j t u):=by
 intro pins s σ H D I h;refine wpAny_If (thn (m pins s σ H _ I h) λd g ⟨f,e,i⟩=>?_);cases d with
 | true=>exact k pins g σ f D e i
 | false=>exact l pins g σ f D e i
def tNever:TS:=λ_ _ _=>False
theorem gB:PS X st tNever:=λ_ _ _ _ _ _ h=>h.elim
end
abbrev TG:=V->St->Hp->(St->Hp->Prop)->Prop
abbrev TGs:=List V->St->Hp->(St->Hp->Prop)->Prop
def PG (X:Cx) (a:Expr) (t:TG):Prop:=
 ∀ (pins:List (Addr×Obj)) (s:Shared) (σ:St) (H:Hp) (v:V) (u:Value) (Q:St->Hp->Prop),Inv X pins σ H s->RelV v u->t v σ H Q ->
  wpAny (model X.prog X.w) X.A (assign a X.env u) (λ_ s'=>∃ b H',Inv X pins b H' s'/\Q b H') X.xe s
def PGs (X:Cx) (b:List Expr) (t:TGs):Prop:=
 ∀ (pins:List (Addr×Obj)) (s:Shared) (σ:St) (H:Hp) (vs:List V) (us:List Value) (Q:St->Hp->Prop),Inv X pins σ H s->Vals vs us->t vs σ H Q ->
  wpAny (model X.prog X.w) X.A (assignInOrder ((assignEach b X.env).map (·.2)) us) (λ_ s'=>∃ a H',Inv X pins a H' s'/\Q a H') X.xe s
abbrev zt:=V->V->V->Hp->(Hp->Prop)->Prop
def wz (X:Cx) (t:zt):Prop:=
 ∀ (pins:List (Addr×Obj)) (s:Shared) (σ:St) (H:Hp) (o i v:V) (b a u:Value) (Q:Hp->Prop),Inv X pins σ H s->RelV o b->RelV i a->RelV v u->t o i v H Q ->
  wpAny (model X.prog X.w) X.A (setItem b a u) (λ_ s'=>∃ H',Inv X pins σ H' s'/\Q H') X.xe s
section
variable {X:Cx} {pos:Pos}
def bg (i:Nat):TG:=λv σ H Q=>Q (σ.set i (some v)) H
theorem N3 (e:X.N.Nodup) (c:X.N[i]?=some x) (a:Loc X.env.scope x) (b:X.fn x=true\/X.env.scope.names.lookup x=some .local:=by first | exact .inl rfl | exact .inr rfl | assumption):PG X (.Name x pos) (bg i):=by
 intro pins s σ H v u Q I r h;exact wpAny_assign_Name (S8 I e c a r (λs' d=>⟨_,H,d,h⟩) b)
def gNil:TGs:=λvs σ H Q=>vs=[]/\Q σ H
def pK (t:TG) (u:TGs):TGs:=λvs σ H Q=>∃ v r,vs=v :: r/\t v σ H λa H'=>u r a H' Q
theorem jT:PGs X [] gNil:=by
 intro pins s σ H vs us Q I r h;obtain ⟨e,h⟩:=h;subst e;cases r;exact assignInOrder_nil ⟨σ,H,I,h⟩
theorem bG {t:TG} {u:TGs} (b:PG X e t) (g:PGs X es u)
  (hs:(assignEach (e :: es) X.env).map (·.2)=assign e X.env :: (assignEach es X.env).map (·.2):=by rfl):PGs X (e :: es) (pK t u):=by
 intro pins s σ H vs us Q I r h;obtain ⟨v,l,f,h⟩:=h;subst f;cases r with
 | cons r i=>
  rw [hs];refine assignInOrder_cons (thn (b pins s σ H _ _ _ I r h) λ_ j ⟨a,d,c,k⟩=>?_);exact g pins j a d _ _ Q c i k
def BM (K:PySem.W.Frag) (n:Nat) (t:TGs):TG:=λv σ H Q=>∃ a xs,v=.ref a/\SqT K H a xs/\xs.length=n/\t xs σ H Q
theorem nU {k:Nat} {t:TGs} {n:Nat} (x:X.calm=true) (h:PGs X es t)
  (i:(assignEach es X.env).length=n:=by rfl) (d:(assignEach es X.env).findIdx? (·.1)=none:=by rfl):PG X (.Tuple es k pos) (BM X.K n t):=by
 intro pins s σ H v u Q I r c;obtain ⟨a,xs,w,j,p,c⟩:=c;subst w;cases r;obtain ⟨q,f,l,hz⟩:=I.tuple j;refine assign_Tuple_tuple (I.ok.hd x) l (by simp [i,<- p,f.length]) d λh' g=>?_;have m:=I.kept (t':=s.toks) λb o e=>g b o (Ex (Ew e)) e;exact h pins _ σ H xs _ Q m (by simpa using f) c
def DG (c d:TE) (t:zt):TG:=λv σ H Q=>c σ H λo b=>d σ b λi e=>t o i v e λa=>Q σ a
theorem zu {c d:TE} {t:zt} (w:PE X o c) (A:PE X i d) (hs:wz X t)
  (q:∀ v,assign (.Subscript o i pos) X.env v=(do
   let a <- holding [v] (eval o X.env)
   let b <- holding [v,a] (eval i X.env)
   standAt pos
   holding [v,a,b] (setItem a b v)
   release [v,a,b] []):=by intro _;rfl):PG X (.Subscript o i pos) (DG c d t):=by
 intro pins s σ H v u Q I r h;rw [q];refine Ej (FU (thn (w pins s σ H _ I h) λa f ⟨x,l,g,p,n⟩=>?_));refine Ej (FU (thn (A pins f σ l _ g n) λb C ⟨y,D,z,k,e⟩=>?_));refine Ej (HB (Ej (FU (thn (hs pins C σ D x y v a b u _ z p k r e) λ_ E ⟨B,j,m⟩=>?_))));exact wpAny_release ⟨σ,B,j,m⟩
def rc (te:TE) (g:TG):TS:=λD σ H=>te σ H λx a=>g x σ a D.nx
theorem rC {tg e:Expr} {te:TE} {g:TG} (a:PE X e te) (f:PG X tg g) (hs:swapsWithSole [tg] e pos.line X.env=pure false:=by rfl) (l:swappedStores [tg] e X.env=pure none:=by rfl)
  (b:(assignEach [tg] X.env).map (·.2)=[assign tg X.env]:=by rfl):PS X (.Assign [tg] e pos) (rc te g):=by
 intro pins s σ H D I h;refine wpAny_Assign_stores (thn (a pins s σ H _ I h) λv i ⟨x,d,c,k,j⟩=>?_) hs l;rw [b];exact thn (f pins i σ d x v _ c k j) λ_ m q=>q
theorem gR (k:X.N.Nodup) (f:X.N[i]?=some x) (a:Loc X.env.scope x) (d:PE X e te) (hs:swapsWith e (some (.Name x pos')) pos.line X.env=pure false:=by rfl) (b:X.fn x=true\/X.env.scope.names.lookup x=some .local:=by first | exact .inl rfl | exact .inr rfl | assumption) :
  PS X (.Assign [.Name x pos'] e pos) (rc te (bg i)):=by
 intro pins s σ H D I h;refine wpAny_Assign_Name (thn (d pins s σ H _ I h) λv n ⟨y,j,g,m,l⟩=>?_) hs;exact S8 g k f a m (λo c=>⟨_,j,c,l⟩) b
end
section
variable {X:Cx} {pos:Pos}
def yA (c:TT) (e:TS):TS:=λD σ H=>∃ W:Nat->St->Hp->Prop,(∃ m,W m σ H)/\∀ m σ H,W m σ H ->
 c σ H λb d=>if b=true then ∃ N:St->Hp->Prop,(∀ a H',N a H'->∃ m',m'<m/\W m' a H')/\e { D with nx:=N,ct:=N,bk:=D.nx } σ d else D.nx σ d
theorem nj {tc:TT} {tb:TS} (hp:PassesOwn (model X.prog X.w) X.A X.env X.xe) (hc:PT X c tc) (hb:PSs X body tb):PS X (.While c body [] pos) (yA tc tb):=by
 intro pins s σ H D I h;obtain ⟨W,⟨m0,w0⟩,turn⟩:=h;refine wpAny_While (codeAny_whileLoop (λn s'=>∃ σ' H',Inv X pins σ' H' s'/\W n σ' H') ?_ m0 ⟨σ,H,I,w0⟩);rintro n s1 ⟨σ1,H1,I1,w1⟩;refine GJ hp (thn (hc pins s1 σ1 H1 _ I1 (turn n σ1 H1 w1)) λb s2 ⟨H2,I2,q2⟩=>?_);cases b with
 | true=>
  obtain ⟨N,hN,q2⟩:=q2;rw [if_pos rfl];refine GJ hp (thn (hb pins s2 σ1 H2 _ I2 q2) λf s3 q3=>?_);cases f with
  | next=>
   obtain ⟨σ3,H3,I3,n3⟩:=q3;obtain ⟨m',hm,w3⟩:=hN σ3 H3 n3;exact ⟨m',hm,σ3,H3,I3,w3⟩
  | cont=>
   obtain ⟨σ3,H3,I3,n3⟩:=q3;obtain ⟨m',hm,w3⟩:=hN σ3 H3 n3;exact ⟨m',hm,σ3,H3,I3,w3⟩
  | brk=>exact q3
  | ret v=>exact q3
 | false=>
  rw [if_neg Er];exact Hb ⟨σ1,H2,I2,q2⟩
end
structure It where
 go:Nat->Hp->Prop
 yld:Nat->Hp->V->Hp->Prop
 stop:Nat->Hp->Prop
def L0 (X:Cx) (pins:List (Addr×Obj)) (H:Hp) (b:Addr):Prop:=
 H b=none/\b≠X.env.locals/\b∉X.fs/\(b∈X.ex\/X.s₀.heap.objs.size<=b)/\(∀ x c,X.env.cells.lookup x=some c->c≠b)/\∀ p∈X.pn++pins,p.1≠b
theorem Inv.fpOk {σ:St} {H H':Hp} {s:Shared} {b:Addr} (I:Inv X pins σ H s) (a:s.heap.objs.size<=b) (f:H' b=none):L0 X pins H' b:=by
 refine ⟨f,HR (Fn I.lt a),I.nofs a,.inr (FD I.sz a),λx c e z=>?_,λp d z=>?_⟩
 ·obtain ⟨v,q⟩:=I.cell x c e;exact absurd (Fn q.lt (by rw [z];exact a)) (Hg _)
 ·exact absurd (Fn (Ew (I.pin p d).1) (by rw [z];exact a)) (Hg _)
structure Turn (P:Program) (w:World) (K:PySem.W.Frag) (tg:Expr) (J:It) (fp:List Addr) (it:Addr) (tn:Nat->Heap->Prop):Prop where
 mem:it∈fp
 obj:∀ i h,tn i h->∀ b∈fp,∃ o,h.get? b=some o/\∀ v,o.data≠.cell v
 keep:∀ i h h',tn i h->(∀ b∈fp,∀ o,h.get? b=some o->h'.get? b=some o)->tn i h'
 item:∀ (X:Cx),X.prog=P->X.w=w->X.K=K->X.calm=true->∀ (i:Nat) (pins:List (Addr×Obj)) (s:Shared) (σ:St) (H:Hp) (E:Value->Shared->Prop),Inv X pins σ H s->(∀ b∈fp,L0 X pins H b)->tn i s.heap->J.go i H ->
  wpAny (model P w) X.A (pyNext (.ref it)) (λr s1=>∃ u,r=some u /\
   wpAny (model P w) X.A (letOwnedTupleGo tg (.ref it) u) (λ_ s2=>∃ x H',Inv X pins σ H' s2/\RelV x u/\J.yld i H x H'/\tn (i+1) s2.heap/\∀ b∈fp,H' b=none) E s1) E s
 done:∀ (X:Cx),X.prog=P->X.w=w->X.K=K->X.calm=true->∀ (i:Nat) (pins:List (Addr×Obj)) (s:Shared) (σ:St) (H:Hp) (E:Value->Shared->Prop),Inv X pins σ H s->(∀ b∈fp,L0 X pins H b)->tn i s.heap->J.stop i H ->
  wpAny (model P w) X.A (pyNext (.ref it)) (λr s1=>r=none/\Inv X pins σ H s1) E s
 self:∀ (A:Around) (i:Nat) (s:Shared) (Q:Value->Shared->Prop) (E:Value->Shared->Prop),tn i s.heap->Q (.ref it) s->wpAny (model P w) A (pyIter (.ref it)) Q E s
abbrev TI:=St->Hp->(It->Hp->Prop)->Prop
def PIE (X:Cx) (pins:List (Addr×Obj)) (σ:St) (tg:Expr) (R:It->Hp->Prop) (a:Value) (d:Shared):Prop:=
 ∃ (it:Addr) (c:List Addr) (tn:Nat->Heap->Prop) (J:It) (H':Hp),a=.ref it/\Inv X pins σ H' d/\Turn X.prog X.w X.K tg J c it tn/\tn 0 d.heap/\(∀ b∈c,L0 X pins H' b)/\R J H'
def PI (X:Cx) (tg a:Expr) (b:TI):Prop:=
 ∀ (pins:List (Addr×Obj)) (s:Shared) (σ:St) (H:Hp) (R:It->Hp->Prop),Inv X pins σ H s->b σ H R ->
  wpAny (model X.prog X.w) X.A (eval a X.env) (λv c=>wpAny (model X.prog X.w) X.A (pyIter v) (PIE X pins σ tg R) X.xe c) X.xe s
theorem nw {s:Shared} {tg:Expr} {it:Addr} {u:Value} {o:Obj} {n:String} {vs:Array Value} {Q:Unit->Shared->Prop} (c:s.heap.get? it=some o) (b:o.cls=.type n) (hd:o.data=.fields vs)
  (d:["enumerate","zip","dict_itemiterator","dict_reverseitemiterator","odict_iterator","itertools.zip_longest","itertools.pairwise"].contains n=false) (a:Q () s):wpAny M A (letOwnedTupleGo tg (.ref it) u) Q E s:=by
 cases tg <;> first
  | exact Ek a
  | (cases u <;> first
    | exact Ek a
    | (refine Ej (JH c ?_);rw [b,hd];show wpAny M A (if (["enumerate","zip","dict_itemiterator","dict_reverseitemiterator","odict_iterator","itertools.zip_longest","itertools.pairwise"].contains n&&vs[0]?==some (rawInt _))=true then _ else _) Q E s;rw [if_neg (by intro h;rw [d,Bool.false_and] at h;cases h)];exact Ek a))
def Itl (K:PySem.W.Frag) (a:Addr):It:=
 ⟨λi H=>∃ xs x,SqL K H a xs/\xs[i]?=some x,λi H x H'=>H'=H/\∀ xs,SqL K H a xs->xs[i]?=some x,λi H=>∃ xs,SqL K H a xs/\xs.length<=i⟩
def Itt (K:PySem.W.Frag) (a:Addr):It:=
 ⟨λi H=>∃ xs x,SqT K H a xs/\xs[i]?=some x,λi H x H'=>H'=H/\∀ xs,SqT K H a xs->xs[i]?=some x,λi H=>∃ xs,SqT K H a xs/\xs.length<=i⟩
def Itr (lo:Int) (n:Nat):It:=⟨λi _=>i<n,λi H x H'=>H'=H/\x=.int (lo+i),λi _=>n<=i⟩
theorem mD {K:PySem.W.Frag} {tg:Expr} (a it:Addr):Turn P w K tg (Itl K a) [it] it (λi h=>h.IsListIter it a i) where
 mem:=by simp
 obj:=λi h st b f=>by
  have e:b=it:=by simpa using f
  subst e;obtain ⟨o,e,c,d⟩:=st;exact ⟨o,e,λv z=>by rw [d] at z;cases z⟩
 keep:=λi h h' st k=>st.at λo e=>k it (by simp) o e
 item:=by
  intro X G D A J i pins s σ H E I j st F;subst G D A;obtain ⟨xs,x,l,B⟩:=F;obtain ⟨n,C,p,hz⟩:=I.list l;obtain ⟨u,S,N⟩:=C.get B;obtain ⟨y,q,O,m,t,r⟩:=j it (by simp);refine wpAny_pyNext_list_item st p.isList (by simpa using S) λh' g R=>?_;have M:=I.turned (t':=s.toks) (λb o f e=>(R.2 b f).trans e) y q m t r;obtain ⟨o,e,c,d⟩:=id g;exact ⟨u,rfl,nw e c d (by decide) ⟨x,H,M,N,⟨rfl,λys Q=>by rw [I.list_inj Q l];exact B⟩,g,λb f=>(j b f).1⟩⟩
 done:=by
  intro X G D A J i pins s σ H E I j st F;subst G D A;obtain ⟨xs,l,B⟩:=F;obtain ⟨n,C,p,hz⟩:=I.list l;obtain ⟨y,q,O,m,t,r⟩:=j it (by simp);have T:=C.length;exact wpAny_pyNext_list_end (I.ok.hd J) st p.isList (by simp;omega) λh' L=>⟨rfl,I.turned (λb o f e=>L b o f e) y q m t r⟩
 self:=λ_ _ _ _ _ st h=>wpAny_pyIter_listiter st h
theorem hV {K:PySem.W.Frag} {tg:Expr} (a it:Addr):Turn P w K tg (Itt K a) [it] it (λi h=>h.IsTupleIter it a i) where
 mem:=by simp
 obj:=λi h st b f=>by
  have e:b=it:=by simpa using f
  subst e;obtain ⟨o,e,c,d⟩:=st;exact ⟨o,e,λv z=>by rw [d] at z;cases z⟩
 keep:=λi h h' st k=>st.at λo e=>k it (by simp) o e
 item:=by
  intro X G D A J i pins s σ H E I j st F;subst G D A;obtain ⟨xs,x,l,B⟩:=F;obtain ⟨n,C,p,hz⟩:=I.tuple l;obtain ⟨u,S,N⟩:=C.get B;obtain ⟨y,q,O,m,t,r⟩:=j it (by simp);refine wpAny_pyNext_tuple_item st (p) (by simpa using S) λh' g R=>?_;have M:=I.turned (t':=s.toks) (λb o f e=>(R.2 b f).trans e) y q m t r;obtain ⟨o,e,c,d⟩:=id g;exact ⟨u,rfl,nw e c d (by decide) ⟨x,H,M,N,⟨rfl,λys Q=>by rw [I.tuple_inj Q l];exact B⟩,g,λb f=>(j b f).1⟩⟩
 done:=by
  intro X G D A J i pins s σ H E I j st F;subst G D A;obtain ⟨xs,l,B⟩:=F;obtain ⟨n,C,p,hz⟩:=I.tuple l;obtain ⟨y,q,O,m,t,r⟩:=j it (by simp);have T:=C.length;exact wpAny_pyNext_tuple_end (I.ok.hd J) st (p) (by simp;omega) λh' L=>⟨rfl,I.turned (λb o f e=>L b o f e) y q m t r⟩
 self:=λ_ _ _ _ _ st h=>wpAny_pyIter_tupleiter st h
theorem hZ {K:PySem.W.Frag} {tg:Expr} (it:Addr) (lo:Int) (n:Nat):Turn P w K tg (Itr lo n) [it] it (λi h=>IsRangeIter h it (lo+(i:Nat) * 1) ((n:Int)-(i:Nat)) 1) where
 mem:=by simp
 obj:=λi h st b a=>by
  have e:b=it:=by simpa using a
  subst e;exact ⟨_,st,λv z=>by
   have D:=z;cases D⟩
 keep:=λi h h' st k=>k it (by simp) _ st
 item:=by
  intro X x r q g i pins s σ H E I d st u;subst x r q;obtain ⟨p,j,C,f,m,l⟩:=d it (by simp);have W:=Walks.range (prog:=X.prog) (w:=X.w) (I.ok.hd g) it lo 1 n;refine W.item i s _ _ u st λv h' G A c F=>?_;obtain ⟨t,rfl⟩:=A;have B:Inv X pins σ H { s with heap:=h',toks:=G }:=I.turned (λb o a e=>F b o (by simpa using a) e) p j f m l;refine ⟨_,rfl,nw c rfl rfl (by decide) ⟨.int (lo+i),H,B,⟨t,?_⟩,⟨rfl,rfl⟩,c,λb a=>(d b a).1⟩⟩;rw [Int.mul_one]
 done:=by
  intro X x r q g i pins s σ H E I d st u;subst x r q;obtain ⟨p,j,C,f,m,l⟩:=d it (by simp);exact wpAny_pyNext_range_end (I.ok.hd g) st (by have:n<=i:=u;omega) λh' y=>⟨rfl,I.turned (λb o a e=>y b o a e) p j f m l⟩
 self:=λ_ _ _ _ _ st h=>wpAny_pyIter_rangeiter st h
section
variable {X:Cx} {tg:Expr}
theorem fw {σ:St} {H:Hp} {s:Shared} {R:It->Hp->Prop} {E:Value->Shared->Prop} {lo a:Int} {t u v:Tok} {d:Nat} (I:Inv X pins σ H s) (f:-(2 ^ 62)<=lo) (j:lo<2 ^ 62) (l:-(2 ^ 62)<=a) (h:a<2 ^ 62)
  (q:R (Itr lo (a-lo).toNat) H):wpAny (model X.prog X.w) X.A (pyIter (.ref s.heap.objs.size)) (PIE X pins σ tg R) E { s with heap:=s.heap.push { cls:=.type "range",data:=.fields #[.int lo t,.int a u,.int 1 v] },toks:=d }:=by
 refine wpAny_pyIter_range (IsRange.new ..) (small_one f j l h) ?_;have c:Inv X pins σ H { s with heap:=s.heap.push { cls:=.type "range",data:=.fields #[.int lo t,.int a u,.int 1 v] },toks:=d }:=I.kept λb o e=>El _ e;refine ⟨(s.heap.push { cls:=.type "range",data:=.fields #[.int lo t,.int a u,.int 1 v] }).objs.size,[(s.heap.push { cls:=.type "range",data:=.fields #[.int lo t,.int a u,.int 1 v] }).objs.size],_,_,H,rfl,
  c.kept λb o e=>El _ e,hZ _ lo (a-lo).toNat,?_,λb k=>?_,q⟩
 ·have i:lo+((0:Nat):Int) * 1=lo:=by simp
  have g:(((a-lo).toNat:Nat):Int)-((0:Nat):Int)=Builtin.Range.rangeSize lo a 1:=by rw [rangeSize_one];split <;> omega
  rw [i,g];exact Eu _ rfl
 ·have e:b=(s.heap.push { cls:=.type "range",data:=.fields #[.int lo t,.int a u,.int 1 v] }).objs.size:=by simpa using k
  subst e;exact c.fpOk (Es _) (c.hok.fresh (Es _))
def BR (a:TA):TI:=λσ H R=>a σ H λvs b=>∃ j:Int,vs=[.int j]/\-(2 ^ 62)<=j/\j<2 ^ 62/\R (Itr 0 j.toNat) b
def AT (a:TA):TI:=λσ H R=>a σ H λvs b=>∃ i j:Int,vs=[.int i,.int j]/\(-(2 ^ 62)<=i/\i<2 ^ 62/\-(2 ^ 62)<=j/\j<2 ^ 62)/\R (Itr i (j-i).toNat) b
theorem lP (f:Gl X "range") (k:X.mg "range" = none) (c:PA X [a] ta) (hs:starEach [a] X.env=[(false,eval a X.env)]:=by rfl):PI X tg (.Call (.Name "range" p) [a] [] pos) (BR ta):=by
 intro pins s σ H R I h;refine Call_ (A8 I f k boot_range (Ga (thn (c pos pins s σ H _ I h) λus m ⟨vs,n,d,l,b⟩=>?_) hs rfl));obtain ⟨j,e,b,g,q⟩:=b;subst e;cases l with
 | cons r i=>
  cases i;obtain ⟨t,rfl⟩:=r;exact call_range_1 (fw d (by omega) (by omega) b g (by simpa using q))
theorem lr {p pos:Pos} (u:Gl X "range") (v:X.mg "range" = none) (g:PA X [a,b] ta) (hs:starEach [a,b] X.env=[(false,eval a X.env),(false,eval b X.env)]:=by rfl) (c:starEach [b] X.env=[(false,eval b X.env)]:=by rfl) :
  PI X tg (.Call (.Name "range" p) [a,b] [] pos) (AT ta):=by
 intro pins s σ H R I h;refine Call_ (A8 I u v boot_range (Ga (thn (g pos pins s σ H _ I h) λus x ⟨vs,y,l,w,f⟩=>?_) (by rw [hs,c]) (by rw [c];rfl)));obtain ⟨i,j,e,⟨f,o,m,n⟩,q⟩:=f;subst e;cases w with
 | cons r d=>
  cases d with
  | cons k d=>
   cases d;obtain ⟨t,rfl⟩:=r;obtain ⟨t',rfl⟩:=k;exact call_range_2 (fw l f o m n q)
def EY (f:TI) (g:TG) (c:TS):TS:=λD σ H=>f σ H λJ d=>∃ W:Nat->Nat->St->Hp->Prop,(∃ m,W 0 m σ d)/\∀ i m σ H,W i m σ H ->
 (J.stop i H/\D.nx σ H)\/(J.go i H/\∃ N:St->Hp->Prop,(∀ a H',N a H'->∃ m',m'<m/\W (i+1) m' a H')/\∀ x H',J.yld i H x H'->g x σ H' λb e=>c { D with nx:=N,ct:=N,bk:=D.nx } b e)
def D7 (a:List Addr) (h:Heap):List (Addr×Obj):=a.filterMap λb=>(h.get? b).map λo=>(b,o)
theorem o0 {b:Addr} {o:Obj} (a:b∈fp) (e:h.get? b=some o):(b,o)∈D7 fp h:=List.mem_filterMap.mpr ⟨b,a,by rw [e];rfl⟩
theorem lR (a:p∈D7 fp h):p.1∈fp/\h.get? p.1=some p.2:=by
 obtain ⟨b,c,e⟩:=List.mem_filterMap.mp a;cases q:h.get? b with
 | none=>rw [q] at e;cases e
 | some o=>
  rw [q] at e;have d:=FR e;subst d;exact ⟨c,q⟩
theorem Inv.pinned {σ:St} {H:Hp} {s:Shared} {a:List Addr} (I:Inv X pins σ H s) (i:∀ b∈a,L0 X pins H b) (k:∀ b∈a,∃ o,s.heap.get? b=some o/\∀ v,o.data≠.cell v):Inv X (pins++D7 a s.heap) σ H s:=
 I.pins_of λp j=>(Fo.mp j).elim (λz=>I.pin p (Fm _ z)) λz=>by
  obtain ⟨c,e⟩:=lR z;obtain ⟨h,l,g,_⟩:=i p.1 c;obtain ⟨o,f,d⟩:=k p.1 c;rw [e] at f;cases f;exact ⟨e,h,l,g,d⟩
theorem Inv.unpinned {σ:St} {H:Hp} {s:Shared} (I:Inv X (pins++pl) σ H s):Inv X pins σ H s:=I.pins_of λp a=>I.pin p (Fm _ (List.mem_append_left _ a))
theorem xf {wi:TI} {g:TG} {tb:TS} {pos:Pos} (hp:PassesOwn (model X.prog X.w) X.A X.env X.xe) (hc:X.calm=true) (hi:PI X tg iter wi) (hg:PG X tg g) (hb:PSs X body tb)
  (hs:∀ x,foldedSetIterable iter X.env x=pure x:=by intro _;rfl):PS X (.For tg iter body [] pos) (EY wi g tb):=by
 intro pins s σ H D I h;refine wpAny_For (thn (hi pins s σ H _ I h) λv s1 h1=>thn h1 λitv s2 h2=>?_) hs;obtain ⟨it,fp,tn,J,H2,e,I2,T,st2,f2,W,⟨m0,w0⟩,turn⟩:=h2;subst e;have stat:∀ {H':Hp},(∀ b∈fp,H' b=none)->∀ b∈fp,L0 X pins H' b:=λhn b hb=>⟨hn b hb,(f2 b hb).2⟩;refine codeAny_forLoop_any (λn s'=>∃ i σ' H',Inv X pins σ' H' s'/\tn i s'.heap/\(∀ b∈fp,H' b=none)/\W i n σ' H') ?_ m0 ⟨0,σ,H2,I2,st2,λb hb=>(f2 b hb).1,w0⟩;rintro n s3 ⟨i,σ3,H3,I3,st3,fr3,w3⟩;rcases turn i n σ3 H3 w3 with ⟨stop,qn⟩ | ⟨go,N,hN,step⟩
 ·refine GJ hp (thn (T.done X rfl rfl rfl hc i pins s3 σ3 H3 X.xe I3 (stat fr3) st3 stop) λr s4 ⟨hr,I4⟩=>?_);subst hr;exact Hb ⟨σ3,H3,I4,qn⟩
 ·refine GJ hp (thn (T.item X rfl rfl rfl hc i pins s3 σ3 H3 X.xe I3 (stat fr3) st3 go) λr s4 ⟨u,hr,h4⟩=>?_);subst hr;refine GJ hp (thn h4 λ_ s5 ⟨x,H5,I5,r5,y5,st5,fr5⟩=>?_);have I5':=I5.pinned (stat fr5) (T.obj _ _ st5);refine GJ hp (thn (hg _ s5 σ3 H5 x u _ I5' r5 (step x H5 y5)) λ_ s6 ⟨σ6,H6,I6,q6⟩=>?_);refine GJ hp (thn (hb _ s6 σ6 H6 _ I6 q6) λf s7 q7=>?_);have again:∀ {σ7:St} {H7:Hp},Inv X (pins++D7 fp s5.heap) σ7 H7 s7->N σ7 H7->∃ m,m<n/\∃ i σ' H',Inv X pins σ' H' s7/\tn i s7.heap/\(∀ b∈fp,H' b=none)/\W i m σ' H':=λ{σ7 H7} I7 n7=>by
   obtain ⟨m',hm,w7⟩:=hN σ7 H7 n7;refine ⟨m',hm,i+1,σ7,H7,I7.unpinned,T.keep _ _ _ st5 λb hb o e=>(I7.pin (b,o) (Fm _ (Fm _ (o0 hb e)))).1,λb hb=>?_,w7⟩;obtain ⟨o,e,d⟩:=T.obj _ _ st5 b hb;exact (I7.pin (b,o) (Fm _ (Fm _ (o0 hb e)))).2.1
  cases f with
  | next=>obtain ⟨σ7,H7,I7,n7⟩:=q7;exact again I7 n7
  | cont=>obtain ⟨σ7,H7,I7,n7⟩:=q7;exact again I7 n7
  | brk=>obtain ⟨σ7,H7,I7,q7⟩:=q7;exact ⟨σ7,H7,I7.unpinned,q7⟩
  | ret v=>obtain ⟨x7,σ7,H7,I7,r7,q7⟩:=q7;exact ⟨x7,σ7,H7,I7.unpinned,r7,q7⟩
end
abbrev R2:=V->V->Hp->VK->Prop
def OpR (X:Cx) (f:Value->Value->Sem Value) (r:R2):Prop:=
 ∀ (pins:List (Addr×Obj)) (s:Shared) (σ:St) (H:Hp) (x y:V) (v u:Value) (Q:VK),Inv X pins σ H s->RelV x v->RelV y u->r x y H Q ->
  wpAny (model X.prog X.w) X.A (f v u) (EP X pins σ Q) X.xe s
def UnR (X:Cx) (f:Value->Sem Value) (r:V->Hp->VK->Prop):Prop:=
 ∀ (pins:List (Addr×Obj)) (s:Shared) (σ:St) (H:Hp) (x:V) (v:Value) (Q:VK),Inv X pins σ H s->RelV x v->r x H Q ->
  wpAny (model X.prog X.w) X.A (f v) (EP X pins σ Q) X.xe s
def i9 (X:Cx) (f:Value) (r:List V->Hp->VK->Prop):Prop:=
 ∀ (pins:List (Addr×Obj)) (s:Shared) (σ:St) (H:Hp) (xs:List V) (us:List Value) (Q:VK),Inv X pins σ H s->Vals xs us->r xs H Q ->
  wpAny (model X.prog X.w) X.A (call f us) (EP X pins σ Q) X.xe s
def Ea (X:Cx) (r:V->Hp->(Bool->Hp->Prop)->Prop):Prop:=
 ∀ (pins:List (Addr×Obj)) (s:Shared) (σ:St) (H:Hp) (x:V) (v:Value) (Q:Bool->Hp->Prop),Inv X pins σ H s->RelV x v->r x H Q ->
  wpAny (model X.prog X.w) X.A (truthy v) (TP X pins σ Q) X.xe s
def tOp (r:R2) (a b:TE):TE:=λσ H Q=>a σ H λx d=>b σ d λy c=>r x y c Q
def tUn (r:V->Hp->VK->Prop) (a:TE):TE:=λσ H Q=>a σ H λx b=>r x b Q
def rI (C:Int->Int->Prop) (g:Int->Int->V):R2:=λx y H Q=>∃ i j,x=.int i/\y=.int j/\C i j/\Q (g i j) H
def rI0 (g:Int->Int->V):R2:=λx y H Q=>∃ i j,x=.int i/\y=.int j/\Q (g i j) H
def rU (g:Int->V):V->Hp->VK->Prop:=λx H Q=>∃ i,x=.int i/\Q (g i) H
section
variable {X:Cx} {a b c:Expr} {ta tb tc:TE} {pos:Pos}
theorem ya (j:PE X a ta) (l:PE X b tb) {pins:List (Addr×Obj)} {s:Shared} {σ:St} {H:Hp} {R:V->V->Hp->Prop} (I:Inv X pins σ H s)
  (h:ta σ H λx g=>tb σ g λy d=>R x y d) {Q:Value->Shared->Prop} {f:Value->Value->Sem Value}
  (o:∀ v u i x y d,Inv X pins σ d i->RelV x v->RelV y u->R x y d->wpAny (model X.prog X.w) X.A (f v u) Q X.xe i) :
  wpAny (model X.prog X.w) X.A (eval a X.env) (λv c=>wpAny (model X.prog X.w) X.A (eval b X.env) (λu e=>wpAny (model X.prog X.w) X.A (f v u) Q X.xe e) X.xe c) X.xe s:=by
 refine thn (j pins s σ H _ I h) λv m ⟨x,g,k,t,n⟩=>?_;refine thn (l pins m σ g _ k n) λu i ⟨y,d,q,p,r⟩=>?_;grind
theorem AF (d:OpR X (binaryOp op) r) (c:PE X a ta) (g:PE X b tb):PE X (.BinOp a op b pos) (tOp r ta tb):=by
 intro pins s σ H Q I h;exact wpAny_BinOp (ya c g I h λv u j x y k e i f q=>d pins j σ k x y v u Q e i f q)
theorem Bg (c:UnR X (unaryOp op) r) (b:PE X a ta):PE X (.UnaryOp op a pos) (tUn r ta):=by
 intro pins s σ H Q I h;exact UnaryOp_ (thn (b pins s σ H _ I h) λv f ⟨x,e,d,i,g⟩=>c pins f σ e x v Q d i g)
theorem opI {C:Int->Int->Prop} {g:Int->Int->Int}
  (a:∀ (i j:Int) (t u:Tok) (s:Shared) (Q:Value->Shared->Prop) (E:Value->Shared->Prop),C i j->Q (.int (g i j) s.toks) { s with toks:=s.toks+1 }->wpAny (model X.prog X.w) X.A (f (.int i t) (.int j u)) Q E s) :
  OpR X f (rI C λi j=>.int (g i j)):=by
 intro pins s σ H x y v u Q I d c h;obtain ⟨i,j,rfl,rfl,b,q⟩:=h;obtain ⟨t,rfl⟩:=d;obtain ⟨t',rfl⟩:=c;exact a i j t t' s _ _ b ⟨.int (g i j),H,I.tok _,⟨_,rfl⟩,q⟩
theorem BF {g:Int->Int->Int}
  (a:∀ (i j:Int) (t u:Tok) (s:Shared) (Q:Value->Shared->Prop) (E:Value->Shared->Prop),Q (.int (g i j) s.toks) { s with toks:=s.toks+1 }->wpAny (model X.prog X.w) X.A (f (.int i t) (.int j u)) Q E s) :
  OpR X f (rI0 λi j=>.int (g i j)):=by
 intro pins s σ H x y v u Q I c b h;obtain ⟨i,j,rfl,rfl,q⟩:=h;obtain ⟨t,rfl⟩:=c;obtain ⟨t',rfl⟩:=b;exact a i j t t' s _ _ ⟨.int (g i j),H,I.tok _,⟨_,rfl⟩,q⟩
theorem tN {g:Int->Int->Bool}
  (a:∀ (i j:Int) (t u:Tok) (s:Shared) (Q:Value->Shared->Prop) (E:Value->Shared->Prop),Q (.bool (g i j)) s->wpAny (model X.prog X.w) X.A (f (.int i t) (.int j u)) Q E s) :
  OpR X f (rI0 λi j=>.bl (g i j)):=by
 intro pins s σ H x y v u Q I c b h;obtain ⟨i,j,rfl,rfl,q⟩:=h;obtain ⟨t,rfl⟩:=c;obtain ⟨t',rfl⟩:=b;exact a i j t t' s _ _ ⟨.bl (g i j),H,I,rfl,q⟩
def qF (i j:Int):Prop:=0<j/\j<1073741824
def vg (i j:Int):Prop:=0<=j/\j<=1000000/\i.natAbs<2 ^ 64
def CMul (i j:Int):Prop:=(-(2 ^ 64)<i/\i<2 ^ 64)\/(-(2 ^ 64)<j/\j<2 ^ 64)
theorem CMul.ok (h:CMul i j):IntMulOk i j:=by
 rcases h with ⟨b,a⟩ | ⟨b,a⟩
 ·exact .of_left (intBits_le_64 b a)
 ·exact .of_right (intBits_le_64 b a)
theorem xn:OpR X (binaryOp .Add) (rI0 λi j=>.int (i+j)):=BF λ_ _ _ _ _ _ _ q=>add_int q
theorem yn:OpR X (binaryOp .Sub) (rI0 λi j=>.int (i-j)):=BF λ_ _ _ _ _ _ _ q=>sub_int q
theorem yI:OpR X (binaryOp .Mult) (rI CMul λi j=>.int (i * j)):=opI λ_ _ _ _ _ _ _ a q=>mul_int q a.ok
theorem sC:OpR X (binaryOp .FloorDiv) (rI qF λi j=>.int (i / j)):=opI λi j _ _ _ _ _ a q=>by
 have c:=a.1;have b:=a.2;exact floordiv_int (by omega) (by rw [Int.fdiv_eq_ediv_of_nonneg i (by omega)];exact q) (.inl (PyProof.noPylong_small (by omega)))
theorem yG:OpR X (binaryOp .Mod) (rI (λ_ j=>0<j) λi j=>.int (i % j)):=opI λi j _ _ _ _ _ a q=>by
 have b:=a;exact mod_int' (by omega) (by rw [Int.fmod_eq_emod_of_nonneg i (by omega)];exact q)
theorem xx:OpR X (binaryOp .Pow) (rI vg λi j=>.int (i ^ j.toNat)):=opI λ_ _ _ _ _ _ _ a q=>pow_int_small a.1 a.2.1 a.2.2 q
theorem unI {g:Int->Int}
  (a:∀ (i:Int) (t:Tok) (s:Shared) (Q:Value->Shared->Prop) (E:Value->Shared->Prop),Q (.int (g i) s.toks) { s with toks:=s.toks+1 }->wpAny (model X.prog X.w) X.A (f (.int i t)) Q E s) :
  UnR X f (rU λi=>.int (g i)):=by
 intro pins s σ H x v Q I b h;obtain ⟨i,rfl,q⟩:=h;obtain ⟨t,rfl⟩:=b;exact a i t s _ _ ⟨.int (g i),H,I.tok _,⟨_,rfl⟩,q⟩
theorem yU:UnR X (unaryOp .USub) (rU λi=>.int (-i)):=unI λ_ _ _ _ _ q=>neg_int q
end
def Ar:V->V->Bool
 | .non,.non=>true | .non,.int _=>true | .int _,.non=>true | .non,.bl _=>true | .bl _,.non=>true | .non,.str _=>true | .str _,.non=>true
 | .int _,.int _=>true | .bl _,.bl _=>true | .str _,.str _=>true | .byt _,.byt _=>true
 | .int _,.str _=>true | .str _,.int _=>true | .bl _,.str _=>true | .str _,.bl _=>true
 | _,_=>false
def rEq:R2:=λx y H Q=>Ar x y=true/\Q (.bl (decide (x=y))) H
def rNe:R2:=λx y H Q=>Ar x y=true/\Q (.bl (!decide (x=y))) H
theorem ik {i j:Int}:decide (V.int i=V.int j)=(i==j):=by grind
theorem qP {i j:Bool}:decide (V.bl i=V.bl j)=(i==j):=by grind
theorem iu {i j:Str}:decide (V.str i=V.str j)=(i==j):=by grind
theorem jv:decide (V.byt i=V.byt j)=(i.toList==j.toList):=by
 rw [Hc];simp_all
section
variable {X:Cx} {a b c:Expr} {ta tb tc:TE} {pos:Pos}
theorem d7 {σ:St} {H:Hp} {s:Shared} {Q:VK} {k a:Bool} (I:Inv X pins σ H s) (q:Q (.bl k) H) (e:k=a):EP X pins σ Q (.bool a) s:=by
 subst e;exact ⟨.bl k,H,I,rfl,q⟩
theorem Bv:OpR X (compareOp .Eq) rEq:=by
 intro pins s σ H x y v u Q I rx ry h;obtain ⟨hs,q⟩:=h;cases x with
 | non=>
  cases rx;cases y with
  | non=>cases ry;exact PySem.EqNone.eq_none_none (d7 I q (by simp))
  | bl j=>cases ry;exact PySem.EqNone.eq_none_bool (d7 I q (by simp))
  | int j=>obtain ⟨t',rfl⟩:=ry;exact PySem.EqNone.eq_none_int (d7 I q (by simp))
  | str j=>obtain ⟨t',rfl⟩:=ry;exact PySem.EqNone.eq_none_str (d7 I q (by simp))
  | _=>exact absurd (hs) Er
 | bl i=>
  cases rx;cases y with
  | non=>cases ry;exact PySem.EqNone.eq_bool_none (d7 I q (by simp))
  | bl j=>cases ry;exact eq_bool (d7 I q qP)
  | str j=>obtain ⟨t',rfl⟩:=ry;exact PySem.EqMixed.eq_bool_str (d7 I q (by simp))
  | _=>exact absurd (hs) Er
 | int i=>
  obtain ⟨t,rfl⟩:=rx;cases y with
  | non=>cases ry;exact PySem.EqNone.eq_int_none (d7 I q (by simp))
  | int j=>obtain ⟨t',rfl⟩:=ry;exact eq_int (d7 I q ik)
  | str j=>obtain ⟨t',rfl⟩:=ry;exact PySem.EqMixed.eq_int_str (d7 I q (by simp))
  | _=>exact absurd (hs) Er
 | str i=>
  obtain ⟨t,rfl⟩:=rx;cases y with
  | non=>cases ry;exact PySem.EqNone.eq_str_none (d7 I q (by simp))
  | bl j=>cases ry;exact PySem.EqMixed.eq_str_bool (d7 I q (by simp))
  | int j=>obtain ⟨t',rfl⟩:=ry;exact PySem.EqMixed.eq_str_int (d7 I q (by simp))
  | str j=>obtain ⟨t',rfl⟩:=ry;exact eq_str (d7 I q iu)
  | _=>exact absurd (hs) Er
 | byt i=>
  obtain ⟨t,rfl⟩:=rx;cases y with
  | byt j=>obtain ⟨t',rfl⟩:=ry;exact PySem.W.eq_bytes (d7 I q jv)
  | _=>exact absurd (hs) Er
 | _=>cases y <;> exact absurd (hs) Er
theorem CQ:OpR X (compareOp .NotEq) rNe:=by
 intro pins s σ H x y v u Q I rx ry h;obtain ⟨hs,q⟩:=h;cases x with
 | non=>
  cases rx;cases y with
  | non=>cases ry;exact PySem.EqNone.ne_none_none (d7 I q (by simp))
  | bl j=>cases ry;exact PySem.EqNone.ne_none_bool (d7 I q (by simp))
  | int j=>obtain ⟨t',rfl⟩:=ry;exact PySem.EqNone.ne_none_int (d7 I q (by simp))
  | str j=>obtain ⟨t',rfl⟩:=ry;exact PySem.EqNone.ne_none_str (d7 I q (by simp))
  | _=>exact absurd (hs) Er
 | bl i=>
  cases rx;cases y with
  | non=>cases ry;exact PySem.EqNone.ne_bool_none (d7 I q (by simp))
  | bl j=>cases ry;exact ne_bool (d7 I q (congrArg not qP))
  | str j=>obtain ⟨t',rfl⟩:=ry;exact PySem.EqMixed.ne_bool_str (d7 I q (by simp))
  | _=>exact absurd (hs) Er
 | int i=>
  obtain ⟨t,rfl⟩:=rx;cases y with
  | non=>cases ry;exact PySem.EqNone.ne_int_none (d7 I q (by simp))
  | int j=>obtain ⟨t',rfl⟩:=ry;exact ne_int (d7 I q (congrArg not ik))
  | str j=>obtain ⟨t',rfl⟩:=ry;exact PySem.EqMixed.ne_int_str (d7 I q (by simp))
  | _=>exact absurd (hs) Er
 | str i=>
  obtain ⟨t,rfl⟩:=rx;cases y with
  | non=>cases ry;exact PySem.EqNone.ne_str_none (d7 I q (by simp))
  | bl j=>cases ry;exact PySem.EqMixed.ne_str_bool (d7 I q (by simp))
  | int j=>obtain ⟨t',rfl⟩:=ry;exact PySem.EqMixed.ne_str_int (d7 I q (by simp))
  | str j=>obtain ⟨t',rfl⟩:=ry;exact ne_str (d7 I q (congrArg not iu))
  | _=>exact absurd (hs) Er
 | byt i=>
  obtain ⟨t,rfl⟩:=rx;cases y with
  | byt j=>obtain ⟨t',rfl⟩:=ry;exact PySem.W.ne_bytes (d7 I q (congrArg not jv))
  | _=>exact absurd (hs) Er
 | _=>cases y <;> exact absurd (hs) Er
theorem CK:OpR X (compareOp .Lt) (rI0 λi j=>.bl (decide (i<j))):=tN λ_ _ _ _ _ _ _ q=>lt_int q
theorem Aa:OpR X (compareOp .LtE) (rI0 λi j=>.bl (decide (i<=j))):=tN λ_ _ _ _ _ _ _ q=>le_int q
theorem Al:OpR X (compareOp .Gt) (rI0 λi j=>.bl (decide (j<i))):=tN λ_ _ _ _ _ _ _ q=>gt_int q
theorem BX:OpR X (compareOp .GtE) (rI0 λi j=>.bl (decide (j<=i))):=tN λ_ _ _ _ _ _ _ q=>ge_int q
theorem yZ (b:Expr) {op:CmpOp} (h:op≠.In:=by decide) (c:op≠.NotIn:=by decide):behindInMarks op b=false:=by
 have a:(op==CmpOp.In)=false:=by cases op <;> first | rfl | exact absurd rfl h
 have d:(op==CmpOp.NotIn)=false:=by cases op <;> first | rfl | exact absurd rfl c
 cases b <;> simp [behindInMarks,a,d]
theorem vz (d:OpR X (compareOp op) r) (c:PE X a ta) (g:PE X b tb) (k:behindInMarks op b=false):PE X (.Compare a [op] [b] pos) (tOp r ta tb):=by
 intro pins s σ H Q I h;exact wpAny_Compare1 (ya c g I h λv u j x y l e i f q=>d pins j σ l x y v u Q e i f q) k
def BB (t:TE):TT:=λσ H Q=>t σ H λx H'=>∃ k,x=.bl k/\Q k H'
theorem td (w:OpR X (compareOp op) r) (t:PE X a ta) (j:PE X b tb) (o:behindInMarks op b=false):PT X (.Compare a [op] [b] pos) (BB (tOp r ta tb)):=by
 intro pins s σ H Q I h;refine wpAny_isTrue_Compare1 (thn (t pins s σ H _ I h) λv f ⟨x,m,g,q,p⟩=>thn (j pins f σ m _ g p) λu C ⟨y,D,A,l,d⟩=>
  thn (w pins C σ D x y v u _ A q l d) λc F ⟨z,B,i,E,k,e,n⟩=>?_) o
 subst e;cases E;exact Hi ⟨B,i,n⟩
def zH (r c:R2) (f d h:TE):TE:=λσ H Q=>f σ H λx e=>d σ e λy g=>r x y g λz a=>∃ k,z=.bl k /\
 (if k=true then h σ a λw' b=>c y w' b Q else Q (.bl false) a)
theorem qE {r j:R2} (N:OpR X (compareOp op) r) (f:OpR X (compareOp op') j) (M:PE X a ta) (B:PE X b tb) (q:PE X c tc)
  (G:lastMarks [op,op'] [b,c]=false:=by with_unfolding_all rfl):PE X (.Compare a [op,op'] [b,c] pos) (zH r j ta tb tc):=by
 intro pins s σ H Q I h;refine Compare_chain (thn (M pins s σ H _ I h) λv p ⟨x,D,A,K,J⟩=>chain_link (thn (B pins p σ D _ A J) λu P ⟨y,R,O,i,n⟩=>
  thn (N pins P σ R x y v u _ O K i n) λd w ⟨z,m,g,S,k,e,l⟩=>?_)) G
 subst e;cases S;refine Hi ?_;cases k with
 | false=>exact ite_ff ⟨.bl false,m,g,rfl,l⟩
 | true=>exact ite_tt (chain_last (thn (q pins w σ m _ g l) λw' t ⟨F,L,o,C,E⟩=>f pins t σ L y F u w' Q o i C E))
def ko (K:PySem.W.Frag) (x:V) (H:Hp) (k:Bool):Prop:=
 match x with
 | .non=>k=false
 | .bl b=>k=b
 | .int i=>k=(i != 0)
 | .str y=>y.length<=sizeLine/\k=((y.length:Int) != 0)
 | .byt y=>y.size<=sizeLine/\k=((y.size:Int) != 0)
 | .ref p=>(∃ xs,SqL K H p xs/\k=!xs.isEmpty)\/(∃ xs,SqT K H p xs/\k=!xs.isEmpty)\/∃ a,H p=some (.dK a)/\k=!a.isEmpty
 | _=>False
theorem iV (r:KV kvs vs):(!vs.isEmpty)=!kvs.isEmpty:=by
 cases r <;> rfl
theorem aL (r:Vals xs its):(!its.toArray.isEmpty)=!xs.isEmpty:=by
 cases r <;> simp
theorem W5:(sizeLine:Nat)<2 ^ 63:=by rw [Fp];decide
theorem dD:Ea X (λx H Q=>∃ k,ko X.K x H k/\Q k H):=by
 intro pins s σ H x v Q I rx h;obtain ⟨k,e,q⟩:=h;have hl:=W5;have hs:=Fp;cases x with
 | non=>
  cases rx;have e':=e;subst e';exact truthy_none ⟨H,I,q⟩
 | bl b=>
  cases rx;have e':=e;subst e';exact Hi ⟨H,I,q⟩
 | int i=>
  obtain ⟨t,rfl⟩:=rx;have e':=e;subst e';exact PySem.P.truthy_int ⟨H,I,q⟩
 | str y=>
  obtain ⟨t,rfl⟩:=rx;obtain ⟨hy,e'⟩:=e;subst e';exact PySem.P.truthy_str (by omega) ⟨H,I.tok _,q⟩
 | byt y=>
  obtain ⟨t,rfl⟩:=rx;obtain ⟨hy,e'⟩:=e;subst e';exact PySem.W.truthy_bytes (by omega) ⟨H,I.tok _,q⟩
 | ref p=>
  cases rx;have e':=e;rcases e' with ⟨xs,hx,e'⟩ | ⟨xs,hx,e'⟩ | ⟨kvs,hx,e'⟩
  ·subst e';obtain ⟨its,r,pl,hz⟩:=I.list hx;have hlen:=r.length;exact wpAny_truthy_list pl.isList (by simp;omega) ⟨H,I.tok _,by rw [aL r];exact q⟩
  ·subst e';obtain ⟨its,r,pl,hz⟩:=I.tuple hx;have hlen:=r.length;exact truthy_tuple pl (by simp;omega) ⟨H,I.tok _,by rw [aL r];exact q⟩
  ·subst e';obtain ⟨hz,hS,vs,r,m⟩:=I.hok p _ hx;have hlen:=Paired.length r;exact wpAny_truthy_dict hS m (by omega) ⟨H,I.tok _,by rw [iV r];exact q⟩
 | _=>exact (e).elim
theorem oe (c:PE X a ta) (d:∀ b,isTrue a X.env b=(do let v <- b;standAt a.pos;holding [v] (truthy v))) :
  PT X a (λσ H Q=>ta σ H λx H'=>∃ k,ko X.K x H' k/\Q k H'):=by
 intro pins s σ H Q I h;exact isTrue_plain (thn (c pins s σ H _ I h) λv g ⟨x,f,e,j,i⟩=>dD pins g σ f x v Q e j i) (d _)
theorem gD:OpR X (binaryOp .Add) (λx y H Q=>∃ i j,x=.str i/\y=.str j/\i.length+j.length<=sizeLine/\Q (.str (i++j)) H):=by
 intro pins s σ H x y v u Q I b a h;obtain ⟨i,j,rfl,rfl,hz,q⟩:=h;obtain ⟨t,rfl⟩:=b;obtain ⟨t',rfl⟩:=a;exact add_str (λt' c=>⟨.str (i++j),H,I.tok _,⟨_,rfl⟩,q⟩) hz
theorem K3 (r:Vals [x] us):∃ u,us=[u]/\RelV x u:=by
 cases r with
 | cons b a=>cases a;exact ⟨_,rfl,b⟩
theorem jt (r:Vals [x,y] us):∃ u w',us=[u,w']/\RelV x u/\RelV y w':=by
 cases r with
 | cons b a=>
  cases a with
  | cons d c=>cases c;exact ⟨_,_,rfl,b,d⟩
theorem cJ:i9 X (.type "int") (λxs H Q=>(∃ i,xs=[.int i]/\Q (.int i) H)\/∃ k,xs=[.bl k]/\Q (.int (if k then 1 else 0)) H):=by
 intro pins s σ H xs us Q I r h;rcases h with ⟨i,rfl,q⟩ | ⟨k,rfl,q⟩
 ·obtain ⟨u,rfl,t,rfl⟩:=K3 r;exact call_int_int ⟨.int i,H,I,⟨_,rfl⟩,q⟩
 ·obtain ⟨u,rfl,a⟩:=K3 r;cases a;exact call_int_bool ⟨.int (if k then 1 else 0),H,I.tok _,⟨_,rfl⟩,q⟩
theorem dv:i9 X (.type "str") (λxs H Q=>∃ i,xs=[.int i]/\i.natAbs.log2<1920/\Q (.str (toString i)) H):=by
 intro pins s σ H xs us Q I r h;obtain ⟨i,rfl,hz,q⟩:=h;obtain ⟨u,rfl,t,rfl⟩:=K3 r;exact PySem.P.str_of_int hz ⟨.str _,H,I.tok _,⟨_,rfl⟩,q⟩
end
theorem N2 {h:Heap} {c:Addr} {mA:Str->Option Value} (n:h.Ns1 c mA):∃ od,h.get? c=some od/\∀ name,PySem.W.lookIn name od=some (mA name):=by
 obtain ⟨o,es,k,g,hd,d,_,j⟩:=n;refine ⟨o,g,λname=>?_⟩;have e:=j name;unfold nsFind findBy at e;rw [<- Array.find?_toList] at e;unfold PySem.W.lookIn;rw [hd];dsimp only;split
 ·grind
 ·rename_i q;rw [q] at e;have a:es.toList.any (·.refKey)=false:=by
   rw [Ja];intro y f;obtain ⟨z,t,b⟩:=d y (Array.mem_toList_iff.mp f);simp [DictEntry.refKey,b]
  have i:¬ es.toList.any (·.refKey)=true:=by rw [a];exact Er
  rw [if_neg i];exact congrArg some e
def K5 (f:Str) (v:V):List (Str×V)->List (Str×V)
 | []=>[(f,v)]
 | (g,x) :: r=>if g=f then (g,v) :: r else (g,x) :: K5 f v r
theorem Y0 (f g:Str) (v:V):∀ fs:List (Str×V),(K5 f v fs).lookup g=if g=f then some v else fs.lookup g
 | []=>by
  show List.lookup g [(f,v)]=_;by_cases h:g=f
  ·have a:(g==f)=true:=Ih.mpr h;simp only [List.lookup,a,if_pos h]
  ·grind
 | (k,x) :: r=>by
  have c:=Y0 f g v r;rw [show K5 f v ((k,x) :: r)=(if k=f then (k,v) :: r else (k,x) :: K5 f v r) from rfl];by_cases b:k=f
  ·grind
  ·grind
theorem V3 (f:Str) (v:V):∀ fs:List (Str×V),f∈(K5 f v fs).map (·.1)/\∀ g,g∈fs.map (·.1)->g∈(K5 f v fs).map (·.1)
 | []=>⟨by simp [K5],λg h=>by simp at h⟩
 | (k,x) :: r=>by
  obtain ⟨a,c⟩:=V3 f v r;rw [show K5 f v ((k,x) :: r)=(if k=f then (k,v) :: r else (k,x) :: K5 f v r) from rfl];by_cases b:k=f
  ·grind
  ·grind
theorem X8 (f:Str) (v:V):∀ fs:List (Str×V),(K5 f v fs).length<=fs.length+1
 | []=>by simp [K5]
 | (k,x) :: r=>by
  have b:=X8 f v r;rw [show K5 f v ((k,x) :: r)=(if k=f then (k,v) :: r else (k,x) :: K5 f v r) from rfl];by_cases a:k=f
  ·grind
  ·grind
theorem RelO.some_of (r:RelO (some v) o):∃ u,o=some u/\RelV v u:=by
 cases o with
 | none=>exact (r).elim
 | some u=>exact ⟨u,rfl,r⟩
theorem li (r:RelV v u):PySem.W.handedIn u=true:=by
 cases v with
 | non=>cases (r);rfl
 | bl b=>cases (r);rfl
 | int i=>obtain ⟨t,e⟩:=(r);cases e;rfl
 | str x=>obtain ⟨t,e⟩:=(r);cases e;rfl
 | byt b=>obtain ⟨t,e⟩:=(r);cases e;rfl
 | flt b=>obtain ⟨t,e⟩:=(r);cases e;rfl
 | ref a=>cases (r);rfl
 | ty n=>cases (r);rfl
def v1 (K:PySem.W.Frag) (C:Addr) (f:Str):Prop:=PySem.W.findIn K (.ref C) f=some none
section
variable {X:Cx} {pins:List (Addr×Obj)} {σ:St} {H:Hp} {s:Shared} {a C dx:Addr} {fs:List (Str×V)} {f:Str} {v:V} {A:Around} {E:Value->Shared->Prop}
theorem sH {a:Env} {e:Expr} {f:Str} {pos:Pos} {s:Shared} {Q:Value->Shared->Prop} (c:attributeBase e f a (eval e a)=eval e a)
  (h:wpAny (model prog w) A (eval e a) (λo b=>wpAny (model prog w) A (getAttr o f true) Q E b) E s):wpAny (model prog w) A (eval (.Attribute e f pos) a) Q E s:=
 Attribute_any_ h (by rw [arm_eval_Attribute,c])
end
structure Room (q:Bool) (k:Nat) (A:Around):Prop where
 hd:q=false->A.handled=none
 dp:A.depth+3 * k+5<recursionLimit
 un:A.units+16 * k+200<cLine
 gd:A.guards=some []
theorem Room.any {k:Nat} {A:Around} (r:Room false k A):Room q k A:=⟨λ_=>r.hd rfl,r.dp,r.un,r.gd⟩
theorem Room.mono {j k:Nat} {A:Around} (r:Room q k A) (h:j<=k):Room q j A:=⟨r.hd,by have:=r.dp;omega,by have:=r.un;omega,r.gd⟩
theorem Room.deeper (r:Room q (k+1) A) (a:Env):Room q k (A.deeper a):=
 ⟨r.hd,by have:=r.dp;show A.depth+1+3 * k+5<_;omega,by have:=r.un;show A.units+3+16 * k+200<_;omega,r.gd⟩
theorem gL {A:Around} {C:Addr} {us:List Value} {a:List (Str×Value)}:(A.under (.builtin "type.__call__" ⟨.ref C :: us,a⟩)).depth=A.depth+1:=by
 first | rfl | simp [Around.under,Code.weight,Code.isCreation,Code.isGuard,Code.isCaller,Code.frames,Code.isFrame,guardIds]
theorem gF {A:Around} {C:Addr} {us:List Value} {a:List (Str×Value)}:(A.under (.builtin "type.__call__" ⟨.ref C :: us,a⟩)).units=A.units+1:=by
 first | rfl | simp [Around.under,Code.cUnits,Code.frames,Code.isFrame]
theorem Room.make (r:Room q (k+1) A) (C:Addr) (us:List Value) (a:List (Str×Value)):Room q k (A.under (.builtin "type.__call__" ⟨.ref C :: us,a⟩)):=
 ⟨r.hd,by have:=r.dp;rw [gL];omega,by have:=r.un;rw [gF];omega,by have:=r.gd;simp [Around.under,Code.guards,Code.isGuard,guardIds,pushGuards,this]⟩
theorem Room.depth (r:Room q k A):A.depth<recursionLimit:=by have:=r.dp;omega
theorem Room.units (r:Room q k A):A.units+64<cLine:=by have:=r.un;omega
def tNil:TA:=λ_ H Q=>Q [] H
def Cy (d:TE) (a:TA):TA:=λσ H Q=>d σ H λx c=>a σ c λxs b=>Q (x :: xs) b
section
variable {X:Cx} {e:Expr} {es:List Expr} {te:TE} {t:TA} {pos:Pos}
theorem B0:PA X [] tNil:=λ_ _ _ _ H Q I h=>Hj ⟨[],H,I,.nil,h⟩
theorem i5 (a:PE X e te) (g:PA X es t) (hs:starEach (e :: es) X.env=(false,eval e X.env) :: starEach es X.env:=by rfl):PA X (e :: es) (Cy te t):=by
 intro pos pins s σ H Q I h;rw [hs];refine GU (thn (a pins s σ H _ I h) λu j ⟨x,f,d,m,l⟩=>?_);exact thn (g pos pins j σ f _ d l) λus n ⟨xs,k,c,b,i⟩=>⟨x :: xs,k,c,.cons m b,i⟩
def EK (t:TA):TE:=λσ H Q=>t σ H λxs a=>xs.length<=sizeLine/\∀ p,a p=none->Q (.ref p) (upd a p (.tup xs))
def Dr (t:TA):TE:=λσ H Q=>t σ H λxs a=>xs.length<=sizeLine/\∀ p,a p=none->Q (.ref p) (upd a p (.lst xs))
theorem ny {x1} (h:PA X es t):PE X (.Tuple es x1 pos) (EK t):=by
 intro pins s σ H Q I f;refine wpAny_Tuple_spliced (thn (h pos pins s σ H _ I f) λus c ⟨xs,g,a,r,z,q⟩=>⟨by rw [<- r.length];exact z,?_⟩);have d:=a.hok.fresh (Es _);refine ⟨.ref c.heap.objs.size,upd g c.heap.objs.size (.tup xs),a.laid (λb u e=>El _ e) (Es _) ?_,rfl,q _ d⟩;exact ⟨z,us,r,⟨_,Eu _ rfl,rfl,_,rfl,rfl⟩⟩
theorem oN (h:PA X es t):PE X (.List es pos) (Dr t):=by
 intro pins s σ H Q I f;refine wpAny_List_spliced (thn (h pos pins s σ H _ I f) λus c ⟨xs,g,a,r,z,q⟩=>⟨by rw [<- r.length];exact z,?_⟩);have d:=a.hok.fresh (Es _);refine ⟨.ref c.heap.objs.size,upd g c.heap.objs.size (.lst xs),a.laid (λb u e=>El _ e) (Es _) ?_,rfl,q _ d⟩;exact ⟨z,us,0,r,Eu _ rfl⟩
end
abbrev Sp:=List V->Hp->VK->XK->Prop
structure CXT where
 cx:List Env->Hp->Shared->XK->Value->Shared->Prop
 q:Bool
instance:CoeFun CXT λ_=>List Env->Hp->Shared->XK->Value->Shared->Prop:=⟨CXT.cx⟩
structure Env0 (P:Program) (w:World) (K:PySem.W.Frag) (mg:Str->Option Value) (base:Heap) (A:Around) (outer:List Env) (s:Shared) (H:Hp):Prop where
 frames:A.frames=some outer
 mod:Mod K mg base
 bs:∀ b o,base.get? b=some o->s.heap.get? b=some o/\H b=none
 bsz:base.objs.size<=s.heap.objs.size
 funs:s.heap.FunFrames base outer
 frf:∀ b∈frs outer,H b=none
 hok:HOk P w H s.heap
 bare:AllBare s.gens
def CE (a:List Env) (P:Program) (w:World) (H:Hp) (s:Shared) (Q:VK) (u:Value) (s':Shared):Prop:=
 ∃ v H',s'.os=s.os/\AllBare s'.gens/\Un (frs a) [] H H' s.heap s'.heap/\HOk P w H' s'.heap/\RelV v u/\Q v H'
def CR (CX:CXT) (a:List Env) (P:Program) (w:World) (H:Hp) (s:Shared) (Q:VK) (E:XK) (r:Result) (s':Shared):Prop:=
 match r with
 | .ok (.ret u)=>CE a P w H s Q u s'
 | .ok _=>False
 | .error e=>CX a H s E e s'
structure FnOk (P:Program) (w:World) (K:PySem.W.Frag) (mg:Str->Option Value) (base:Heap) (CX:CXT) (k:Nat) (f:Addr) (fd:FuncData) (ps:List Str) (sp:Sp):Prop where
 len:∀ vs H Q E,sp vs H Q E->vs.length=ps.length
 run:∀ (A:Around) (outer:List Env) (s:Shared) (H:Hp) (args:Args) (us:List Value) (vs:List V) (Q:VK) (E:XK),Room CX.q k A->Env0 P w K mg base A outer s H->BindsTo s fd args (ps.zip us)->Vals vs us->sp vs H Q E ->
  codeAny (model P w) A (.call (.ref f) args) (CR CX outer P w H s Q E) s
theorem FnOk.mono {K:PySem.W.Frag} {d:Str->Option Value} {a:Heap} {CX:CXT} {j k:Nat} {f:Addr} {fd:FuncData} {ps:List Str} {sp:Sp} (F:FnOk P w K d a CX j f fd ps sp) (h:j<=k) :
  FnOk P w K d a CX k f fd ps sp:=⟨F.len,λA b s H c us vs Q E e=>F.run A b s H c us vs Q E (e.mono h)⟩
theorem FnOk.imp {K:PySem.W.Frag} {d:Str->Option Value} {a:Heap} {CX:CXT} {k:Nat} {f:Addr} {fd:FuncData} {ps:List Str} {sp sp':Sp} (F:FnOk P w K d a CX k f fd ps sp)
  (h:∀ vs H Q E,sp' vs H Q E->sp vs H Q E):FnOk P w K d a CX k f fd ps sp':=
 ⟨λvs H Q E q=>F.len vs H Q E (h _ _ _ _ q),λA b s H c us vs Q E g e i j hs=>F.run A b s H c us vs Q E g e i j (h _ _ _ _ hs)⟩
theorem Env0.make {K:PySem.W.Frag} {c:Str->Option Value} {b:Heap} {A:Around} {a:List Env} {s:Shared} {H:Hp} (e:Env0 P w K c b A a s H) (C:Addr) (us:List Value) (d:List (Str×Value)) :
  Env0 P w K c b (A.under (.builtin "type.__call__" ⟨.ref C :: us,d⟩)) a s H:=⟨by first | exact e.frames | (simpa [Around.under,Code.envs,Code.isFrame,pushEnvs] using e.frames),e.mod,e.bs,e.bsz,e.funs,e.frf,e.hok,e.bare⟩
section
variable {X:Cx} {pins:List (Addr×Obj)} {σ:St} {H:Hp} {s s':Shared}
theorem Inv.env0 (I:Inv X pins σ H s):Env0 X.prog X.w X.K X.mg X.base X.A X.stack s H:=
 ⟨I.ok.frames,I.ok.mod,I.bs,FD I.ok.bsz I.sz,I.stack,I.stkFree,I.hok,I.bare⟩
theorem Inv.after (I:Inv X pins σ H s) (h:CE X.stack X.prog X.w H s Q u s'):EP X pins σ Q u s':=by
 obtain ⟨v,H',f,a,i,e,r,q⟩:=h;obtain ⟨j,g,d,t,c⟩:=s';obtain rfl:c=s.os:=f;exact ⟨v,H',I.call i e a (λb z=>absurd z (by simp)),r,q⟩
end
def nL (sp:Sp) (a:List V) (E:XK) (t:TA):TE:=λσ H Q=>t σ H λvs b=>sp (vs++a) b Q E
def Binds (K:PySem.W.Frag) (fd:FuncData) (ps:List Str) (ds:List Value):Prop:=
 ∀ (s:Shared) (us:List Value),K.In s.heap->(us++ds).length=ps.length->BindsTo s fd ⟨us,[]⟩ (ps.zip (us++ds))
theorem Binds.all {K:PySem.W.Frag} {fd:FuncData} {ps:List Str} (h:∀ us:List Value,us.length=ps.length->bindArgs fd ⟨us,[]⟩=pure (ps.zip us)):Binds K fd ps []:=λs us _ a=>by
 rw [FM] at a ⊢;exact .of_eq (h us a)
def y7 (CX:CXT) (X:Cx) (E:XK):Prop:=∀ (pins:List (Addr×Obj)) (σ:St) (H:Hp) (s:Shared) (e:Value) (s':Shared),Inv X pins σ H s->CX X.stack H s E e s'->X.xe e s'
section
variable {X:Cx} {CX:CXT} {k:Nat} {f C:Addr} {fd:FuncData} {ps:List Str} {sp:Sp} {dvs:List V} {ds:List Value} {E:XK} {x m:Str} {p pos apos:Pos} {e o:Expr} {es:List Expr} {ta:TE} {t:TA}
theorem iI {σ:St} {H:Hp} {s:Shared} {Q:VK} {us:List Value} {vs:List V} (F:FnOk X.prog X.w X.K X.mg X.base CX k f fd ps sp) (hr:Room CX.q k X.A) (hb:Binds X.K fd ps ds) (hd:Vals dvs ds) (hx:y7 CX X E)
  (I:Inv X pins σ H s) (r:Vals vs us) (h:sp (vs++dvs) H Q E):wpAny (model X.prog X.w) X.A (call (.ref f) us) (EP X pins σ Q) X.xe s:=by
 have r2:=r.append hd;have hl:(us++ds).length=ps.length:=by rw [<- r2.length];exact F.len _ _ _ _ h
 refine GV (Gi (F.run X.A X.stack s H ⟨us,[]⟩ (us++ds) (vs++dvs) Q E hr I.env0 (hb s us I.kIn hl) r2 h) λr s' hq=>?_);cases r with
 | error e=>exact hx pins σ H s e s' I hq
 | ok fl=>
  cases fl with
  | ret u=>exact I.after hq
  | next=>exact False.elim hq
  | brk=>exact False.elim hq
  | cont=>exact False.elim hq
theorem jG (F:FnOk X.prog X.w X.K X.mg X.base CX k f fd ps sp) (l:Room CX.q k X.A) (m:Gl X x) (o:X.mg x=some (.ref f)) (d:PySem.W.keepIn X.K (.ref f)=true) (n:Binds X.K fd ps ds) (hd:Vals dvs ds) (g:y7 CX X E)
  (i:PA X (e :: es) t) (a:(x==("__debug__" : Str))=false:=by decide) (j:starEach (e :: es) X.env=(false,eval e X.env) :: starEach es X.env:=by rfl) (b:(backTo pos (starEach es X.env)).any (·.1)=false:=by rfl) :
  PE X (.Call (.Name x p) (e :: es) [] pos) (nL sp dvs E t):=by
 intro pins s σ H Q I h;refine FY (G7 I m o ?_ a);refine HH I.ok.mod.kin d (thn (i pos pins s σ H _ I h) λus v ⟨vs,u,c,r,q⟩=>⟨c.kIn,?_⟩) j b;exact iI F l n hd g c r q
theorem pc (F:FnOk X.prog X.w X.K X.mg X.base CX k f fd ps sp) (d:Room CX.q k X.A) (e:Gl X x) (i:X.mg x=some (.ref f)) (b:PySem.W.keepIn X.K (.ref f)=true) (g:Binds X.K fd ps ds) (hd:Vals dvs ds) (c:y7 CX X E)
  (a:(x==("__debug__" : Str))=false:=by decide):PE X (.Call (.Name x p) [] [] pos) (nL sp dvs E tNil):=by
 intro pins s σ H Q I h;refine FY (G7 I e i ?_ a);exact PySem.W.callWith_K0 I.kIn b (iI F d g hd c I .nil h)
end
structure FnScope (N P:List Str) (sc:Scope):Prop where
 kind:sc.kind=.function
 co:sc.isCoroutine=false
 gen:sc.isGenerator=false
 nd:N.Nodup
 pre:N.take P.length=P
 par:∀ x∈P,sc.names.lookup x=some .local\/sc.names.lookup x=some .cell
 nofree:∀ y∈sc.names,y.2≠.free
theorem cN {b:Str->Option NameKind} {x:Str}:∀ {a:List (Str×Value)} {m:Str->Option Value},(∀ v,(x,v)∉a)->bindL b a m x=m x
 | [],_,_=>rfl
 | (n,v) :: r,m,h=>by
  unfold bindL;rw [cN λw c=>h w (Fg _ c)];split
  ·have:x≠n:=by rintro rfl;exact h v Fe
   simp [this]
  ·rfl
theorem cw {b:Str->Option NameKind} {x:Str}:∀ {a:List (Str×Value)} {m:Str->Option Value},(∀ v,(x,v)∉a)->bindC b a m x=m x
 | [],_,_=>rfl
 | (n,v) :: r,m,h=>by
  unfold bindC;rw [cw λw c=>h w (Fg _ c)];split
  ·rfl
  ·have:x≠n:=by rintro rfl;exact h v Fe
   simp [this]
theorem ck {a:Str->Option NameKind} {x:Str} {v:Value}:∀ {P:List Str} {vs:List Value} {i:Nat} {m:Str->Option Value},P.Nodup->P[i]?=some x->vs[i]?=some v->a x=some .local ->
  bindL a (P.zip vs) m x=some v
 | [],_,_,_,_,h,_,_=>by simp at h
 | _ :: _,[],_,_,_,_,h,_=>by simp at h
 | p :: P,w :: vs,0,m,d,b,c,e=>by
  simp at b c;subst b;subst c;show bindL a ((p,w) :: P.zip vs) m p=_;unfold bindL;rw [cN λv f=>(GK.mp d).1 (Ju f).1,if_pos e];simp
 | p :: P,w :: vs,i+1,m,d,b,c,e=>by
  unfold bindL;exact ck (GK.mp d).2 (by simpa using b) (by simpa using c) e
theorem cf {a:Str->Option NameKind} {x:Str} {v:Value}:∀ {P:List Str} {vs:List Value} {i:Nat} {m:Str->Option Value},P.Nodup->P[i]?=some x->vs[i]?=some v->a x≠some .local ->
  bindC a (P.zip vs) m x=some v
 | [],_,_,_,_,h,_,_=>by simp at h
 | _ :: _,[],_,_,_,_,h,_=>by simp at h
 | p :: P,w :: vs,0,m,d,b,c,e=>by
  simp at b c;subst b;subst c;show bindC a ((p,w) :: P.zip vs) m p=_;unfold bindC;rw [cw λv f=>(GK.mp d).1 (Ju f).1,if_neg e];simp
 | p :: P,w :: vs,i+1,m,d,b,c,e=>by
  unfold bindC;exact cf (GK.mp d).2 (by simpa using b) (by simpa using c) e
def start (N:List Str) (vs:List V):St:=vs.map some++List.replicate (N.length-vs.length) none
def bo (CX:CXT) (P:Program) (w:World) (K:PySem.W.Frag) (mg:Str->Option Value) (base:Heap) (N:List Str) (qual:Str) (scope:Scope) (f:Addr) (cd:Value) (A:Around) (outer:List Env) (s:Shared) (H:Hp) (E:XK):Cx where
 prog:=P
 w:=w
 K:=K
 mg:=mg
 base:=base
 A:=A.deeper (envOfC qual scope s.heap.objs.size f cd)
 N:=N
 s₀:=s
 H₀:=H
 env:=envOfC qual scope s.heap.objs.size f cd
 outer:=outer
 stack:=envOfC qual scope s.heap.objs.size f cd :: outer
 ex:=[]
 calm:=!CX.q
 fn:=λ_=>true
 pn:=[]
 xe:=λe s'=>wpAny (model P w) (A.deeper (envOfC qual scope s.heap.objs.size f cd)) (leaving (envOfC qual scope s.heap.objs.size f cd) e) (λ_ s''=>CX outer H s E e s'') (λe' s''=>CX outer H s E e' s'') s'
theorem eV {a:Scope} {n:Nat} {x:Str} (h:a.names.lookup x=some .cell):∃ c,(cellsFrom n a.names []).lookup x=some c:=by
 have q:=PySem.W.cellsFrom_some a.names n [] (.inl h);exact Gh.mp q
theorem ku {CX:CXT} {P:Program} {w:World} {K:PySem.W.Frag} {mg:Str->Option Value} {base:Heap} {N ps:List Str} {qual:Str} {scope:Scope} {f:Addr} {cd:Value} {A:Around} {outer:List Env} {s s1:Shared} {H:Hp} {E:XK} {us:List Value} {vs:List V}
  (S:FnScope N ps scope) (hd:CX.q=false->A.handled=none) (e0:Env0 P w K mg base A outer s H) (hl:vs.length=ps.length) (r:Vals vs us)
  (x:InCallC s s.heap.objs.size (bindL (envOfC qual scope s.heap.objs.size f cd).kindOf (ps.zip us) λ_=>none) (cellsFrom (s.heap.objs.size+1) scope.names []) (bindC (envOfC qual scope s.heap.objs.size f cd).kindOf (ps.zip us) λ_=>none) s1) :
  Inv (bo CX P w K mg base N qual scope f cd A outer s H E) [] (start N vs) H s1:=by
 have hpl:ps.length<=N.length:=by have:=congrArg List.length S.pre;rw [GD] at this;omega
 obtain ⟨h1,tk,rfl,hk⟩:=x.done;have noA:∀ b:Addr,b∉(bo CX P w K mg base N qual scope f cd A outer s H E).ex:=λb z=>absurd (show b∈([]:List Addr) from z) (by simp);refine ⟨⟨e0.mod,S.kind,rfl,rfl,Es _,λy z c h1 h2=>?_,λy hy=>?_,λy c _ h=>?_,λz=>hd (by have z:(!CX.q)=true:=z;simpa using z),Around.frames_deeper e0.frames,.inr ⟨rfl,rfl⟩,λb z=>absurd z (noA b),e0.bs,e0.bsz,λb _ _=>noA b,λb z=>absurd z (noA b),e0.funs,e0.frf⟩,
  rfl,e0.bare,Un.kept hk,⟨_,x.toInCall.ns,λi y v h1 h2 h3=>?_⟩,λy c h=>⟨_,x.cell y c h⟩,e0.hok.fresh (Es _),λy c h=>?_,λp hp=>absurd (show p∈([]:List (Addr×Obj)) from hp) (by simp),e0.hok.kept hk,?_⟩
 ·exact name_of_addr x.apart (GR h1) (GR h2)
 ·have hy:scope.names.lookup y=some .cell\/scope.names.lookup y=some .free:=hy;rcases hy with hy | hy
  ·exact eV hy
  ·exact absurd rfl (S.nofree _ (GR hy))
 ·exact HQ (x.above y c (GR h))
 ·have hi:i<vs.length:=by
   unfold start at h2;by_cases hi:i<vs.length
   ·exact hi
   ·rw [FF (by simpa using hi)] at h2;rw [HL] at h2;split at h2 <;> cases h2
  have ha:vs[i]?=some v:=by
   unfold start at h2;rw [Et (by simpa using hi),Fz] at h2;cases e:vs[i]? with
   | none=>rw [e] at h2;cases h2
   | some a=>rw [e] at h2;cases h2;rfl
  obtain ⟨u,hu,rv⟩:=r.get ha;have hp:ps[i]?=some y:=by
   rw [<- S.pre,List.getElem?_take_of_lt (by omega)];exact h1
  have ndP:ps.Nodup:=by rw [<- S.pre];exact S.nd.sublist (HS _ _)
  refine ⟨u,rv,?_⟩;rcases S.par y (Fk hp) with k | k
  ·exact .inl ⟨k,ck ndP hp hu k⟩
  ·obtain ⟨c,e⟩:=eV (n:=s.heap.objs.size+1) k;refine .inr ⟨.inl k,c,e,?_⟩;have q:=x.cell y c e;rw [cf ndP hp hu (by show scope.names.lookup y≠_;rw [k];decide)] at q;exact q
 ·exact e0.hok.fresh (HQ (x.above y c (GR h)))
 ·unfold start;show _=N.length;rw [FN,En,Ie];omega
theorem wG {K:PySem.W.Frag} {mg:Str->Option Value} {base:Heap} {k:Nat} {f:Addr} {name qual:Str} {params:Arguments} {body:List Stmt} {scope:Scope} {dV kV doc pm cdv ct oc:Value} {an od:Option Addr}
  {osl:Array (Option Value)} {N ps:List Str} {sp:Sp} (lk:K.lookup f=some ⟨oc,od,.func (PySem.W.fnOf name qual params body scope dV kV doc pm an cdv ct),osl⟩) (hcd:PySem.W.codeIn K cdv qual=true) (S:FnScope N ps scope)
  (len:∀ vs H Q E,sp vs H Q E->vs.length=ps.length)
  (hbody:∀ (A:Around) (outer:List Env) (s:Shared) (H:Hp) (vs:List V) (Q:VK) (E:XK),Room CX.q k (A.deeper (envOfC qual scope s.heap.objs.size f cdv))->sp vs H Q E ->
   ∃ t,PSs (bo CX P w K mg base N qual scope f cdv A outer s H E) body t/\t { nx:=λ_ H'=>Q .non H',rt:=Q } (start N vs) H) :
  FnOk P w K mg base CX (k+1) f (PySem.W.fnOf name qual params body scope dV kV doc pm an cdv ct) ps sp:=by
 refine ⟨len,λA outer s H args us vs Q E hr e0 hb r hsp=>?_⟩;have hl:=len _ _ _ _ hsp;have KX:=e0.mod.kin.keeps λb o e=>(e0.bs b o e).1;have lim:=e0.mod.nolimit.keeps λb o e=>(e0.bs b o e).1;have hkind:∀ y∈ps.zip us,scope.names.lookup y.1=some .local\/(scope.names.lookup y.1=some .cell/\((cellsFrom (s.heap.objs.size+1) scope.names []).lookup y.1).isSome=true):=λ⟨n,v⟩ hy=>by
  rcases S.par n (Ju hy).1 with q | q
  ·exact .inl q
  ·exact .inr ⟨q,PySem.W.cellsFrom_some _ _ _ (.inl q)⟩
 refine codeAny_call_function hr.depth (KX _ _ lk) rfl S.co S.gen rfl (PySem.W.codeRec_of KX hcd) (hb _ _ _ _ ?_);refine wpAny_newFunctionEnv_cells S.kind hkind λenv he s1 x=>?_;subst he;refine ⟨lim.keeps x.toInCall.keep,codeAny_func ?_⟩;obtain ⟨t,ht,hq⟩:=hbody A outer s H vs Q E (hr.deeper _) hsp;have I:Inv (bo CX P w K mg base N qual scope f cdv A outer s H E) [] (start N vs) H s1:=ku S hr.hd e0 hl r x;refine FI (ht [] s1 (start N vs) H _ I hq) (λfl s' hs=>?_) λe s' hs=>hs;have fin:∀ {σ':St} {H':Hp} {v:V} {u:Value},Inv (bo CX P w K mg base N qual scope f cdv A outer s H E) [] σ' H' s'->RelV v u->Q v H'->CE outer P w H s Q u s':=
  λ{σ' H' v u} J rv q=>⟨v,H',J.os,J.bare,J.base,J.hok,rv,q⟩
 cases fl with
 | ret u=>
  obtain ⟨v,σ',H',J,rv,q⟩:=hs;exact fin J rv q
 | next=>
  obtain ⟨σ',H',J,q⟩:=hs;exact fin (v:=V.non) J rfl q
 | brk=>
  obtain ⟨_,_,_,q⟩:=hs;exact False.elim q
 | cont=>
  obtain ⟨_,_,_,q⟩:=hs;exact False.elim q
section
variable {X:Cx} {x:Str} {p pos:Pos} {e:Expr} {es:List Expr} {t:TA} {id T:String} {r:List V->Hp->VK->Prop}
def tCB (r:List V->Hp->VK->Prop) (t:TA):TE:=λσ H Q=>t σ H λvs a=>r vs a Q
theorem R8 (n:i9 X (.builtin id) r) (l:Gl X x) (m:X.mg x=none) (c:bootBuiltins x=some (.builtin id)) (d:PA X (e :: es) t) (f:x ≠ "__name__":=by decide) (a:(x==("__debug__" : Str))=false:=by decide)
  (g:starEach (e :: es) X.env=(false,eval e X.env) :: starEach es X.env:=by rfl) (b:(backTo pos (starEach es X.env)).any (·.1)=false:=by rfl):PE X (.Call (.Name x p) (e :: es) [] pos) (tCB r t):=by
 intro pins s σ H Q I h;refine FY (A8 I l m c ?_ f a);exact Gs (thn (d pos pins s σ H _ I h) λus i ⟨vs,k,j,q,o⟩=>n pins i σ k vs us Q j q o) g b
theorem lz (n:i9 X (.type T) r) (l:Gl X x) (m:X.mg x=none) (c:bootBuiltins x=some (.type T)) (d:PA X (e :: es) t) (f:x ≠ "__name__":=by decide) (a:(x==("__debug__" : Str))=false:=by decide)
  (g:starEach (e :: es) X.env=(false,eval e X.env) :: starEach es X.env:=by rfl) (b:(backTo pos (starEach es X.env)).any (·.1)=false:=by rfl):PE X (.Call (.Name x p) (e :: es) [] pos) (tCB r t):=by
 intro pins s σ H Q I h;refine FY (A8 I l m c ?_ f a);exact Ga (thn (d pos pins s σ H _ I h) λus i ⟨vs,k,j,q,o⟩=>n pins i σ k vs us Q j q o) g b
end
end L2
namespace HT
open PySem PyProof.Rows
section
variable {prog:Program} {w:World} {A:Around} {E:Value->Shared->Prop} {s:Shared}
theorem cat_tup (q:IsTup s.heap t vs.toArray) (v:IsTup s.heap b ws.toArray) (p:vs≠[])
  (r:ws=[]->Q (.ref t) s) (u:ws≠[]->Q (.ref s.heap.objs.size) { s with heap:=s.heap.push { cls:=.type "tuple",data:=.seq (vs++ws).toArray } })
  (hsz:vs.length+ws.length<=sizeLine):wpAny (model prog w) A (binaryOp .Add (.ref t) (.ref b)) Q E s:=by
 obtain ⟨⟨cls,k,data,o⟩,f,x,n,hd⟩:=id q;obtain ⟨⟨m,d,i,c⟩,a,h,l,j⟩:=id v;subst x hd h j;have e:vs.toArray++ws.toArray=(vs++ws).toArray:=by simp
 by_cases g:ws=[]
 ·exact concat_meets ⟨_,f,rfl⟩ ⟨_,a,rfl⟩ Jl JE HU HM (HC _ _)
   (tuple_addW1 t b vs.toArray ws.toArray n l k d o c (by simpa using p) (by simp [g])) ⟨f,a,r g⟩
 ·refine concat_meets ⟨_,f,rfl⟩ ⟨_,a,rfl⟩ Jl JE HU HM (HC _ _)
   (tuple_addW2 t b vs.toArray ws.toArray n l k d o c (by simpa using p) (by simpa using g) (by rw [Ey,Ey];exact hsz)) ⟨f,a,?_⟩
  rw [e];exact u g
def sIx (n d:Nat):Option Int->Nat
 | none=>d
 | some v=>if v<0 then (v+(n:Int)).toNat else min v.toNat n
theorem sIx_none (n d:Nat):sIx n d none=d:=rfl
theorem zr (n d:Nat) (hd:d<=n) (o:Option Int):sIx n d o<=n:=by
 cases o with
 | none=>exact hd
 | some v=>
  show (if v<0 then (v+(n:Int)).toNat else min v.toNat n)<=n;by_cases a:v<0
  ·rw [if_pos a];omega
  ·grind
theorem kD (v:Int) (n d:Nat):(if v<0 then max (v+(n:Int)) 0 else min v (n:Int))=((sIx n d (some v):Nat):Int):=by
 show (if v<0 then max (v+(n:Int)) 0 else min v (n:Int))=(((if v<0 then (v+(n:Int)).toNat else min v.toNat n):Nat):Int);grind
theorem hE (lo hi:Option Int) (n:Nat):Builtin.Slice.sliceAdjust lo hi 1 (n:Int)=(((sIx n 0 lo:Nat):Int),((sIx n n hi:Nat):Int)):=by
 have h1:¬ ((1:Int)<0):=by omega
 refine Prod.ext ?_ ?_
 ·cases lo with
  | none=>rfl
  | some v=>exact kD v n 0
 ·cases hi with
  | none=>rfl
  | some v=>exact kD v n n
theorem hQ (i j:Nat):Builtin.Slice.slicePlaces (i:Int) (j:Int) 1=j-i:=by
 unfold Builtin.Slice.slicePlaces;grind
theorem bT (p:IsPart v o) (h:Q o s):wpAny (model prog w) A (Builtin.Slice.slicePartIndex v) Q E s:=by
 cases p with
 | none=>exact IJ h
 | int i t=>exact slicePart_int h
theorem sliceApplied_gen {lo hi:Option Int} {n:Nat} {Q:Int×Int×Nat->Shared->Prop} (hs:s.heap.IsSliceOf sl vl vu .none) (pl:IsPart vl lo) (pu:IsPart vu hi)
  (h:Q (((sIx n 0 lo:Nat):Int),1,sIx n n hi-sIx n 0 lo) s):wpAny (model prog w) A (Builtin.Slice.sliceApplied (.ref sl) (pure (n:Int))) Q E s:=by
 obtain ⟨os,hos,hcs,hds⟩:=id hs;refine Ej (Ej (Gf hos hds rfl (Ej (Gf hos hds rfl (Ej (Gf hos hds rfl (Ek ?_)))))));refine Ej (IJ ?_);rw [if_neg (by decide)];refine Ej (bT pl (Ej (bT pu (Ej (Ek ?_)))));show wpAny _ _ (match Builtin.Slice.sliceAdjust lo hi 1 (n:Int) with | (lo,hi)=>pure (lo,(1:Int),Builtin.Slice.slicePlaces lo hi 1)) _ _ s;rw [hE lo hi n];show wpAny _ _ (pure (((sIx n 0 lo:Nat):Int),(1:Int),Builtin.Slice.slicePlaces ((sIx n 0 lo:Nat):Int) ((sIx n n hi:Nat):Int) 1)) _ _ s;rw [hQ];exact Ek h
theorem nT (xs:Array Value) (i k:Nat):((List.range k).filterMap λ(m:Nat)=>xs[((i:Int)+(m:Int) * 1).toNat]?).toArray=((xs.toList.drop i).take k).toArray:=by
 have e:(λ(m:Nat)=>xs[((i:Int)+(m:Int) * 1).toNat]?)=λm=>xs[i+m]?:=by
  funext m;have:((i:Int)+(m:Int) * 1).toNat=i+m:=by omega
  rw [this]
 rw [e];have:=pick_run xs i k;rw [HI] at this;have e2:((λx=>xs[x]?) ∘ λx=>i+x)=λm=>xs[i+m]?:=rfl;grind
theorem getItem_tuple_cut {items:Array Value} {i j:Value} {lo b:Option Int} {Q:Value->Shared->Prop} (c:IsTup s.heap t items) (hs:s.heap.IsSliceOf sl i j .none) (pl:IsPart i lo) (k:IsPart j b)
  (m:¬ (sIx items.size 0 lo=0/\sIx items.size items.size b=items.size))
  (h:Q (.ref s.heap.objs.size) { s with heap:=s.heap.push { cls:=.type "tuple",data:=.seq ((items.toList.drop (sIx items.size 0 lo)).take (sIx items.size items.size b-sIx items.size 0 lo)).toArray } })
  (hsz:items.size<=sizeLine):wpAny (model prog w) A (getItem (.ref t) (.ref sl)) Q E s:=by
 have a:sizeOk (.seq ((items.toList.drop (sIx items.size 0 lo)).take (sIx items.size items.size b-sIx items.size 0 lo)).toArray):=by
  show ((items.toList.drop (sIx items.size 0 lo)).take (sIx items.size items.size b-sIx items.size 0 lo)).toArray.size<=sizeLine;rw [Ey,GD,Hq,FC];omega
 have n:sIx items.size items.size b<=items.size:=zr _ _ (Es _) b;obtain ⟨l,d,e,hds⟩:=id hs;have g:s.TypeIs (.ref sl) "slice":=⟨l,d,e⟩;unfold getItem;try with_reducible refine FU ?_
 first | refine Ej (Ek ?_) | skip
 refine Ej (Jb c.typeIs (by decide) ?_);refine Ej (FP c.typeIs FW
  (FS FW c.typeIs IA ?_ (IK _ _)))
 show wpAny _ _ (Builtin.Tuple.tupleItemsOf (.ref t) >>= _) _ _ s;refine Ej (Je c ?_);refine Ej (Hr g ?_);rw [if_pos (by decide)];refine Ej (sliceApplied_gen hs pl k ?_);have f:¬ ((((sIx items.size 0 lo:Nat):Int)==0&&(1:Int)==1&&(sIx items.size items.size b-sIx items.size 0 lo)==items.size)=true):=by
  intro q;rw [Ep,Ep] at q;have p:=JD q.1.1;have o:=JD q.2;exact m ⟨by omega,by omega⟩
 show wpAny _ _ (if (((sIx items.size 0 lo:Nat):Int)==0&&(1:Int)==1&&(sIx items.size items.size b-sIx items.size 0 lo)==items.size)=true then _ else _) _ _ s;rw [if_neg f,nT];first
  | exact Ej (Ft (Ek ⟨_,rfl,Ek h⟩) a)
  | exact Ej (Ft (Ej (Ek (Ek ⟨_,rfl,Ek h⟩))) a)
  | exact Ej (Ej (Ft (Ek (Ek ⟨_,rfl,Ek h⟩)) a))
  | exact Ej (Ej (Ft (Ek ⟨_,rfl,Ek h⟩) a))
end
end HT
namespace L2
open PySem PySem.Spec PyProof.Rows
abbrev TO:=St->Hp->(Option Int->Hp->Prop)->Prop
def PO (X:Cx) (e:Option Expr) (t:TO):Prop:=
 ∀ (pins:List (Addr×Obj)) (s:Shared) (σ:St) (H:Hp) (Q:Option Int->Hp->Prop),Inv X pins σ H s->t σ H Q ->
  wpAny (model X.prog X.w) X.A (evalPart e X.env) (λu s'=>∃ o H',Inv X pins σ H' s'/\IsPart u o/\Q o H') X.xe s
def tNoPart:TO:=λ_ H Q=>Q none H
def Af (t:TE):TO:=λσ H Q=>t σ H λx a=>∃ i,x=.int i/\Q (some i) a
section
variable {X:Cx} {e:Expr} {te:TE} {lo hi:Option Expr} {tl th:TO} {pos p2:Pos}
theorem uJ:PO X none tNoPart:=by
 intro pins s σ H Q I h;rw [JF];exact Ek ⟨none,H,I,.none,h⟩
theorem su (h:PE X e te):PO X (some e) (Af te):=by
 intro pins s σ H Q I f;rw [evalPart_some];refine thn (h pins s σ H _ I f) λu g ⟨x,b,a,d,c⟩=>?_;obtain ⟨i,rfl,q⟩:=c;obtain ⟨t,rfl⟩:=d;exact ⟨some i,b,a,.int i t,q⟩
def SlR (X:Cx) (r:V->Option Int->Option Int->Hp->VK->Prop):Prop:=
 ∀ (pins:List (Addr×Obj)) (s:Shared) (σ:St) (H:Hp) (x:V) (v c b:Value) (lo a:Option Int) (d:Addr) (Q:VK),Inv X pins σ H s->RelV x v->s.heap.IsSliceOf d c b .none->IsPart c lo->IsPart b a->r x lo a H Q ->
  ∃ T id,typeLookup (.type T) "__getitem__" = pure (some (.builtin id))/\s.TypeIs v T/\wpAny (model X.prog X.w) X.A (getItem v (.ref d)) (EP X pins σ Q) X.xe s
def tSl (r:V->Option Int->Option Int->Hp->VK->Prop) (te:TE) (a d:TO):TE:=λσ H Q=>te σ H λx c=>a σ c λl e=>d σ e λu b=>r x l u b Q
theorem mq (j:SlR X r) (o:PE X e te) (g:PO X lo tl) (J:PO X hi th):PE X (.Subscript e (.Slice lo hi none p2) pos) (tSl r te tl th):=by
 intro pins s σ H Q I h;refine Subscript_ (thn (o pins s σ H _ I h) λv m ⟨x,y,t,C,B⟩=>?_);refine wpAny_Slice (thn (g pins m σ y _ t B) λc F ⟨l,G,D,pl,i⟩=>thn (J pins F σ G _ D i) λd a ⟨u,f,w,n,z⟩=>?_);rw [JF];refine Ek ?_;have k:Inv X pins σ f { a with heap:=a.heap.push { cls:=.type "slice",data:=.fields #[c,d,.none] } }:=w.kept λb ob q=>El _ q;obtain ⟨T,id,A,p,E⟩:=j pins { a with heap:=a.heap.push { cls:=.type "slice",data:=.fields #[c,d,.none] } } σ f x v c d l u a.heap.objs.size Q k C (IL ..) pl n z;exact tail_any p A E (by with_unfolding_all rfl)
def lW (xs:List V) (lo a:Option Int):List V:=(xs.drop (HT.sIx xs.length 0 lo)).take (HT.sIx xs.length xs.length a-HT.sIx xs.length 0 lo)
theorem Y2 (xs:List V) (lo hi:Option Int):(lW xs lo hi).length<=xs.length:=by
 unfold lW;rw [GD,Hq];omega
def ER (K:PySem.W.Frag):V->Option Int->Option Int->Hp->VK->Prop:=λx lo b H Q=>∃ a xs,x=.ref a/\SqT K H a xs /\
 ¬ (HT.sIx xs.length 0 lo=0/\HT.sIx xs.length xs.length b=xs.length)/\∀ p,H p=none->Q (.ref p) (upd H p (.tup (lW xs lo b)))
theorem yf:SlR X (ER X.K):=by
 intro pins s σ H x v l m lo e n Q I j hs pl i h;obtain ⟨a,xs,rfl,g,k,q⟩:=h;cases j;obtain ⟨d,r,f,hz⟩:=I.tuple g;have c:d.toArray.size=xs.length:=by rw [Ey];exact r.length.symm
 refine ⟨"tuple",_,PyProof.Rows.slot_tuple_getitem.lookup,f.typeIs,?_⟩;refine HT.getItem_tuple_cut f hs pl i (by rw [c];exact k) ?_ (by rw [c];exact hz);rw [c];refine ⟨.ref s.heap.objs.size,_,I.laid (λb ob q=>El _ q) (Es _) ?_,rfl,q _ (I.hok.fresh (Es _))⟩;exact ⟨FD (Y2 xs lo e) hz,_,(r.drop (HT.sIx xs.length 0 lo)).take (HT.sIx xs.length xs.length e-HT.sIx xs.length 0 lo),TupN.new _ _⟩
def Bs (K:PySem.W.Frag):R2:=λx y H Q=>∃ a b xs ys,x=.ref a/\y=.ref b/\SqT K H a xs/\SqT K H b ys/\xs≠[]/\xs.length+ys.length<=sizeLine /\
 (ys=[]->Q (.ref a) H)/\(ys≠[]->∀ p,H p=none->Q (.ref p) (upd H p (.tup (xs++ys))))
theorem Vals.nil_iff (r:Vals xs us):us=[]↔xs=[]:=by
 cases r with
 | nil=>simp
 | cons _ _=>simp
theorem sU:OpR X (binaryOp .Add) (Bs X.K):=by
 intro pins s σ H x y v u Q I n k h;obtain ⟨a,b,xs,ys,rfl,rfl,g,m,f,hz,p,l⟩:=h;cases n;cases k;obtain ⟨j,d,o,_⟩:=I.tuple g;obtain ⟨e,c,i,_⟩:=I.tuple m;refine HT.cat_tup o i (λz=>f (d.nil_iff.mp z)) (λz=>⟨.ref a,H,I,rfl,p (c.nil_iff.mp z)⟩) (λz=>?_) (by rw [<- d.length,<- c.length];exact hz);refine ⟨.ref s.heap.objs.size,_,I.laid (λb ob q=>El _ q) (Es _) ?_,rfl,l (λw=>z (c.nil_iff.mpr w)) _ (I.hok.fresh (Es _))⟩;exact ⟨by rw [FN];exact hz,_,d.append c,TupN.new _ _⟩
end
def ixN (n:Nat) (i:Int):Option Nat:=if 0<=i then (if i<n then some i.toNat else none) else if -(n:Int)<=i then some (i+n).toNat else none
def atI {a:Type} (xs:List a) (i:Int):Option a:=(ixN xs.length i).bind λj=>xs[j]?
theorem dn (h:ixN n i=some j):seqIndex? i n=some j/\j<n/\-(n:Int)<=i/\i<n:=by
 unfold ixN at h;by_cases b:0<=i
 ·rw [if_pos b] at h;by_cases a:i<n
  ·rw [if_pos a] at h;have e:=FR h;exact ⟨by rw [seqIndex_of b a,e],by omega,by omega,a⟩
  ·grind
 ·rw [if_neg b] at h;by_cases a:-(n:Int)<=i
  ·rw [if_pos a] at h;have e:=FR h;exact ⟨by rw [seqIndex_neg (by omega) a,e],by omega,a,by omega⟩
  ·grind
theorem jB (h:atI xs i=some v):∃ j,seqIndex? i xs.length=some j/\xs[j]?=some v/\j<xs.length/\-(xs.length:Int)<=i/\i<xs.length:=by
 unfold atI at h;cases e:ixN xs.length i with
 | none=>rw [e] at h;cases h
 | some j=>
  rw [e] at h;obtain ⟨c,b,a,d⟩:=dn e;exact ⟨j,c,h,b,a,d⟩
theorem aD {j:Nat} {v:α} (h:xs[j]?=some v):atI xs (j:Int)=some v:=by
 have hj:=(Eo.mp h).1;have e:ixN xs.length (j:Int)=some j:=by
  unfold ixN;rw [if_pos (by omega),if_pos (by omega)];simp
 unfold atI;rw [e];exact h
def dg (b:Expr):Prop:=∀ o i,subscripted b false o i=operate [o,i] (getItem o i)
def IxR (X:Cx) (r:R2):Prop:=
 ∀ (b a:Expr) (pins:List (Addr×Obj)) (s:Shared) (σ:St) (H:Hp) (x y:V) (v u:Value) (Q:VK),Inv X pins σ H s->RelV x v->RelV y u->r x y H Q ->
  subscripted a false v u=operate [v,u] (getItem v u)->wpAny (model X.prog X.w) X.A (subscriptTail b a v u) (EP X pins σ Q) X.xe s
def MtR (X:Cx) (id:String) (r:V->List V->Hp->VK->Prop):Prop:=
 ∀ (pins:List (Addr×Obj)) (s:Shared) (σ:St) (H:Hp) (x:V) (xs:List V) (v:Value) (us:List Value) (Q:VK),Inv X pins σ H s->RelV x v->Vals xs us->r x xs H Q ->
  wpAny (model X.prog X.w) X.A (call (.builtin id) (v :: us)) (EP X pins σ Q) X.xe s
section
variable {X:Cx} {a b:Expr} {ta tb:TE} {pos:Pos}
theorem BK (f:IxR X r) (c:PE X a ta) (g:PE X b tb) (hs:dg b):PE X (.Subscript a b pos) (tOp r ta tb):=by
 intro pins s σ H Q I h;exact Subscript_ (ya c g I h λv u j x y k d i e q=>f a b pins j σ k x y v u Q d i e q (hs _ _))
def EZ (K:PySem.W.Frag):R2:=λx y H Q=>∃ p xs i v,x=.ref p/\y=.int i/\SqL K H p xs/\atI xs i=some v/\Q v H
def DW (K:PySem.W.Frag):R2:=λx y H Q=>∃ p xs i v,x=.ref p/\y=.int i/\SqT K H p xs/\atI xs i=some v/\Q v H
theorem vc:IxR X (EZ X.K):=by
 intro f e pins s σ H x y v u Q I D n h hs;obtain ⟨p,xs,i,z,rfl,rfl,E,A,q⟩:=h;cases D;obtain ⟨t,rfl⟩:=n;obtain ⟨d,r,pl,hz⟩:=I.list E;obtain ⟨j,b,C,G,m,B⟩:=jB A;obtain ⟨w,k,c⟩:=r.get C;have o:=r.length;have F:=W5;have a:EP X pins σ Q w s:=⟨z,H,I,c,q⟩;by_cases l:0<=i
 ·have g:i.toNat=j:=by
   rw [seqIndex_of l B] at b;exact FR b
  exact item_listR pl.isList l (by omega) (by rw [g];simpa using k) a hs
 ·have g:(i+(d.toArray.size:Int)).toNat=j:=by
   rw [seqIndex_neg (by omega) m] at b;rw [Ey,<- o];exact FR b
  exact subscriptTail_builtinR pl.isList.typeIs slot_list_getitem.lookup
   (wpAny_getItem_list_neg pl.isList (by omega) (by rw [Ey] <;> omega) (by omega) (by rw [g];simpa using k) ⟨rfl,a⟩) hs
theorem AB:IxR X (DW X.K):=by
 intro b d pins s σ H x y v u Q I A l h hs;obtain ⟨p,xs,i,z,rfl,rfl,g,e,q⟩:=h;cases A;obtain ⟨t,rfl⟩:=l;obtain ⟨k,r,pl,hz⟩:=I.tuple g;obtain ⟨j,f,o,D,C,E⟩:=jB e;obtain ⟨w,n,c⟩:=r.get o;have m:=r.length;have B:=W5;have a:EP X pins σ Q w s:=⟨z,H,I,c,q⟩;exact subscriptTail_builtinR pl.typeIs slot_tuple_getitem.lookup
  (getItem_tuple pl (by omega) (by omega) (by rw [Ey,<- m];exact f) (by simpa using n) ⟨rfl,a⟩) hs
theorem iO (a:List Value) (n j:Nat) (u:Value):Obj.mapSeq (·.setIfInBounds j u) { cls:=.type "list",data:=.seq a.toArray n }={ cls:=.type "list",data:=.seq (a.set j u).toArray n }:=by
 simp [Obj.mapSeq]
theorem Inv.lst {σ:St} {H:Hp} {s:Shared} {p:Addr} {xs:List V} (I:Inv X pins σ H s) (h:H p=some (.lst xs)) :
  ∃ (a:List Value) (n:Nat),Vals xs a/\s.heap.get? p=some { cls:=.type "list",data:=.seq a.toArray n }/\xs.length<=sizeLine:=by
 obtain ⟨z,a,n,r,e⟩:=I.hok p _ h;grind
theorem Inv.lstUpd {σ:St} {H:Hp} {s:Shared} {p:Addr} {xs ys:List V} {a its':List Value} {n c:Nat} {f:Obj->Obj} (I:Inv X pins σ H s) (h:H p=some (.lst xs))
  (g:s.heap.get? p=some { cls:=.type "list",data:=.seq a.toArray n }) (d:f { cls:=.type "list",data:=.seq a.toArray n }={ cls:=.type "list",data:=.seq its'.toArray c }) (r:Vals ys its') (hz:ys.length<=sizeLine) (t:Nat) :
  Inv X pins σ (upd H p (.lst ys)) { s with heap:=s.heap.update p f,toks:=t }:=by
 have e:(s.heap.update p f).get? p=some { cls:=.type "list",data:=.seq its'.toArray c }:=by
  rw [FE f g (by rw [d] <;> rfl),d]
 refine I.write (by rw [h];trivial) (.inl rfl) (λb u i q=>(Gj _ _ (Ne.symm i)).trans q) ⟨_,e⟩ ?_;exact ⟨hz,its',c,r,e⟩
def rSetL:V->V->V->Hp->(Hp->Prop)->Prop:=λo i v H Q=>∃ p xs k j,o=.ref p/\i=.int k/\H p=some (.lst xs)/\ixN xs.length k=some j/\Q (upd H p (.lst (xs.set j v)))
theorem nA:wz X rSetL:=by
 intro pins s σ H o i v D B u Q I z x A h;obtain ⟨p,xs,k,j,rfl,rfl,f,y,q⟩:=h;cases z;obtain ⟨t,rfl⟩:=x;obtain ⟨a,n,r,d,hz⟩:=I.lst f;obtain ⟨b,E,w,l⟩:=dn y;have e:=r.length;have C:=W5;have g:Inv X pins σ (upd H p (.lst (xs.set j v))) { s with heap:=s.heap.update p (Obj.mapSeq (·.setIfInBounds j u)) }:=
  I.lstUpd f d (iO a n j u) (r.set A j) (by rw [List.length_set];exact hz) s.toks
 by_cases m:0<=k
 ·have c:k.toNat=j:=by
   rw [seqIndex_of m l] at b;exact FR b
  exact PySem.W.ki_setAt d m (by omega) (by rw [Ey,<- e];exact l) (by rw [c];exact ⟨_,g,q⟩)
 ·have c:(k+(a.toArray.size:Int)).toNat=j:=by
   rw [seqIndex_neg (by omega) w] at b;rw [Ey,<- e];exact FR b
  exact PySem.W.ki_setBack d (by omega) (by rw [Ey,<- e];exact w) (by omega) (by rw [c];exact ⟨_,g,q⟩)
theorem dX (lo a:Option Int) (n:Nat):(sliceBounds lo a none n).1=((HT.sIx n 0 lo:Nat):Int)/\(sliceBounds lo a none n).2.1=((HT.sIx n n a:Nat):Int)/\(sliceBounds lo a none n).2.2=1:=by
 refine ⟨?_,?_,rfl⟩
 ·cases lo with
  | none=>simp [sliceBounds,HT.sIx]
  | some i=>
   simp only [sliceBounds,HT.sIx,Option.getD_none,show (1:Int) > 0 by decide,JI];by_cases h:i<0
   ·grind
   ·grind
 ·cases a with
  | none=>simp [sliceBounds,HT.sIx]
  | some i=>
   simp only [sliceBounds,HT.sIx,Option.getD_none,show (1:Int) > 0 by decide,JI];by_cases h:i<0
   ·grind
   ·grind
theorem bm (a:List Value) (lo b:Option Int):slicePick a.toArray lo b none=((a.drop (HT.sIx a.length 0 lo)).take (HT.sIx a.length a.length b-HT.sIx a.length 0 lo)).toArray:=by
 obtain ⟨c,d,e⟩:=dX lo b a.toArray.size;unfold slicePick;rw [c,d,e];simp only [sliceRange_one,pick_run,Ey] <;> rfl
def Dg (K:PySem.W.Frag):V->Option Int->Option Int->Hp->VK->Prop:=λx lo b H Q=>∃ a xs,x=.ref a/\SqL K H a xs/\∀ p,H p=none->Q (.ref p) (upd H p (.lst (lW xs lo b)))
theorem vK:SlR X (Dg X.K):=by
 intro pins s σ H x v k l lo d m Q I j hs pl g h;obtain ⟨a,xs,rfl,f,q⟩:=h;cases j;obtain ⟨i,r,e,hz⟩:=I.list f;have c:=r.length;refine ⟨"list",_,slot_list_getitem.lookup,e.isList.typeIs,?_⟩;refine Jf e.isList hs pl g .none (by simp) ?_ (by rw [Ey] <;> omega);rw [bm,<- c];refine ⟨.ref s.heap.objs.size,_,I.laid (λb ob q=>El _ q) (Es _) ?_,rfl,q _ (I.hok.fresh (Es _))⟩;exact ⟨FD (Y2 xs lo d) hz,_,0,(r.drop (HT.sIx xs.length 0 lo)).take (HT.sIx xs.length xs.length d-HT.sIx xs.length 0 lo),Eu _ rfl⟩
theorem dI:i9 X (.builtin "len") (λxs H Q=>∃ p ys,xs=[.ref p]/\(SqL X.K H p ys\/SqT X.K H p ys)/\Q (.int ys.length) H):=by
 intro pins s σ H xs us Q I r h;obtain ⟨p,ys,rfl,b,q⟩:=h;obtain ⟨u,rfl,e⟩:=K3 r;cases e;have f:=W5;rcases b with b | b
 ·obtain ⟨d,c,pl,hz⟩:=I.list b;have a:=c.length;exact Calls.call_len_list pl.isList (by simp <;> omega) ⟨.int ys.length,H,I.tok _,⟨s.toks+1,by rw [Ey,a]⟩,q⟩
 ·obtain ⟨d,c,pl,hz⟩:=I.tuple b;have a:=c.length;exact len_tuple pl (by simp <;> omega) ⟨.int ys.length,H,I.tok _,⟨s.toks+1,by rw [Ey,a]⟩,q⟩
theorem dj:i9 X (.builtin "len") (λxs H Q=>∃ z,xs=[.str z]/\z.length<=sizeLine/\Q (.int z.length) H):=by
 intro pins s σ H xs us Q I r h;obtain ⟨z,rfl,hz,q⟩:=h;obtain ⟨u,rfl,t,rfl⟩:=K3 r;have hn:=W5;exact len_str (by omega) ⟨.int z.length,H,I.tok _,⟨_,rfl⟩,q⟩
theorem dJ:i9 X (.type "list") (λxs H Q=>∃ p ys,xs=[.ref p]/\(SqL X.K H p ys\/SqT X.K H p ys)/\∀ l,H l=none->Q (.ref l) (upd H l (.lst ys))):=by
 intro pins s σ H xs us Q I r h;obtain ⟨p,ys,rfl,j,q⟩:=h;obtain ⟨u,rfl,t⟩:=K3 r;cases t;have i:∀ (a:List Value),Vals ys a->ys.length<=sizeLine->∀ (h':Heap) (c:Nat),(∀ b o',s.heap.get? b=some o'->h'.get? b=some o') ->
   h'.get? s.heap.objs.size=some { cls:=.type "list",dict:=none,data:=.seq a.toArray c,slots:=#[] }->EP X pins σ Q (.ref s.heap.objs.size) { s with heap:=h' }:=λa d hz h' c g e=>
  ⟨.ref s.heap.objs.size,_,I.laid g (Es _) (show ObjOk X.prog X.w _ h' _ (.lst ys) from ⟨hz,a,c,d,e⟩),rfl,q _ (I.hok.fresh (Es _))⟩
 rcases j with j | j
 ·obtain ⟨a,d,pl,hz⟩:=I.list j;have f:=d.length;obtain ⟨o,k,m,n,hd⟩:=pl.isList;exact call_list_seq p (.inl rfl) k m hd (λh' c g e=>i a d hz h' c g e) (by simp <;> omega)
 ·obtain ⟨a,d,pl,hz⟩:=I.tuple j;have f:=d.length;obtain ⟨o,k,m,n,hd⟩:=pl;exact call_list_seq p (.inr rfl) k m hd (λh' c g e=>i a d hz h' c g e) (by simp <;> omega)
theorem O6:i9 X (.type "tuple") (λxs H Q=>∃ p ys,xs=[.ref p]/\((SqL X.K H p ys/\∀ l,H l=none->Q (.ref l) (upd H l (.tup ys)))\/(SqT X.K H p ys/\Q (.ref p) H))):=by
 intro pins s σ H xs us Q I r h;obtain ⟨p,ys,rfl,h⟩:=h;obtain ⟨u,rfl,k⟩:=K3 r;cases k;rcases h with ⟨c,q⟩ | ⟨c,q⟩
 ·obtain ⟨a,d,pl,hz⟩:=I.list c;have f:=d.length;refine call_tuple_list pl.isList (λh' i=>?_) (by simp <;> omega);have g:=I.kept (t':=s.toks) i;have j:Inv X pins σ (upd H h'.objs.size (.tup ys)) { s with heap:=h'.push { cls:=.type "tuple",data:=.seq a.toArray } }:=
   g.laid (λb o e=>El _ e) (Es _) (⟨hz,a,d,TupN.new _ _⟩)
  exact ⟨.ref h'.objs.size,_,j,rfl,q _ (g.hok.fresh (Es _))⟩
 ·obtain ⟨a,d,pl,hz⟩:=I.tuple c;exact call_tuple_same pl ⟨.ref p,H,I,rfl,q⟩
def tyV (K:PySem.W.Frag) (T:String) (x:V) (H:Hp):Prop:=match x with
 | .str _=>T = "str"
 | .int _=>T = "int"
 | .ref p=>(T = "list"/\∃ xs,SqL K H p xs)\/(T = "tuple"/\∃ o,K.lookup p=some o/\o.cls=.type "tuple"/\o.dict=none) \/
   (T = "dict"/\((∃ a,H p=some (.dK a))\/∃ a,H p=some (.dT a)))\/(T = "set"/\∃ S n,H p=some (.set S n))\/(T = "tuple"/\∃ xs,Rd H p (.tup xs))
 | _=>False
theorem zV {σ:St} {H:Hp} {s:Shared} {T:String} {x:V} {v:Value} (I:Inv X pins σ H s) (r:RelV x v) (ty:tyV X.K T x H) :
  s.TypeIs v T/\∀ a,v=.ref a->∃ ob,s.heap.get? a=some ob/\ob.dict=none:=by
 cases x with
 | str z=>
  obtain ⟨t,rfl⟩:=r;cases (ty);exact ⟨typeIs_str s z t,λ_ e=>nomatch e⟩
 | int i=>
  obtain ⟨t,rfl⟩:=r;cases (ty);exact ⟨Ii s i t,λ_ e=>nomatch e⟩
 | ref p=>
  cases r;rcases ty with ⟨rfl,xs,hq⟩ | ⟨rfl,o,hk,hc,hd⟩ | ⟨rfl,hk⟩ | ⟨rfl,S,n,hk⟩ | ⟨rfl,xs,hk⟩
  ·obtain ⟨its,_,pl,_⟩:=I.list hq;refine ⟨pl.isList.typeIs,λa e=>?_⟩;cases e;obtain ⟨o,n,e,c,hd,_⟩:=pl;exact ⟨o,e,hd⟩
  ·refine ⟨⟨o,I.kIn p o hk,hc⟩,λa e=>?_⟩;cases e;exact ⟨o,I.kIn _ o hk,hd⟩
  ·have z:∃ o,s.heap.get? p=some o/\o.ExactDict:=by
    rcases hk with ⟨kvs,hk⟩ | ⟨kvs,hk⟩
    ·obtain ⟨_,_,_,_,o,_,_,e,ex,_⟩:=I.hok p _ hk;exact ⟨o,e,ex⟩
    ·obtain ⟨_,_,_,_,o,_,_,e,ex,_⟩:=I.hok p _ hk;exact ⟨o,e,ex⟩
   obtain ⟨o,e,ex⟩:=z;refine ⟨⟨o,e,ex.1⟩,λa e2=>?_⟩;cases e2;exact ⟨o,e,ex.2.1⟩
  ·obtain ⟨o,_,_,_,e,ex,_⟩:=I.hok p _ hk;refine ⟨⟨o,e,ex.1⟩,λa e2=>?_⟩;cases e2;exact ⟨o,e,ex.2.1⟩
  ·obtain ⟨_,its,_,o,e,c,n,_,hd⟩:=(hk.ok I.hok);exact ⟨⟨o,e,c⟩,λa e2=>by cases e2;exact ⟨o,e,hd⟩⟩
 | _=>exact False.elim ty
def tBM (K:PySem.W.Frag) (T:String) (r:V->List V->Hp->VK->Prop) (c:TE) (t:TA):TE:=λσ H Q=>c σ H λx a=>tyV K T x a/\t σ a λxs b=>r x xs b Q
variable {o e:Expr} {es:List Expr} {to:TE} {t:TA} {name:Str} {apos cpos:Pos} {T id:String} {r:V->List V->Hp->VK->Prop}
theorem wR (l:PlainAttrs T) (d:Slot T name id) (g:typeOf (.builtin id)=pure (.type "method_descriptor")) (z:MtR X id r) (C:PE X o to) (B:PA X (e :: es) t)
  (c:attributeBase o name X.env (eval o X.env)=eval o X.env:=by rfl)
  (f:((backTo cpos (starEach (e :: es) X.env)).all (λx=>!x.1)&&(backToKw cpos (keywordEach [] X.env)).all (λx=>x.1.isSome)
   && decide ((e :: es).length+([]:List Keyword).length+(if ([]:List Keyword).isEmpty then 0 else 1)<30))=true:=by rfl)
  (b:(apos.endLine==cpos.line)=true:=by rfl) (hs:starEach (e :: es) X.env=(false,eval e X.env) :: starEach es X.env:=by rfl) (a:(backTo cpos (starEach es X.env)).any (·.1)=false:=by rfl) :
  PE X (.Call (.Attribute o name apos) (e :: es) [] cpos) (tBM X.K T r to t):=by
 intro pins s σ H Q I h;refine wpAny_Call_method_late c f b rfl (thn (C pins s σ H _ I h) λv p ⟨x,w,j,k,q,A⟩=>?_);obtain ⟨m,y⟩:=zV j k q;refine ⟨T,id,l,d,g,m,y,?_⟩;have i:=B cpos pins p σ w _ j A;rw [hs] at i ⊢;refine Calls.callWith_builtin (by show (false||(backTo cpos (starEach es X.env)).any (·.1))=false;rw [a] <;> rfl) (Calls.evalArgs_plain ?_);exact thn i λus E ⟨vs,F,D,u,n⟩=>z pins E σ F x vs v us Q D k u n
end
def MtM (X:Cx) (id:String) (r:V->List V->Hp->VK->Prop):Prop:=
 ∀ (pins:List (Addr×Obj)) (s:Shared) (σ:St) (H:Hp) (x:V) (xs:List V) (v:Value) (us:List Value) (Q:VK),Inv X pins σ H s->RelV x v->Vals xs us->r x xs H Q ->
  wpAny (model X.prog X.w) X.A (call (.builtin id) (v :: us)) (EP X pins σ Q) X.xe s
theorem Vals.one:∀ {x:V} {us:List Value},Vals [x] us->∃ u,us=[u]/\RelV x u
 | _,_,.cons r .nil=>⟨_,rfl,r⟩
theorem Vals.eraseIdx:∀ {xs:List V} {us:List Value} (i:Nat),Vals xs us->Vals (xs.eraseIdx i) (us.eraseIdx i)
 | _,_,_,.nil=>.nil
 | _,_,0,.cons _ t=>t
 | _,_,i+1,.cons r t=>.cons r (Vals.eraseIdx i t)
theorem Vals.rep (h:Vals xs us):∀ k:Nat,Vals (List.replicate k xs).flatten (List.replicate k us).flatten
 | 0=>.nil
 | k+1=>by
  rw [Gx,Gx,Hk,Hk];exact Vals.append h (Vals.rep h k)
theorem cV {a:Type}:∀ (l:List a) (i:Nat),(l.eraseIdx i).length<=l.length
 | [],_=>Es _
 | _ :: _,0=>Gb _
 | _ :: r,i+1=>Nat.succ_le_succ (cV r i)
theorem W4 (b:List Value):∀ (k:Nat) (a:List Value),
  List.foldl (λf c=>f++c) a.toArray (List.replicate k b.toArray)=(a++(List.replicate k b).flatten).toArray
 | 0,a=>by simp
 | k+1,a=>by
  have e:a.toArray++b.toArray=(a++b).toArray:=by simp
  have d:(a++b)++(List.replicate k b).flatten=a++(List.replicate (k+1) b).flatten:=by
   rw [Gx,Hk,HV]
  rw [<- d,<- W4 b k (a++b),<- e,Gx,List.foldl_cons]
section
variable {X:Cx} {pins:List (Addr×Obj)} {σ:St} {H:Hp} {s:Shared} {l b:Addr} {xs ys zs:List V}
theorem Inv.lset {a its':List Value} {n:Nat} {f:Array Value->Array Value} {t':Nat} (I:Inv X pins σ H s) (c:H l=some (.lst xs))
  (e:s.heap.get? l=some { cls:=.type "list",data:=.seq a.toArray n }) (b:f a.toArray=its'.toArray) (g:Vals ys its') (hz:ys.length<=sizeLine) :
  Inv X pins σ (upd H l (.lst ys)) { s with heap:=s.heap.update l (Obj.mapSeq f),toks:=t' }:=by
 have q:=PySem.IsL.update e f;rw [b] at q;refine I.write (by rw [c];exact trivial) (.inl rfl) (λi u d h=>(Gj s.heap (Obj.mapSeq f) (Ne.symm d)).trans h) ⟨_,q⟩ ?_;exact ⟨hz,its',_,g,q⟩
theorem Inv.lnew (I:Inv X pins σ H s) (a:Vals ys its) (hz:ys.length<=sizeLine) :
  Inv X pins σ (upd H s.heap.objs.size (.lst ys)) { s with heap:=s.heap.push { cls:=.type "list",data:=.seq its.toArray },toks:=t' }:=
 I.laid (λ_ _ q=>El _ q) (Es _) ⟨hz,its,0,a,Eu _ rfl⟩
theorem Inv.fresh (I:Inv X pins σ H s):H s.heap.objs.size=none:=I.hok.fresh (Es _)
theorem Inv.lstM (I:Inv X pins σ H s) (b:H l=some (.lst xs)):xs.length<=sizeLine/\∃ (a:List Value) (n:Nat),Vals xs a/\xs.length=a.length/\s.heap.get? l=some { cls:=.type "list",data:=.seq a.toArray n }:=by
 obtain ⟨z,a,n,r,e⟩:=I.hok l _ b;exact ⟨z,a,n,r,r.length,e⟩
theorem qC (h:n<=sizeLine):Builtin.List.listTooLong n=false:=by
 unfold Builtin.List.listTooLong;grind
end
section
variable {X:Cx}
def rAppend:V->List V->Hp->VK->Prop:=λx vs H Q=>∃ l xs y,x=.ref l/\vs=[y]/\H l=some (.lst xs)/\xs.length<sizeLine/\Q .non (upd H l (.lst (xs++[y])))
theorem N0:MtM X "list.append" rAppend:=by
 intro pins s σ H x vs v us Q I d f h;obtain ⟨l,xs,y,rfl,rfl,b,hz,q⟩:=h;cases d;obtain ⟨u,rfl,c⟩:=f.one;obtain ⟨z,a,n,r,g,e⟩:=I.lstM b;refine Hm F.slot_list_append ⟨_,e,rfl⟩ F.entry_list_append (F.args_list_append_2 _ _) (PySem.list_append l a.toArray n u (by rw [Ey];omega)) ⟨e,?_⟩;refine ⟨.non,_,I.lset b e (by simp) (r.append (.cons c .nil)) ?_,rfl,q⟩;grind
def rPopAt:V->List V->Hp->VK->Prop:=λx vs H Q=>∃ l xs i k y,x=.ref l/\vs=[.int i]/\H l=some (.lst xs)/\-(2 ^ 63)<=i/\i<2 ^ 63/\seqIndex? i xs.length=some k/\xs[k]?=some y/\Q y (upd H l (.lst (xs.eraseIdx k)))
theorem pZ:MtM X "list.pop" rPopAt:=by
 intro pins s σ H x vs v us Q I rx rv h;obtain ⟨l,xs,i,k,y,rfl,rfl,hH,h1,h2,hk,hy,q⟩:=h;cases rx;obtain ⟨u,rfl,ru⟩:=rv.one;obtain ⟨t,rfl⟩:=ru;obtain ⟨z,its,n,r,hl,e⟩:=I.lstM hH;obtain ⟨w,hw,rw'⟩:=r.get hy;refine Hm F.slot_list_pop ⟨_,e,rfl⟩ F.entry_list_pop (F.args_list_pop_2 _ _)
  (MeetsSeq.list_pop_at l its.toArray n i t k w (fitsIndex_both h1 h2) (by rw [Ey,<- hl];exact hk) (by rw [<- Gq];exact hw) (by rw [Ey];omega)) ⟨e,?_⟩
 refine ⟨y,_,I.lset (its':=its.eraseIdx k) hH e ?_ (r.eraseIdx k) ?_,rw',q⟩
 ·show its.toArray.eraseIdxIfInBounds k=(its.eraseIdx k).toArray;rw [List.eraseIdxIfInBounds_toArray]
 ·have:=cV xs k;omega
def rCat:R2:=λx y H Q=>∃ l b xs a,x=.ref l/\y=.ref b/\H l=some (.lst xs)/\H b=some (.lst a)/\xs.length+a.length<=sizeLine/\∀ p,H p=none->Q (.ref p) (upd H p (.lst (xs++a)))
theorem xb:OpR X (binaryOp .Add) rCat:=by
 intro pins s σ H x y v u Q I m k h;obtain ⟨l,b,xs,A,rfl,rfl,o,g,hz,q⟩:=h;cases m;cases k;obtain ⟨z,c,n,r,t,e⟩:=I.lstM o;obtain ⟨p,a,w,f,j,i⟩:=I.lstM g;refine PySem.P.add_list e i ?_ (by rw [Ey,Ey];omega);have d:c.toArray++a.toArray=(c++a).toArray:=by simp
 rw [d];exact ⟨.ref _,_,I.lnew (r.append f) (by rw [FN];omega),rfl,q _ I.fresh⟩
def rRep:R2:=λx y H Q=>∃ l k xs,x=.ref l/\y=.int k/\H l=some (.lst xs)/\-(2 ^ 63)<=k/\k<2 ^ 63/\xs.length * k.toNat<=sizeLine /\
 ∀ p,H p=none->Q (.ref p) (upd H p (.lst (List.replicate k.toNat xs).flatten))
theorem jj {a:Type} (xs:List a) (k:Nat):(List.replicate k xs).flatten.length=k * xs.length:=by simp_all
theorem yY:OpR X (binaryOp .Mult) rRep:=by
 intro pins s σ H x y v u Q I rx ry h;obtain ⟨l,k,xs,rfl,rfl,hH,h1,h2,hz,q⟩:=h;cases rx;obtain ⟨t,rfl⟩:=ry;obtain ⟨z,its,n,r,hl,e⟩:=I.lstM hH;have hlen:its.toArray.size * k.toNat<=sizeLine:=by rw [Ey,<- hl];exact hz
 have hcap:¬ its.toArray.size * k.toNat > (2 ^ 63-1) / 8:=by
  have:(sizeLine:Nat)<=(2 ^ 63-1) / 8:=by decide
  omega
 have hfit:¬ (!Builtin.List.listFitsIndex k)=true:=by
  rw [fitsIndex_both h1 h2];exact Er
 have hlong:¬ Builtin.List.listTooLong (its.toArray.size * k.toNat)=true:=by
  rw [qC hlen];exact Er
 have hnew:List.foldl (λx1 x2=>x1++x2) #[] (List.replicate (if its.toArray.isEmpty=true then 0 else k.toNat) its.toArray)=(List.replicate k.toNat its).flatten.toArray:=by
  have f0:=λm=>by
   have:=W4 its m [];rw [List.nil_append] at this;exact this
  rw [f0];cases its with
  | nil=>simp
  | cons a r'=>rw [if_neg (by simp)]
 refine Hv (by decide) ⟨_,e,rfl⟩ (λs'=>Ii s' k t) noFill_list_mul F.fills_int_mul F.slot_int_rmul repeat_list F.slot_int_index.lookup
  (Hm F.slot_int_rmul (Ii s k t) F.entry_int_rmul (F.args_int_rmul_2 _ _) (int___rmul___int_list k t l its.toArray n)
   ⟨e,rfl,⟨_,e,rfl⟩,Hm F.slot_list_mul ⟨_,e,rfl⟩ F.entry_list_mul (F.args_list_mul_2 _ _) (AutoListH.list___mul___list_int_3 l its.toArray n k t hfit hcap hlong) ⟨e,?_⟩⟩)
 rw [hnew];exact ⟨.ref _,_,I.lnew (r.rep k.toNat) (by rw [jj,Nat.mul_comm];exact hz),rfl,q _ I.fresh⟩
end
section
variable {κ:Type} [DecidableEq κ]
def Y5 (a:List (κ×V)) (k:κ):Option V:=(a.find? λb=>decide (b.1=k)).map (·.2)
def y0 (a:List (κ×V)) (k:κ) (v:V):List (κ×V):=
 if (a.any λb=>decide (b.1=k))=true then a.map (λb=>if b.1=k then (b.1,v) else b) else a++[(k,v)]
theorem R4 {k:κ} (e:p.1=k):Y5 (p :: r) k=some p.2:=by simp [Y5,GL,e]
theorem R1 {k:κ} (e:¬ p.1=k):Y5 (p :: r) k=Y5 r k:=by simp [Y5,GL,e]
theorem ef (k:κ):∀ a:List (κ×V),(a.any λb=>decide (b.1=k))=(Y5 a k).isSome
 | []=>rfl
 | p :: r=>by
  rw [GC];by_cases e:p.1=k
  ·simp only [R4 e,Fa e,Bool.true_or,Option.isSome_some]
  ·rw [R1 e,Fv e,Bool.false_or];exact ef k r
theorem K9 (a:List (κ×V)) (k:κ) (v:V):(y0 a k v).length<=a.length+1:=by
 unfold y0;grind
theorem RelO.isSome_eq (r:RelO o u):o.isSome=u.isSome:=by
 cases o with
 | none=>cases u with
  | none=>rfl
  | some _=>exact (r).elim
 | some _=>cases u with
  | none=>exact (r).elim
  | some _=>rfl
theorem KV.val (r:KV kvs vs) (k:κ):RelO (Y5 kvs k) (valueAt vs k):=by
 induction r with
 | nil=>exact True.intro
 | @cons p q ps a h t g=>
  obtain ⟨d,f⟩:=h;by_cases e:p.1=k
  ·have c:=d.symm.trans e;have b:valueAt (q :: a) k=some q.2:=by simp [valueAt,GL,c]
   rw [R4 e,b];exact f
  ·have c:¬ q.1=k:=λz=>e (d.trans z);have b:valueAt (q :: a) k=valueAt a k:=by simp [valueAt,GL,c]
   rw [R1 e,b];exact g
theorem KV.any {kvs:List (κ×V)} {vs:List (κ×Value)} (r:KV kvs vs) (k:κ):(kvs.any λkv=>decide (kv.1=k))=vs.any λkv=>decide (kv.1=k):=by
 unfold KV at r;induction r with
 | nil=>rfl
 | cons h t ih=>rw [GC,GC,ih,h.1]
theorem KV.repl (r:KV kvs vs) (k:κ) {y:V} {u:Value} (d:RelV y u) :
  KV (kvs.map λa=>if a.1=k then (a.1,y) else a) (vs.map λa=>if a.1=k then (a.1,u) else a):=by
 induction r with
 | nil=>exact .nil
 | @cons p q ps g h t b=>
  rw [Fs,Fs];refine .cons ?_ b;obtain ⟨c,f⟩:=h;by_cases e:p.1=k
  ·grind
  ·grind
theorem KV.put (r:KV kvs vs) (k:κ) {y:V} {u:Value} (a:RelV y u):KV (y0 kvs k y) (stored vs k u):=by
 unfold y0 stored;rw [r.any k];by_cases e:(vs.any λb=>decide (b.1=k))=true
 ·rw [if_pos e,if_pos e];exact r.repl k a
 ·rw [if_neg e,if_neg e];exact Paired.snoc r ⟨rfl,a⟩
theorem KV.length {vs:List (κ×Value)} (r:KV kvs vs):kvs.length=vs.length:=Paired.length r
end
theorem jy {k:Key} {u:Value} (r:RelV (kV k) u):(k0 P w).is k u=true:=by
 cases k with
 | inl i=>obtain ⟨t,e⟩:=(r);subst e;exact eP P w i t
 | inr x=>obtain ⟨t,e⟩:=(r);subst e;exact eZ P w x t
theorem cv:∀ {a:List Key} {us:List Value},Vals (a.map kV) us->ItemsAre (k0 P w) a us
 | [],_,r=>by rw [List.map_nil] at r;cases r;exact .nil
 | k :: a,_,r=>by
  rw [Fs] at r;cases r with
  | cons h t=>exact .cons (jy h) (cv t)
abbrev KT (H:Hp):List (List Key×V)->List (List Key×Addr×Value)->Prop:=Paired λp q=>p.1=q.1/\H q.2.1=some (.tup (p.1.map kV))/\RelV p.2 q.2.2
theorem KT.val (r:KT H kvs xs) (k:List Key):RelO (Y5 kvs k) ((atKey xs k).map (·.2)):=by
 induction r with
 | nil=>exact True.intro
 | @cons p q ps a h t g=>
  obtain ⟨d,_,f⟩:=h;by_cases e:p.1=k
  ·have c:=d.symm.trans e;have b:atKey (q :: a) k=some q.2:=by simp [atKey,GL,c]
   rw [R4 e,b];exact f
  ·have c:¬ q.1=k:=λz=>e (d.trans z);have b:atKey (q :: a) k=atKey a k:=by simp [atKey,GL,c]
   rw [R1 e,b];exact g
theorem KT.repl (r:KT H kvs xs) (k:List Key) {y:V} {u:Value} (d:RelV y u) :
  KT H (kvs.map λa=>if a.1=k then (a.1,y) else a) (xs.map (putAt k u)):=by
 induction r with
 | nil=>exact .nil
 | @cons p q ps i h t b=>
  rw [Fs,Fs];refine .cons ?_ b;obtain ⟨c,f,g⟩:=h;unfold putAt;by_cases e:p.1=k
  ·grind
  ·grind
theorem KT.put (r:KT H kvs xs) (k:List Key) {b:Addr} {y:V} {u:Value} (c:H b=some (.tup (k.map kV))) (a:RelV y u) :
  KT H (y0 kvs k y) (storedH xs k b u):=by
 have e:(kvs.any λd=>decide (d.1=k))=(atKey xs k).isSome:=by
  rw [ef,(r.val k).isSome_eq,Option.isSome_map]
 unfold y0 storedH;rw [e];by_cases q:(atKey xs k).isSome=true
 ·rw [if_pos q,if_pos q];exact r.repl k a
 ·rw [if_neg q,if_neg q];exact Paired.snoc r ⟨rfl,c,a⟩
theorem KT.keeps {a:List (List Key×V)} {xs:List (List Key×Addr×Value)} (r:KT H a xs) (c:∀ b ys,H b=some (.tup ys)->H' b=some (.tup ys)):KT H' a xs:=
 Paired.mapP r λ_ _ z=>⟨z.1,c _ _ z.2.1,z.2.2⟩
section
variable {P:Program} {w:World} {H:Hp} {h:Heap} {a:Addr}
theorem ww (b:HOk P w H h) (e:Rd H a u):ObjOk P w H h a u:=e.ok b
theorem jz (b:HOk P w H h) (e:Rd H a (.dK kvs)):kvs.length<=sizeLine/\(a==sysModules)=false/\∃ vs,KV kvs vs/\h.DictOf (k0 P w) a vs:=
 ww b e
theorem wc (b:HOk P w H h) (e:H a=some (.dK kvs)):kvs.length<=sizeLine/\(a==sysModules)=false/\∃ vs,KV kvs vs/\h.DictOf (k0 P w) a vs:=jz b (.inl e)
theorem gh (g:HOk P w H h) (e:H a=some (.tup (ks.map kV))):(tupleKind (k0 P w)).is h ks a:=by
 obtain ⟨_,b,r,o,c,d,n,f⟩:=(g a _ e);exact ⟨o,b.toArray,n,c,d,f.1,by simpa using cv r⟩
theorem rF (d:HOk P w H h) (e:Rd H a (.dT kvs)):kvs.length<=sizeLine/\(a==sysModules)=false /\
  ∃ xs,KT H kvs xs/\h.DictOfH (tupleKind (k0 P w)) a xs:=by
 obtain ⟨z,y,xs,r,o,es,s,g,j,n,i,u⟩:=(ww d e);refine ⟨z,y,xs,r,o,es,s,g,j,n,i,λx b=>?_,u⟩;have f:∀ {l:List (List Key×V)} {m:List (List Key×Addr×Value)},KT H l m->∀ x∈m,(tupleKind (k0 P w)).is h x.1 x.2.1:=by
  intro l m q;induction q with
  | nil=>intro x b;exact nomatch b
  | @cons p q ps v c t k=>
   intro x b;rcases Ez.mp b with e | b
   ·subst e;exact gh d (by rw [<- c.1];exact c.2.1)
   ·exact k x b
 grind
theorem BC (b:HOk P w H h) (e:H a=some (.dT kvs)):kvs.length<=sizeLine/\(a==sysModules)=false /\
  ∃ xs,KT H kvs xs/\h.DictOfH (tupleKind (k0 P w)) a xs:=rF b (.inl e)
end
def DGet (H:Hp) (a:Addr) (y:V) (r:Option V):Prop:=
 (∃ c k,Rd H a (.dK c)/\y=kV k/\r=Y5 c k)\/∃ c k b,Rd H a (.dT c)/\y=.ref b/\H b=some (.tup (k.map kV))/\r=Y5 c k
def DPut (H:Hp) (a:Addr) (y v:V) (H':Hp):Prop:=
 (∃ c k,H a=some (.dK c)/\y=kV k/\c.length<sizeLine/\H'=upd H a (.dK (y0 c k v))) \/
 ∃ c k b,H a=some (.dT c)/\y=.ref b/\H b=some (.tup (k.map kV))/\c.length<sizeLine/\H'=upd H a (.dT (y0 c k v))
theorem DGet.k {k:Key} (e:H a=some (.dK kvs)):DGet H a (kV k) (Y5 kvs k):=.inl ⟨kvs,k,.inl e,rfl,rfl⟩
theorem DPut.k {k:Key} {v:V} (e:H a=some (.dK kvs)) (b:kvs.length<sizeLine):DPut H a (kV k) v (upd H a (.dK (y0 kvs k v))):=.inl ⟨kvs,k,e,rfl,b,rfl⟩
section
variable {X:Cx} {pins:List (Addr×Obj)} {σ:St} {H:Hp} {s:Shared} {a:Addr} {y v:V} {u r:Value} {o:Option V} {A:Around} {E:Value->Shared->Prop}
theorem Inv.big (I:Inv X pins σ H s):sysModules<s.heap.objs.size:=by
 have h:=(I.mod.glob.keeps I.bk).lt;exact Nat.lt_trans (by decide) h
theorem kY (t:A.units+1<cLine) (I:Inv X pins σ H s) (g:DGet H a y (some v)) (o:RelV y u) (h:∀ w' s',Inv X pins σ H s'->RelV v w'->Q w' s') :
  wpAny (model X.prog X.w) A (getItem (.ref a) u) Q E s:=by
 rcases g with ⟨n,k,e,i,l⟩ | ⟨n,k,b,e,i,q,l⟩
 ·subst i;obtain ⟨z,hd,vs,d,f⟩:=jz I.hok e;obtain ⟨w',m,c⟩:=RelO.some_of (by rw [l];exact d.val k);exact wpAny_getItem_of (jy o) f.mapOf m (h w' _ (I.tok _) c)
 ·subst i;cases (o);obtain ⟨z,hd,xs,d,f⟩:=rF I.hok e;obtain ⟨w',m,c⟩:=RelO.some_of (by rw [l];exact d.val k);obtain ⟨p,r,j⟩:=GW.mp m;refine wpAny_getItem_heap (tupleKind_room_in1 t) (gh I.hok q) f r ?_;rw [j];exact h w' _ (I.tok _) c
theorem eC {ob:HO} (I:Inv X pins σ H s) (e:Mut (H a)) (hs:Heap.SameBut a s.heap h') (d:∃ q,h'.get? a=some q) (c:ObjOk X.prog X.w (upd H a ob) h' a ob) :
  Inv X pins σ (upd H a ob) { s with heap:=h',toks:=t' }:=
 I.write e (.inl rfl) (λb q f z=>(hs.2 b f).trans z) d c
theorem rJ {b:List (Key×V)} {vs:List (Key×Value)} (z:b.length<=sizeLine) (hd:(a==sysModules)=false) (c:KV b vs) (d:h'.DictOf (k0 P w) a vs) :
  ObjOk P w H' h' a (.dK b):=⟨z,hd,vs,c,d⟩
theorem ki (L:A.units+1<cLine) (I:Inv X pins σ H s) (g:DPut H a y v H') (w:RelV y u) (B:RelV v r) (h:∀ s',Inv X pins σ H' s'->Q () s') :
  wpAny (model X.prog X.w) A (setItem (.ref a) u r) Q E s:=by
 rcases g with ⟨d,k,e,p,l,n⟩ | ⟨d,k,b,e,p,t,l,n⟩
 ·subst p n;obtain ⟨z,hd,vs,f,o⟩:=wc I.hok e;have hz:vs.length<=sizeLine:=by rw [<- f.length];exact z
  have m:(y0 d k v).length<=sizeLine:=by have:=K9 d k v;omega
  refine wpAny_setItem_pairs (jy w) o λh' i hs=>h _ ?_;have D:∃ q,h'.get? a=some q:=let ⟨q,_,_,j,_⟩:=i;⟨q,j⟩
  exact eC I (by rw [e];exact True.intro) hs D (rJ m hd (f.put k B) i)
 ·subst p n;cases (w);obtain ⟨z,hd,xs,f,o⟩:=BC I.hok e;have hz:xs.length<=sizeLine:=by rw [<- Paired.length f];exact z
  have m:(y0 d k v).length<=sizeLine:=by have:=K9 d k v;omega
  refine wpAny_setItem_heap (tupleKind_room_in1 L) (gh I.hok t) o λh' i hs=>h _ ?_;obtain ⟨q,es,F,j,J,K,C,_,G⟩:=i;refine eC I (by rw [e];exact True.intro) hs ⟨q,j⟩ ⟨m,hd,_,(f.put k t B).keeps λc ys x=>?_,q,es,F,j,J,K,C,G⟩;rw [a8 (jR x e (λz=>nomatch z))];exact x
end
section
variable {X:Cx} {pins:List (Addr×Obj)} {σ:St} {H:Hp} {s:Shared} {a:Addr} {kvs:List (Key×V)} {k:Key} {u:Value} {A:Around} {E:Value->Shared->Prop}
theorem CM (I:Inv X pins σ H s) (e:Rd H a (.dK kvs)) (h:∀ t s',Inv X pins σ H s'->Q (.int kvs.length t) s'):wpAny (model X.prog X.w) A (call (.builtin "len") [.ref a]) Q E s:=by
 obtain ⟨z,hd,vs,b,c⟩:=jz I.hok e;refine call_len_dict hd c (by rw [<- b.length];rw [Fp] at z;omega) ?_;rw [<- b.length];exact h _ _ (I.tok _)
end
theorem eK {σ:St} {H:Hp} {s:Shared} {a:Addr} {y:V} {o:Option V} (I:Inv X pins σ H s) (g:DGet H a y o):s.TypeIs (.ref a) "dict":=by
 rcases g with ⟨d,k,e,_,_⟩ | ⟨d,k,b,e,_,_,_⟩
 ·obtain ⟨_,_,vs,_,c⟩:=jz I.hok e;exact c.typeIs
 ·obtain ⟨_,_,xs,_,c⟩:=rF I.hok e;exact c.typeIs
theorem oH (h:Heap) (a:sysModules<h.objs.size):ObjOk P w H (h.push { cls:=.type "dict",data:=.dict #[] }) h.objs.size (.dK []):=
 ⟨FJ _,IB.mpr (Ne.symm (Ex a)),[],.nil,Heap.DictOf.new h⟩
def dA:List (TE×TE)->St->Hp->(List (V×V)->Hp->Prop)->Prop
 | [],_,H,Q=>Q [] H
 | (d,a) :: r,σ,H,Q=>d σ H λx c=>a σ c λy e=>dA r σ e λps b=>Q ((x,y) :: ps) b
abbrev VV:List (V×V)->List (Value×Value)->Prop:=Paired λp q=>RelV p.1 q.1/\RelV p.2 q.2
def PPs (X:Cx) (pos:Pos) (b:List (Option Expr)) (a:List Expr) (c:List (TE×TE)):Prop:=
 ∀ (pins:List (Addr×Obj)) (s:Shared) (σ:St) (H:Hp) (Q:List (V×V)->Hp->Prop),Inv X pins σ H s->dA c σ H Q ->
  wpAny (model X.prog X.w) X.A (evalPairs (pairTrees b a X.env pos)) (λvs s'=>∃ ps H',Inv X pins σ H' s'/\VV ps vs/\Q ps H') X.xe s
theorem sZ:PPs X pos [] [] []:=λpins s σ H Q I h=>pairTrees_nil_walk ⟨[],H,I,.nil,h⟩
theorem rV {k v:Expr} {d:List (Option Expr)} {vs:List Expr} {e c:TE} {a:List (TE×TE)} (f:PE X k e) (m:PE X v c) (j:PPs X pos d vs a) :
  PPs X pos (some k :: d) (v :: vs) ((e,c) :: a):=λpins s σ H Q I h=>
 pairTrees_cons_walk (thn (f pins s σ H _ I h) λu l ⟨x,p,n,r,t⟩=>thn (m pins l σ p _ n t) λC A ⟨y,B,w,g,i⟩=>
  thn (j pins A σ B _ w i) λws D ⟨ps,z,o,b,q⟩=>⟨(x,y) :: ps,z,o,.cons ⟨r,g⟩ b,q⟩)
def P6 (c a:List (Key×V)):List (Key×V):=a.foldl (λb d=>y0 b d.1 d.2) c
theorem KV.merge:∀ {a:List (Key×V)} {rs:List (Key×Value)} {b:List (Key×V)} {vs:List (Key×Value)},KV a rs->KV b vs->KV (P6 b a) (merged vs rs):=by
 intro a rs b vs r;induction r generalizing b vs with
 | nil=>intro q;exact q
 | @cons p q ps f h t c=>
  intro d;have e:KV (y0 b p.1 p.2) (stored vs q.1 q.2):=by
   have:=d.put p.1 h.2;rw [<- h.1];exact this
  exact c e
theorem O4:∀ (b a:List (Key×V)),(P6 a b).length<=a.length+b.length
 | [],a=>by show a.length<=a.length+0;omega
 | p :: r,a=>by
  have d:=O4 r (y0 a p.1 p.2);have c:=K9 a p.1 p.2;show (P6 (y0 a p.1 p.2) r).length<=_;rw [GE];omega
theorem ay:∀ {d:List (Key×V)} {ws:List (Value×Value)},VV (d.map λe=>(kV e.1,e.2)) ws->∃ rs,Carries (k0 P w) ws rs/\KV d rs
 | [],_,r=>by rw [List.map_nil] at r;cases r;exact ⟨[],True.intro,.nil⟩
 | p :: d,_,r=>by
  rw [Fs] at r;cases r with
  | @cons a b j i h t=>
   obtain ⟨rs,c,q⟩:=ay t;obtain ⟨g,f⟩:=b;exact ⟨(p.1,f) :: rs,⟨jy h.1,rfl,c⟩,.cons ⟨rfl,h.2⟩ q⟩
def Cu (b:List (TE×TE)):TE:=λσ H Q=>∀ p,H p=none->dA b σ (upd H p (.dK [])) λps c=>c p=some (.dK [])/\∃ a:List (Key×V),ps=a.map (λd=>(kV d.1,d.2))/\a.length<=15/\Q (.ref p) (upd c p (.dK (P6 [] a)))
theorem uD (h:PPs X pos keys values trs) (d:keys.all (·.isSome)=true) (k:keys.length=values.length) (u:keys≠[])
  (f:keys.length<=15):PE X (.Dict keys values pos) (Cu trs):=by
 intro pins s σ H Q I q;have t:=I.hok.fresh (Es s.heap.objs.size);have p:=I.laid (t':=s.toks) (λ_ _ q=>El _ q) (Es _) (oH s.heap I.big);refine wpAny_Dict_walk (knd:=k0 X.prog X.w) d k u f (thn (h pins _ σ _ _ p (q _ t)) λws A ⟨ps,B,i,g,e,a,r,y,l⟩=>?_);subst r;obtain ⟨rs,c,n⟩:=ay g;obtain ⟨z,hd,x,m,v⟩:=wc i.hok e;cases m;refine ⟨rs,c,v,λh' b hs=>⟨.ref s.heap.objs.size,_,?_,rfl,l⟩⟩;have hz:(P6 [] a).length<=sizeLine:=by
  have j:=O4 a [];rw [Jv] at j;rw [Fp];omega
 have o:∃ q,h'.get? s.heap.objs.size=some q:=let ⟨q,_,_,w,_⟩:=b;⟨q,w⟩
 exact eC i (by rw [e];exact True.intro) hs o (rJ hz hd (n.merge .nil) b)
end L2
namespace Att
open PySem PySem.W PySem.Calls PyProof.Rows
theorem Z3:∀ (ns:List Int) (vs:List Value),WellAll P h vs (ns.map WData.int)->IntsAre vs ns:=by
 intro ns;induction ns with
 | nil=>
  intro vs w;rw [List.map_nil] at w;cases w;exact .nil
 | cons n ns c=>
  intro vs w;rw [Fs] at w;cases w with
  | cons a b=>
   cases a;exact .cons _ _ (c _ b)
theorem mJ {l:OpenLaw} {n:Nat} (hn:l.most=some n) {P:Params} {h:Heap} {args:List WData} {vals:List Value}
  (hpre:l.row.toRowW.claim.pre args=true) (hwl:WellAll P h vals args) :
  ∃ a vs ns,vals=[Value.ref a]/\args=[WData.list (ns.map WData.int)]/\h.get? a=some { cls:=.type "list",data:=.seq vs.toArray }/\IntsAre vs ns/\ns.length<=n:=by
 have hsh:=(pre_splitW hpre).1;have hc:=(pre_splitW hpre).2;obtain ⟨d,r,rfl,h1,h2⟩:=hasAllW_cons hsh;obtain rfl:=hasAllW_nil h2;obtain ⟨xs,rfl,h3⟩:=hasW_list h1;obtain ⟨ns,rfl⟩:=items_int h3;have hlen:ns.length<=n:=by
  have h4:(WTm.not (.lt (.lit (.int (n:Int))) (.len (.arg 0)))).holds [] { args:=[.list (ns.map .int)] }=true:=by
   have h4:=(holds_andW hc).1;rw [hn] at h4;exact h4
  have h5:=condW_of h4 (w_not (w_lt w_lit (w_len_list (w_arg rfl))));rw [En] at h5;refine Hs λq=>?_;have q':(n:Int)<((ns.length:Nat):Int):=by omega
  first
   | (rw [Fa q'] at h5;exact absurd h5 (by decide))
   | (simp at h5;omega)
 cases hwl with
 | cons w1 w2=>
  cases w2;cases w1 with
  | list ho hall=>exact ⟨_,_,ns,rfl,rfl,ho,Z3 ns _ hall,hlen⟩
theorem lT (l:OpenLaw) (a:List WData):l.row.toRowW.claim.post a (.bool true) a=true:=
 postW_of
  (show WShape.has [] (.bool true) .bool=true by first | rfl | decide | simp [WShape.has,WShape.arms,WShape.armsAll])
  (w_eq_bool (w_res rfl) w_lit) rfl
theorem attach_call {l:OpenLaw} {n:Nat} {q:Program} {e:List Str} {H:(Str->Option Value)->Heap->Prop} {D:World->Heap->Prop} {d:DefRec}
  (M:l.most=some n) (z:d.params.defaults=[])
  (k:∀ (w:World) (c b:Shared) (s A:Str->Option Value) (m:Addr) (o:Obj) (x t g:Value) (a:Addr) (vs:List Value) (ns:List Int),
   Ground q e [] H w c s A b.heap->D w b.heap ->
   b.heap.get? m=some o->o.data=.func (docDef d.name d.params d.body d.scope x t g)->b.heap.CodeRec t d.name->s d.name=some (.ref m) ->
   b.heap.get? a=some { cls:=.type "list",data:=.seq vs.toArray }->IntsAre vs ns->ns.length<=n->b.gens=#[] ->
   codeAny (model l.prog w) callerA (.call (.ref m) ⟨[.ref a],[]⟩) (λr s'=>r=.ok (.ret (.bool true))/\OldK b.heap s'.heap/\s'.os=b.os/\AllBare s'.gens) b) :
  WalkO q e H D l.row.toRowW d [] (λf vs=>PySem.call f vs):=by
 intro w c b s A G Y m o x t g L I Q hd y B v S E C U j F P u K;obtain rfl:L=.none:=Dflts.none B z;obtain rfl:I=.none:=Dflts.noKw B;obtain ⟨a,vs,ns,rfl,rfl,i,h,p⟩:=mJ M j u;refine enter_call (Gi (k w c b s A m o x t g a vs ns G Y Q (fd_plain hd) y v i h p S) λr s' R=>?_);obtain ⟨rfl,N,T,J⟩:=R;exact ⟨.inl ⟨.bool true,.bool true,[],rfl,λ_=>rfl,.bool true,lT l _,λ_=>⟨List.Pairwise.nil,λ_ O=>(nomatch O)⟩⟩,N,T,J⟩
end Att
namespace L2
open PySem PySem.Spec PyProof.Rows
theorem cT:∀ {vs:List Value} {ns:List Int},IntsAre vs ns->Vals (ns.map V.int) vs
 | _,_,.nil=>.nil
 | _,_,.cons n t h=>.cons ⟨t,rfl⟩ (cT h)
def yW (H:Hp):Prop:=∀ b,H b=none\/∃ o xs,H b=some (.frz o (.lst xs))
theorem qW {K:PySem.W.Frag} {mg mb:Str->Option Value} {CX:CXT} {k:Nat} {fa a:Addr} {fd:FuncData} {x:Str} {sp:Sp} {s₁:Shared} {vs:List Value} {ns:List Int}
  (KX:K.In s₁.heap) (hns:s₁.heap.Ns mainGlobals mg) (hb:s₁.heap.Ns builtinsNs mb) (hbb:∀ x:Str,x ≠ "__name__"->mb x=bootBuiltins x) (hlim:s₁.heap.NoLimit) (hg:s₁.gens=#[])
  (ha:s₁.heap.get? a=some { cls:=.type "list",data:=.seq vs.toArray }) (hi:IntsAre vs ns) (hl:ns.length<=sizeLine) (hr:Room false k callerA)
  (F:∀ base:Heap,K.In base->base.Ns mainGlobals mg->FnOk P w K mg base CX k fa fd [x] sp) (hbind:∀ (s:Shared) (u:Value),BindsTo s fd ⟨[u],[]⟩ [(x,u)])
  (hsp:∀ H:Hp,yW H->SqL K H a (ns.map V.int)->sp [.ref a] H (λv _=>v=.bl true) λ_ _ _=>False)
  (hCX:∀ H e s',CX [] H s₁ (λ_ _ _=>False) e s'->False) :
  codeAny (model P w) callerA (.call (.ref fa) ⟨[.ref a],[]⟩) (λr s'=>r=.ok (.ret (.bool true))/\OldK s₁.heap s'.heap/\s'.os=s₁.os/\AllBare s'.gens) s₁:=by
 have rv:=cT hi;have lenV:=hi.length;have core:∀ H:Hp,yW H->SqL K H a (ns.map V.int)->HOk P w H s₁.heap->(∀ b,H b≠none->b=a)->(H a≠none->K.lookup a=none) ->
   codeAny (model P w) callerA (.call (.ref fa) ⟨[.ref a],[]⟩) (λr s'=>r=.ok (.ret (.bool true))/\OldK s₁.heap s'.heap/\s'.os=s₁.os/\AllBare s'.gens) s₁:=by
  intro H hO hS hok hA hK;have N1:∀ {b:Addr} {o:Obj},s₁.heap.get? b=some o->H b=none->(eL s₁.heap H).get? b=some o:=λe n=>pj e n;have noA:∀ {b:Addr} {o:Obj} {es:Array DictEntry} {ep:Nat},s₁.heap.get? b=some o->o.data=.dict es ep->H b=none:=λ{b o es ep} e d=>by
   cases q:H b with
   | none=>rfl
   | some u=>
    have e':=hA b (by rw [q];simp);subst e';rw [ha] at e;cases e;have d':=d;cases d'
  have nsK:∀ {b:Addr} {m:Str->Option Value},s₁.heap.Ns b m->(eL s₁.heap H).Ns b m:=λ{b m} ⟨o,es,ep,e,d,r⟩=>⟨o,es,ep,N1 e (noA e d),d,r⟩;have hKb:=λb o e=>N1 (KX b o e) (by
   cases q:H b with
   | none=>rfl
   | some u=>
    have e':=hA b (by rw [q];simp);subst e';rw [hK (by rw [q];simp)] at e;cases e)
  have hM:Mod K mg (eL s₁.heap H):=⟨hKb,nsK hns,⟨mb,nsK hb,hbb⟩,let ⟨mc,h1,h2⟩:=hlim;⟨mc,nsK h1,h2⟩⟩;have e0:Env0 P w K mg (eL s₁.heap H) callerA [] s₁ H:=⟨rfl,hM,λb o e=>rm e,Nat.le_of_eq (kc _ _),trivial,λb hb=>absurd (show b∈([]:List Addr) from hb) (by simp),hok,.of_eq hg⟩;refine Gi ((F _ hKb (nsK hns)).run callerA [] s₁ H ⟨[.ref a],[]⟩ [.ref a] [.ref a] _ _ hr.any e0 (hbind s₁ (.ref a)) (.cons rfl .nil) (hsp H hO hS)) λr s' h=>?_;cases r with
  | error e=>exact (hCX H e s' h).elim
  | ok fl=>
   cases fl with
   | next=>exact False.elim h
   | brk=>exact False.elim h
   | cont=>exact False.elim h
   | ret u=>
    obtain ⟨v,H',os,bare,un,hok',r',q⟩:=h;have q':=q;subst q';obtain rfl:u=Value.bool true:=r';refine ⟨rfl,OldK.of_keep λb o e=>?_,os,bare⟩;cases q:H b with
    | none=>exact un.keep b o e q (by intro z;exact absurd (show b∈([]:List Addr) from z) (by simp)) (by simp)
    | some u=>
     rcases hO b with z | ⟨ob,xs,z⟩
     ·rw [q] at z;cases z
     ·have z2:=un.frzs b ob _ z;obtain ⟨e1,_⟩:=hok b _ z;obtain ⟨e2,_⟩:=hok' b _ z2;rw [e] at e1;cases e1;exact e2
 cases hk:K.lookup a with
 | some o=>
  have e:=KX a o hk;rw [ha] at e;cases e;refine core (λ_=>none) (λ_=>.inl rfl) (.inr ⟨_,vs.toArray,_,hk,rfl,rfl,rfl,by rw [Ey,lenV];exact hl,by simpa using rv⟩) (λb u z=>by have z':=z;cases z') (λb z=>absurd rfl z) λz=>absurd rfl z
 | none=>
  refine core (λb=>if b=a then some (.frz { cls:=.type "list",data:=.seq vs.toArray } (.lst (ns.map V.int))) else none) (λb=>?_) (.inl (.inr ⟨{ cls:=.type "list",data:=.seq vs.toArray },if_pos rfl⟩)) (λb u z=>?_) (λb z=>?_) λ_=>hk
  ·grind
  ·by_cases hb:b=a
   ·have z':=(if_pos hb).symm.trans z;cases z';subst hb;exact ⟨ha,by rw [En];exact hl,vs,_,rv,ha⟩
   ·grind
  ·grind
theorem walk_of {l:PySem.W.OpenLaw} {n k:Nat} {q:Program} {g:List Str} {Q:(Str->Option Value)->Heap->Prop} {D:World->Heap->Prop} {d:DefRec} {K:Params->PySem.W.Frag} {CX:World->CXT} {sp:World->Sp} {x:Str}
  (O:l.most=some n) (A:n<=sizeLine) (B:d.params.defaults=[]) (M:Room false k callerA)
  (S:∀ (w:World) (h:Heap),D w h->(K w.params).In h)
  (F:∀ (w:World) (j:Str->Option Value) (r:Addr) (h:Heap),(K w.params).In h->h.Ns mainGlobals j->j d.name=some (.ref r) ->
   ∃ fd:FuncData,(∀ (s:Shared) (u:Value),BindsTo s fd ⟨[u],[]⟩ [(x,u)]) /\
    ∀ b:Heap,(K w.params).In b->b.Ns mainGlobals j->FnOk l.prog w (K w.params) j b (CX w) k r fd [x] (sp w))
  (t:∀ (w:World) (H:Hp) (a:Addr) (ns:List Int),ns.length<=n->yW H->SqL (K w.params) H a (ns.map V.int)->sp w [.ref a] H (λv _=>v=.bl true) λ_ _ _=>False)
  (z:∀ (w:World) (H:Hp) (s:Shared) (e:Value) (s':Shared),CX w [] H s (λ_ _ _=>False) e s'->False) :
  PySem.W.WalkO q g Q D l.row.toRowW d [] (λf vs=>PySem.call f vs):=by
 refine Att.attach_call O B λw C m j Z r o U W J a vs ns G Y X hd P y p i c R=>?_;have E:=S w _ Y;obtain ⟨fd,N,I⟩:=F w j r _ E G.T.g y;exact qW E G.T.g G.T.b G.T.builtins G.T.nolimit R p i (FD c A) M I N (λH T L=>t w H a ns c T L) λH e s'=>z w H m e s'
def N4 (s:Stmt) (j:Nat):Stmt:=match s with
 | .ClassDef _ _ _ body _ _ _ _ _ _ _=>body.getD j (.Pass ⟨0,0,0,0⟩)
 | _=>.Pass ⟨0,0,0,0⟩
def k8 (s:Stmt):Arguments:=match s with
 | .FunctionDef _ a _ _ _ _ _ _ _ _=>a
 | _=>{ posonlyargs:=[],args:=[],vararg:=none,kwonlyargs:=[],kw_defaults:=[],kwarg:=none,defaults:=[] }
def h9 (s:Stmt):List Stmt:=match s with
 | .FunctionDef _ _ b _ _ _ _ _ _ _=>b
 | _=>[]
def b7 (s:Stmt):Scope:=match s with
 | .FunctionDef _ _ _ _ _ _ a _ _ _=>a
 | _=>{ kind:=.function,names:=[],isGenerator:=false,isCoroutine:=false }
abbrev CX0:CXT:=⟨λ_ _ _ _ _ _=>False,false⟩
abbrev E0:XK:=λ_ _ _=>False
theorem X7:y7 CX0 X E0:=λ_ _ _ _ _ _ _ h=>False.elim h
structure Fun (K:PySem.W.Frag) (x qual:Str) (st:Stmt) (f:Addr) (fd:FuncData):Prop where
 ex:∃ (oc:Value) (od:Option Addr) (kV doc pm:Value) (an:Option Addr) (cdv ct:Value) (osl:Array (Option Value)),
  fd=PySem.W.fnOf x qual (k8 st) (h9 st) (b7 st) .none kV doc pm an cdv ct/\K.lookup f=some ⟨oc,od,.func fd,osl⟩/\PySem.W.codeIn K cdv qual=true
 kp:PySem.W.keepIn K (.ref f)=true
section
variable {P:Program} {w:World} {K:PySem.W.Frag} {mg:Str->Option Value} {base:Heap}
theorem Fun.ok {st:Stmt} {f:Addr} {fd:FuncData} {N ps:List Str} {k:Nat} {sp:Sp} (F:Fun K x qual st f fd) (S:FnScope N ps (b7 st)) (e:∀ vs H Q E,sp vs H Q E->vs.length=ps.length)
  (c:∀ (b:Value) (A:Around) (a:List Env) (s:Shared) (H:Hp) (vs:List V) (Q:VK) (E:XK),Room false k (A.deeper (envOfC qual (b7 st) s.heap.objs.size f b))->sp vs H Q E ->
   ∃ t,PSs (bo CX0 P w K mg base N qual (b7 st) f b A a s H E).nox (h9 st) t/\t { nx:=λ_ H'=>Q .non H',rt:=Q } (start N vs) H):FnOk P w K mg base CX0 (k+1) f fd ps sp:=by
 obtain ⟨n,od,r,i,p,u,b,o,m,rfl,j,g⟩:=F.ex;refine wG j g S e λA a s H vs Q E l d=>?_;obtain ⟨t,h,q⟩:=c b A a s H vs Q E l d;exact ⟨t,h.nox,q⟩
theorem Fun.binds {st:Stmt} {f:Addr} {fd:FuncData} {ps:List Str} (F:Fun K x qual st f fd)
  (h:∀ (e b c:Value) (g:Option Addr) (a d:Value) (us:List Value),us.length=ps.length->bindArgs (PySem.W.fnOf x qual (k8 st) (h9 st) (b7 st) .none e b c g a d) ⟨us,[]⟩=pure (ps.zip us)):Binds K fd ps []:=by
 obtain ⟨k,od,e,b,c,g,a,d,j,rfl,l,i⟩:=F.ex;exact .all (h e b c g a d)
theorem K8 {st:Stmt} {f:Addr} {j:Value} {od h:Option Addr} {d:Array (Option Value)} {i b e a g:Value} (l:K.lookup f=some ⟨j,od,.func (PySem.W.fnOf x qual (k8 st) (h9 st) (b7 st) .none i b e h a g),d⟩)
  (c:PySem.W.codeIn K a qual=true) (k:PySem.W.keepIn K (.ref f)=true):Fun K x qual st f (PySem.W.fnOf x qual (k8 st) (h9 st) (b7 st) .none i b e h a g):=⟨⟨j,od,i,b,e,h,a,g,d,rfl,l,c⟩,k⟩
end
theorem AL {k:Nat} (a:Room q k A):A.units+1<cLine:=Nat.lt_of_le_of_lt (Nat.add_le_add_left (by decide:1<=64) _) a.units
section
variable {X:Cx}
theorem pv (i:Nat) {x:Str} {pos:Pos} (c:X.N[i]?=some x:=by rfl) (b:Vis X.env.scope x:=by first | exact Or.inl rfl | exact Or.inr (Or.inl rfl) | exact Or.inr (Or.inr rfl)) (hd:(x==("__debug__" : Str))=false:=by decide)
  (a:(x==("__classdict__" : Str))=false:=by decide):PE X (.Name x pos) (zq i):=oC c b hd a
theorem ke:i9 X (.builtin "len") (λxs H Q=>∃ a b,xs=[V.ref a]/\H a=some (.dK b)/\Q (.int b.length) H):=by
 intro pins s σ H xs us Q I r h;obtain ⟨a,b,rfl,d,q⟩:=h;obtain ⟨u,rfl,e⟩:=K3 r;cases e;exact CM I (.inl d) λt s' c=>⟨.int b.length,H,c,⟨t,rfl⟩,q⟩
end
theorem vb {A B:Prop} (h:A):if true=true then A else B:=by grind
def Same (H H':Hp):Prop:=∀ b o,H b=some o->H' b=some o
theorem Same.seq {K:PySem.W.Frag} {H H':Hp} {a:Addr} {xs:List V} (e:Same H H') (h:SqL K H a xs):SqL K H' a xs:=by
 rcases h with (h | ⟨o,h⟩) | h
 ·exact .inl (.inl (e _ _ h))
 ·exact .inl (.inr ⟨o,e _ _ h⟩)
 ·exact .inr h
theorem bP {b a:Type} (g:a->b->a) {f:b->a->Sem (ForInStep a)}:∀ (l:List b) (c:a),(∀ x∈l,∀ c,f x c=pure (.yield (g c x)))->forIn l c f=pure (l.foldl g c)
 | [],_,_=>rfl
 | x :: l,c,h=>by
  rw [He,h x Fe,pure_bind];exact bP g l (g c x) λy d=>h y (Fg _ d)
def m3 (cells:List (Str×Addr)) (a:List (Str×Addr)) (x:Str×NameKind):List (Str×Addr):=if x.2=NameKind.free then (x.1,(cells.lookup x.1).getD 0) :: a else a
def V7 (cells:List (Str×Addr)) (a:List (Str×NameKind)):List (Str×Addr):=a.foldl (m3 cells) []
theorem D2 (h:∀ x∈scope.names,x.2=NameKind.free->∃ c,env.cells.lookup x.1=some c):closureFor scope env=pure (V7 env.cells scope.names):=by
 simp only [closureFor];rw [bP (m3 env.cells) scope.names [] (λx e c=>by
  obtain ⟨n,k⟩:=x;by_cases b:k=NameKind.free
  ·subst b;obtain ⟨a,d⟩:=h _ e rfl;simp [cellOf,m3,d]
  ·have:(k==NameKind.free)=false:=by simpa using b
   simp [m3,b,this])]
 rfl
theorem P8:∀ (b:List (Str×NameKind)) (f:List (Str×Addr)),(∀ x∈b,x.2=NameKind.free->∃ c,cells.lookup x.1=some c)->(∀ x c,f.lookup x=some c->cells.lookup x=some c) ->
  ∀ x c,(b.foldl (m3 cells) f).lookup x=some c->cells.lookup x=some c
 | [],_,_,g,x,c,e=>g x c e
 | y :: r,f,h,g,x,c,e=>by
  refine P8 r (m3 cells f y) (λz hz=>h z (Fg _ hz)) (λz d q=>?_) x c e;unfold m3 at q;split at q
  ·rename_i i;obtain ⟨a,j⟩:=h y Fe i;rw [GT] at q;split at q
   ·grind
   ·exact g z d q
  ·exact g z d q
theorem bS:∀ (b:List (Str×NameKind)) (a:List (Str×Addr)) (x:Str),(a.lookup x).isSome=true->((b.foldl (m3 cells) a).lookup x).isSome=true
 | [],_,_,h=>h
 | y :: r,a,x,h=>by
  refine bS r (m3 cells a y) x ?_;unfold m3;split
  ·grind
  ·exact h
theorem aQ:∀ (a:List (Str×NameKind)) (b:List (Str×Addr)) (x:Str),(x,NameKind.free)∈a->((a.foldl (m3 cells) b).lookup x).isSome=true
 | [],_,_,h=>nomatch h
 | y :: r,b,x,h=>by
  rcases Ez.mp h with h | h
  ·subst h;refine bS r _ x ?_;simp [m3]
  ·exact aQ r _ x h
theorem mem_of_lookup {c d:Type} [BEq c] [LawfulBEq c]:∀ {l:List (c×d)} {x:c} {y:d},l.lookup x=some y->(x,y)∈l
 | [],_,_,h=>by simp at h
 | (a,b) :: r,x,y,h=>by
  rw [GT] at h;split at h
  ·rename_i e;have:x=a:=by simpa using e
   cases h;subst this;exact Fe
  ·exact Fg _ (mem_of_lookup h)
theorem Y3 {f:Str×NameKind->Str×NameKind} (a:∀ y,(f y).1=y.1):∀ (l:List (Str×NameKind)) (x:Str),(l.map f).lookup x=(l.lookup x).map λk=>(f (x,k)).2
 | [],_=>rfl
 | (n,k) :: r,x=>by
  rw [Fs,show f (n,k) :: r.map f=((f (n,k)).1,(f (n,k)).2) :: r.map f from rfl,GT,GT,a];cases b:x==n with
  | true=>
   have e:x=n:=by simpa using b
   subst e;rfl
  | false=>exact Y3 a r x
def rlF (a:Env) (y:Str×NameKind):Str×NameKind:=if (y.2==.free&&a.scope.kind==.function&&a.kindOf y.1==some .cell) then (y.1,.cell) else (y.1,y.2)
theorem sI (a:Env) (y:Str×NameKind):(rlF a y).1=y.1:=by unfold rlF;split <;> rfl
theorem J8 (a:Scope) (b:Env) (x:Str):(relabel a b).names.lookup x=(a.names.lookup x).map λk=>(rlF b (x,k)).2:=Y3 (sI b) a.names x
theorem bw (h:scope.names.lookup x=some .free):(relabel scope env).names.lookup x=some .cell\/(relabel scope env).names.lookup x=some .free:=by
 rw [J8,h];unfold rlF;grind
theorem U3 (h:(relabel scope env).names.lookup x=some k) (d:k=.cell\/k=.free) (b:∀ y∈scope.names,y.2≠NameKind.cell):scope.names.lookup x=some .free:=by
 rw [J8] at h;cases e:scope.names.lookup x with
 | none=>rw [e] at h;cases h
 | some a=>
  rw [e] at h;have h':(rlF env (x,a)).2=k:=FR h;have c:=b (x,a) (mem_of_lookup e);unfold rlF at h';split at h'
  ·grind
  ·grind
theorem HOk.sameBut {a:Addr} (g:HOk P w H h) (f:H a=none) (hs:Heap.SameBut a h h'):HOk P w H h':=λb ob e=>by
 refine (g b ob e).stay (λc w' d q=>(hs.2 c ?_).trans q) (λ_ q=>q) λ_ _ q=>q;rintro rfl;rcases d with rfl | d
 ·rw [f] at e;cases e
 ·rw [f] at d;cases d
theorem Un.sameBut {C:Addr} (u:Un fs ex H H' h h1) (hs:Heap.SameBut C h1 h') (g:h.objs.size<=C):Un fs ex H H' h h':=by
 have d:∀ b o,h.get? b=some o->b≠C:=λb o e=>Ex (Fn (Ew e) g);exact ⟨λb o e n c a=>(hs.2 b (d b o e)).trans (u.keep b o e n c a),λb o e n c a=>let ⟨f,q⟩:=u.slot b o e n c a;⟨f,(hs.2 b (d b o e)).trans q⟩,u.free,
  λb o e a=>let ⟨o',q⟩:=u.there b o e a;⟨o',(hs.2 b (d b o e)).trans q⟩,u.tups,u.frzs,u.tbls⟩
def c8 (X:Cx) (pins:List (Addr×Obj)) (N':List Str) (a:Scope) (C:Addr) (b:List Addr) (s:Shared) (H:Hp):Cx where
 prog:=X.prog
 w:=X.w
 K:=X.K
 mg:=X.mg
 base:=X.base
 A:=X.A
 N:=N'
 s₀:=s
 H₀:=H
 env:=compEnvC a (V7 X.env.cells a.names) C X.env
 outer:=X.stack
 stack:=X.stack
 ex:=b
 fn:=λ_=>false
 calm:=X.calm
 pn:=X.pn++pins
 xe:=λ_ _=>False
structure CompText (N:List Str) (env:Env) (N':List Str) (k:Nat) (caps:List Nat) (scope:Scope):Prop where
 kind:scope.kind=.function
 cell:∀ y∈scope.names,y.2≠NameKind.cell
 loc:∀ y∈scope.names,y.2=NameKind.local->scope.names.lookup y.1=some .local
 free:∀ y∈scope.names,y.2=NameKind.free->scope.names.lookup y.1=some .free/\(env.scope.names.lookup y.1=some .cell\/env.scope.names.lookup y.1=some .free)
 cps:∀ (j i:Nat),caps[j]?=some i->∃ x,N[i]?=some x/\N'[k+j]?=some x/\scope.names.lookup x=some .free
 len:N'.length=k+caps.length
def A6 (caps:List Nat) (σ:St):St:=caps.map λi=>(σ[i]?).join
theorem mj {caps:List Nat} {σ:St} {j:Nat} {v:V} (h:(A6 caps σ)[j]?=some (some v)):∃ i,caps[j]?=some i/\σ[i]?=some (some v):=by
 unfold A6 at h;rw [Fz] at h;cases e:caps[j]? with
 | none=>rw [e] at h;cases h
 | some i=>
  rw [e] at h;refine ⟨i,rfl,?_⟩;have h':(σ[i]?).join=some v:=FR h;cases q:σ[i]? with
  | none=>rw [q] at h';cases h'
  | some o=>rw [q] at h';exact congrArg some h'
section
variable {X:Cx} {pins:List (Addr×Obj)} {σ:St} {H:Hp} {s:Shared} {N':List Str} {k:Nat} {caps:List Nat} {scope:Scope} {fp:List Addr}
theorem sY (T:CompText X.N X.env N' k caps scope) (I:Inv X pins σ H s) (i:∀ b∈fp,L0 X pins H b) {C:Addr} (n:s.heap.objs.size<=C) (j:∀ b∈fp,b<s.heap.objs.size):(c8 X pins N' scope C fp s H).Ok:=by
 have p:∀ x∈scope.names,x.2=NameKind.free->∃ c,X.env.cells.lookup x.1=some c:=λx g q=>I.ok.has x.1 (T.free x g q).2;have f:=P8 scope.names [] p λx c e=>by simp at e
 refine ⟨I.mod,?_,I.ok.glob,I.ok.blt,n,λx y c a b=>I.ok.inj x y c (f x c a) (f y c b),λx g=>?_,λx c m=>(by cases m),I.ok.hd,I.ok.frames,.inl rfl,λb d=>⟨?_,λx c e=>(i b d).2.2.2.2.1 x c (f x c e)⟩,I.bs,?_,λb o e d=>?_,λb d l=>?_,I.stack,I.stkFree⟩
 ·exact T.kind
 ·have h:scope.names.lookup x=some .free:=by
   rcases g with g | g
   ·exact U3 g (.inl rfl) T.cell
   ·exact U3 g (.inr rfl) T.cell
  exact Gh.mp (aQ scope.names [] x (mem_of_lookup h))
 ·exact Ex (Fn (j b d) n)
 ·exact FD I.ok.bsz I.sz
 ·rcases (i b d).2.2.2.1 with z | z
  ·exact I.ok.noex b o e z
  ·exact absurd (Fn (Ew (I.ok.bs b o e).1) z) (Hg _)
 ·rcases Ez.mp (I.stkSub b l) with z | z
  ·exact (i b d).2.1 z
  ·exact (i b d).2.2.1 z
theorem P3 (T:CompText X.N X.env N' k caps scope) (I:Inv X pins σ H s) (hf:∀ b∈fp,L0 X pins H b) (hlt:∀ b∈fp,b<s.heap.objs.size) {h':Heap} {m:Str->Option Value} {t:Nat}
  (hn:h'.Ns (s.heap.objs.size+1) m) (hk:∀ b o,s.heap.get? b=some o->h'.get? b=some o) (ha:h'.get? s.heap.objs.size=some { cls:=.type "list",data:=.seq #[] }) :
  Inv (c8 X pins N' scope (s.heap.objs.size+1) fp s H) [] (List.replicate k none++A6 caps σ) (upd H s.heap.objs.size (.lst [])) { s with heap:=h',toks:=t }:=by
 have ok:=sY T I hf (C:=s.heap.objs.size+1) (Gb _) hlt;have fr:∀ x∈scope.names,x.2=NameKind.free->∃ c,X.env.cells.lookup x.1=some c:=λx hx hk=>I.ok.has x.1 (T.free x hx hk).2;have snd:∀ x c,(V7 X.env.cells scope.names).lookup x=some c->X.env.cells.lookup x=some c:=P8 scope.names [] fr λx c e=>by simp at e
 have nacc:H s.heap.objs.size=none:=I.hok.fresh (Es _);have lt:∀ b u,H b=some u->b<s.heap.objs.size:=λb u e=>I.hok.lt e;refine ⟨ok,rfl,I.bare,Un.laid hk (Es _) nacc,⟨m,hn,λi x v e1 e2 e3=>?_⟩,λx c e=>?_,?_,λx c e=>?_,λp hp=>?_,I.hok.laid hk (Es _) ⟨FJ _,[],_,.nil,ha⟩,?_⟩
 ·by_cases hi:i<k
  ·rw [Et (by simpa using hi)] at e2;simp [hi] at e2
  ·rw [FF (by simpa using Hs hi)] at e2;rw [Ie] at e2;obtain ⟨j,hj,hv⟩:=mj e2;obtain ⟨y,h1,h2,h3⟩:=T.cps _ _ hj;have hik:k+(i-k)=i:=by omega
   rw [hik] at h2;have hxy:y=x:=FR (h2.symm.trans e1);subst hxy;have hvis:=(T.free (y,.free) (mem_of_lookup h3) rfl).2;obtain ⟨mX,hnX,hlX⟩:=I.loc;obtain ⟨u,r,l⟩:=hlX j y v h1 hv (by rcases hvis with z | z;exact .inr (.inl z);exact .inr (.inr z));refine ⟨u,r,?_⟩;rcases l with ⟨hk',_⟩ | ⟨_,c,hc,hcell⟩
   ·have hk'':X.env.scope.names.lookup y=some .local:=hk';rcases hvis with z | z
    ·rw [hk''] at z;cases z
    ·rw [hk''] at z;cases z
   ·obtain ⟨c',hc'⟩:=Gh.mp (aQ (cells:=X.env.cells) scope.names [] y (mem_of_lookup h3));have:c'=c:=FR ((snd y c' hc').symm.trans hc);subst this;obtain ⟨oc,ho,hd⟩:=hcell;exact .inr ⟨bw h3,c',hc',oc,hk _ _ ho,hd⟩
 ·obtain ⟨v,oc,ho,hd⟩:=I.cell x c (snd x c e);exact ⟨v,oc,hk _ _ ho,hd⟩
 ·show upd H s.heap.objs.size (.lst []) (s.heap.objs.size+1)=none;rw [a8 (Jm _)];exact I.hok.fresh (Gb _)
 ·obtain ⟨v,oc,ho,hd⟩:=I.cell x c (snd x c e);rw [a8 (Ex (Ew ho))];exact I.freeC x c (snd x c e)
 ·have hp':p∈X.pn++pins:=by
   have:p∈(X.pn++pins)++[]:=hp;rwa [FM] at this
  obtain ⟨e,n,ne,nf,d⟩:=I.pin p hp';refine ⟨hk _ _ e,?_,Ex (FH (Ew e)),λhb=>?_,d⟩
  ·rw [a8 (Ex (Ew e))];exact n
  ·rcases Ez.mp (I.stkSub p.1 hb) with z | z
   ·exact ne z
   ·exact nf z
 ·show _=N'.length;rw [T.len,FN,Ie];unfold A6;rw [En]
end
def PTL (X:Cx) (ifs:List Expr) (t:TT):Prop:=
 ∀ (pins:List (Addr×Obj)) (s:Shared) (σ:St) (H:Hp) (Q:Bool->Hp->Prop),Inv X pins σ H s->t σ H Q ->
  wpAny (model X.prog X.w) X.A (forIn ifs true λc r=>if r=true then do let a <- isTrue c X.env (eval c X.env);pure (ForInStep.yield a) else pure (ForInStep.yield r)) (TP X pins σ Q) X.xe s
def tTrue:TT:=λ_ H Q=>Q true H
theorem tE:PTL X [] tTrue:=λ_ _ _ H _ I h=>by
 rw [IM];exact Ek ⟨H,I,h⟩
theorem vw (h:PT X c t):PTL X [c] t:=λpins s σ H Q I q=>by
 rw [He];refine Ej ?_;rw [if_pos rfl];refine Ej (thn (h pins s σ H Q I q) λb s' ⟨H',d,a⟩=>Ek ?_);dsimp only;rw [IM];exact Ek ⟨H',d,a⟩
def iq (caps:List Nat) (j:TI) (h:TT) (te:TE):TE:=λσ H Q=>j σ H λJ g=>∀ a,g a=none->∃ W:Nat->Nat->List V->Hp->Prop,(∃ m,W 0 m [] (upd g a (.lst []))) /\
 ∀ i m ys c,W i m ys c->c a=some (.lst ys)/\((J.stop i c/\Q (.ref a) c)\/(J.go i c/\∀ x f,J.yld i c x f->h (some x :: A6 caps σ) f λb e=>
  if b=true then te (some x :: A6 caps σ) e λy d=>d a=some (.lst ys)/\ys.length<sizeLine/\∃ m',m'<m/\W (i+1) m' (ys++[y]) (upd d a (.lst (ys++[y])))
  else ∃ m',m'<m/\W (i+1) m' ys e))
theorem U5 {a:Type} {t:Sem a} {Q:a->Shared->Prop} {u:Sem Unit} (c:u=pure ()) (h:wpAny M A u (λ_ b=>wpAny M A t Q E b) E s):wpAny M A t Q E s:=by
 have d:=Ej h;grind
theorem f6 {s:Shared} {a:Type} {t:Sem a} {Q:a->Shared->Prop} (h:wpAny M A t Q (λ_ _=>False) s):wpAny M A t Q E s:=FI h (λ_ _ q=>q) λ_ _ q=>q.elim
theorem im {O A:Expr} {x:Str} {px:Pos} {ifs:List Expr} {a:Scope} {pos:Pos} {N':List Str} {caps:List Nat} {wi:TI} {tc:TT} {te:TE}
  (T:CompText X.N X.env N' 1 caps a) (hc:X.calm=true) (hN:N'.Nodup) (hx0:N'[0]?=some x) (hxl:a.names.lookup x=some .local) (hi:PI X (.Name x px) A wi)
  (ht:∀ pins C g s H,PTL (c8 X pins N' a C g s H) ifs tc) (he:∀ pins C g s H,PE (c8 X pins N' a C g s H) O te)
  (hs:∀ x,foldedSetIterable A X.env x=pure x:=by intro _;rfl):PE X (.ListComp O [⟨.Name x px,A,ifs,0⟩] a pos) (iq caps wi tc te):=by
 intro pins s σ H Q I h;have fr:∀ x∈a.names,x.2=NameKind.free->∃ c,X.env.cells.lookup x.1=some c:=λx hx hk=>I.ok.has x.1 (T.free x hx hk).2;rw [eval_ListComp];refine HD rfl hs (D2 fr) T.kind T.loc ?_;refine thn (hi pins s σ H _ I h) λv s1 h1=>thn h1 λitv f h2=>?_;obtain ⟨it,g,tn,J,E,rfl,I2,G,st2,f2,h2⟩:=h2;obtain ⟨W,⟨m0,w0⟩,turn⟩:=h2 f.heap.objs.size (I2.hok.fresh (Es _));have hlt:=λb l=>let ⟨o,e,_⟩:=G.obj _ _ st2 b l;Ew e
 refine Ft (Io T.cell (by intro y hy;simp at hy) (λh₁ m k=>?_) T.kind);have hC:(f.heap.push { cls:=.type "list",dict:=none,data:=.seq ([]:List Value).toArray }).objs.size=f.heap.objs.size+1:=FT ..;rw [hC] at m k;have old:=λb o e=>k.extBut b o (Ex (FH (Ew e))) (El _ (El _ e));have hacc:=k.extBut _ _ (Ex (FB _)) (El _ (Eu _ rfl));have w:=G.keep _ _ _ st2 λb _ o e=>old b o e;have I3:=P3 (t:=f.toks+([]:List (Str×Value)).length) T I2 f2 hlt m old hacc;have D:∀ {H':Hp},(∀ b∈g,H' b=none)->∀ b∈g,L0 (c8 X pins N' a (f.heap.objs.size+1) g f E) [] H' b:=λhn b l=>by
  refine ⟨hn b l,(I3.ok.exf b l).1,I3.ok.exfs b l,.inl l,(I3.ok.exf b l).2,λp hp=>?_⟩;have hp':p∈X.pn++pins:=by
   have:=hp;rwa [FM] at this
  exact (f2 b l).2.2.2.2.2 p hp'
 have F:∀ s3:Shared,s3={ f with heap:=h₁,toks:=f.toks+([]:List (Str×Value)).length } ->
   codeAny (model X.prog X.w) X.A (.compLoop (.ListComp O [⟨.Name x px,A,ifs,0⟩] a pos) 0 (.ref it) (.ref f.heap.objs.size) (compEnvC a (V7 X.env.cells a.names) (f.heap.objs.size+1) X.env))
    (compPost (model X.prog X.w) X.A X.xe none (EP X pins σ Q) (.ref f.heap.objs.size) (f.heap.objs.size+1)) s3:=by
  rintro s3 rfl;refine codeAny_compLoop_tests (λn s'=>∃ i ys H',Inv (c8 X pins N' a (f.heap.objs.size+1) g f E) [] (none :: A6 caps σ) H' s'/\tn i s'.heap/\(∀ b∈g,H' b=none)/\W i n ys H') ?_ m0
   ⟨0,[],_,I3,w,λb l=>by rw [a8 (Ex (hlt b l))];exact (f2 b l).1,w0⟩ (λ_=>rfl)
  rintro n s4 ⟨i,ys,R,I4,Y,fr4,w4⟩;obtain ⟨hacc4,P⟩:=turn i n ys R w4;refine f6 ?_;rcases P with ⟨stop,q⟩ | ⟨go,step⟩
  ·refine thn (G.done (c8 X pins N' a (f.heap.objs.size+1) g f E) rfl rfl rfl hc i [] s4 _ R (λ_ _=>False) I4 (D fr4) Y stop) λr s5 ⟨hr,V⟩=>?_;subst hr;obtain ⟨m5,hn5,_⟩:=id V.loc;refine ⟨m5,hn5,λh' hs'=>?_⟩;refine ⟨.ref f.heap.objs.size,R,?_,rfl,q⟩;refine I2.call' V.os (Un.sameBut V.base hs' (Gb _)) (V.hok.sameBut V.free hs') V.bare λb l=>?_;have:=f2 b l;exact ⟨this.2.2.2.1,this.2.1,this.2.2.2.2.1,this.2.2.2.2.2⟩
  ·refine thn (G.item (c8 X pins N' a (f.heap.objs.size+1) g f E) rfl rfl rfl hc i [] s4 _ R (λ_ _=>False) I4 (D fr4) Y go) λr s5 ⟨u,hr,h5⟩=>?_;subst hr;refine f6 (U5 rfl (thn h5 λ_ s6 ⟨xv,H6,I6,r6,y6,L,fr6⟩=>?_));have I6':=I6.pinned (D fr6) (G.obj _ _ L);refine thn (N3 (X:=c8 X pins N' a (f.heap.objs.size+1) g f E) hN hx0 (.inl (Gc hxl)) (.inr (Gc hxl)) _ s6 _ H6 xv u (λσ2 R=>σ2=some xv :: A6 caps σ/\R=H6) I6' r6 ⟨rfl,rfl⟩) λ_ s7 ⟨σ7,H7,I7,e7,e7'⟩=>?_;subst e7 e7';have B:∀ {σ8:St} {S:Hp} {s8:Shared},Inv (c8 X pins N' a (f.heap.objs.size+1) g f E) ([]++D7 g s6.heap) σ8 S s8->tn (i+1) s8.heap/\∀ b∈g,S b=none:=λ{σ8 S s8} N=>by
    refine ⟨G.keep _ _ _ L λb l o e=>(N.pin (b,o) (Fm _ (Fm _ (o0 l e)))).1,λb l=>?_⟩;obtain ⟨o,e,d⟩:=G.obj _ _ L b l;exact (N.pin (b,o) (Fm _ (Fm _ (o0 l e)))).2.1
   refine f6 (thn (ht pins _ g f E _ s7 _ _ _ I7 (step xv _ y6)) λb s8 ⟨S,N,q8⟩=>?_);have wk:∀ {U:Hp} {s9:Shared},Inv (c8 X pins N' a (f.heap.objs.size+1) g f E) ([]++D7 g s6.heap) (some xv :: A6 caps σ) U s9->Inv (c8 X pins N' a (f.heap.objs.size+1) g f E) [] (none :: A6 caps σ) U s9:=λ{U s9} I9=>
    I9.unpinned.weak rfl λj v e=>by
     cases j with
     | zero=>simp at e
     | succ j=>simpa using e
   cases b with
   | false=>
    obtain ⟨m',hm,w'⟩:=q8;exact ⟨m',hm,i+1,ys,S,wk N,(B N).1,(B N).2,w'⟩
   | true=>
    refine f6 (thn (he pins _ g f E _ s8 _ S _ N q8) λz s9 ⟨y,U,I9,r9,M,hl9,m',hm,w'⟩=>?_);refine f6 (thn (N0 _ s9 _ U (.ref f.heap.objs.size) [y] (.ref f.heap.objs.size) [z] (λ_ H'=>H'=upd U f.heap.objs.size (.lst (ys++[y]))) I9 rfl (.cons r9 .nil) ⟨_,ys,y,rfl,rfl,M,hl9,rfl⟩) λ_ s10 ⟨_,H10,K,_,e10⟩=>?_);subst e10;exact ⟨m',hm,i+1,ys++[y],_,wk K,(B K).1,(B K).2,w'⟩
 have Z:=HW (F _ rfl) (G.self _ 0 _ _ _ w (F _ rfl));rw [<- hC] at Z;exact Z
theorem aV {K w:Expr} {x:Str} {px:Pos} {y:Str} {py N:Pos} {iy:Nat} {ifs:List Expr} {f:Scope} {pos:Pos} {N':List Str} {caps:List Nat} {wi:TI} {tc:TT} {te:TE}
  (hsw:swapsWith (.ListComp K [⟨.Name x px,w,ifs,0⟩] f pos) (some (.Name y py)) N.line X.env=pure true) (hNX:X.N.Nodup) (hiy:X.N[iy]?=some y) (hy:Loc X.env.scope y) (hf:X.fn y=true\/X.env.scope.names.lookup y=some .local)
  (T:CompText X.N X.env N' 1 caps f) (hc:X.calm=true) (hN:N'.Nodup) (hx0:N'[0]?=some x) (hxl:f.names.lookup x=some .local) (hi:PI X (.Name x px) w wi)
  (ht:∀ pins C l s H,PTL (c8 X pins N' f C l s H) ifs tc) (he:∀ pins C l s H,PE (c8 X pins N' f C l s H) K te)
  (hs:∀ x,foldedSetIterable w X.env x=pure x:=by intro _;rfl):PS X (.Assign [.Name y py] (.ListComp K [⟨.Name x px,w,ifs,0⟩] f pos) N) (rc (iq caps wi tc te) (bg iy)):=by
 intro pins s σ H D I h;have fr:∀ x∈f.names,x.2=NameKind.free->∃ c,X.env.cells.lookup x.1=some c:=λx hx hk=>I.ok.has x.1 (T.free x hx hk).2;rw [exec_Assign_Name_used _ _ _ _ hsw];refine Ej (HB (Ej ?_));refine Ej (FI (HD rfl hs (D2 fr) T.kind T.loc ?_) (λ_ s' hq=>Ek (Ek hq)) λ_ _ e=>e);refine thn (hi pins s σ H _ I h) λv s1 h1=>thn h1 λitv g h2=>?_;obtain ⟨it,l,tn,J,G,rfl,O,M,st2,f2,h2⟩:=h2;obtain ⟨W,⟨m0,w0⟩,turn⟩:=h2 g.heap.objs.size (O.hok.fresh (Es _));have hlt:=λb k=>let ⟨o,e,_⟩:=M.obj _ _ st2 b k;Ew e
 refine Ft (Io T.cell (by intro y hy;simp at hy) (λh₁ A m=>?_) T.kind);have hC:(g.heap.push { cls:=.type "list",dict:=none,data:=.seq ([]:List Value).toArray }).objs.size=g.heap.objs.size+1:=FT ..;rw [hC] at A m;have old:=λb o e=>m.extBut b o (Ex (FH (Ew e))) (El _ (El _ e));have hacc:=m.extBut _ _ (Ex (FB _)) (El _ (Eu _ rfl));have E:=M.keep _ _ _ st2 λb _ o e=>old b o e;have I3:=P3 (t:=g.toks+([]:List (Str×Value)).length) T O f2 hlt A old hacc;have F:∀ {H':Hp},(∀ b∈l,H' b=none)->∀ b∈l,L0 (c8 X pins N' f (g.heap.objs.size+1) l g G) [] H' b:=λhn b k=>by
  refine ⟨hn b k,(I3.ok.exf b k).1,I3.ok.exfs b k,.inl k,(I3.ok.exf b k).2,λp hp=>?_⟩;have hp':p∈X.pn++pins:=by
   have:=hp;rwa [FM] at this
  exact (f2 b k).2.2.2.2.2 p hp'
 have L:∀ s3:Shared,s3={ g with heap:=h₁,toks:=g.toks+([]:List (Str×Value)).length } ->
   codeAny (model X.prog X.w) X.A (.compLoop (.ListComp K [⟨.Name x px,w,ifs,0⟩] f pos) 0 (.ref it) (.ref g.heap.objs.size) (compEnvC f (V7 X.env.cells f.names) (g.heap.objs.size+1) X.env))
    (compPost (model X.prog X.w) X.A X.xe (some (assign (.Name y py) X.env)) (λ_ s'=>SP X pins D .next s') (.ref g.heap.objs.size) (g.heap.objs.size+1)) s3:=by
  rintro s3 rfl;refine codeAny_compLoop_tests (λn s'=>∃ i ys H',Inv (c8 X pins N' f (g.heap.objs.size+1) l g G) [] (none :: A6 caps σ) H' s'/\tn i s'.heap/\(∀ b∈l,H' b=none)/\W i n ys H') ?_ m0
   ⟨0,[],_,I3,E,λb k=>by rw [a8 (Ex (hlt b k))];exact (f2 b k).1,w0⟩ (λ_=>rfl)
  rintro n s4 ⟨i,ys,Z,I4,st4,fr4,w4⟩;obtain ⟨hacc4,S⟩:=turn i n ys Z w4;refine f6 ?_;rcases S with ⟨stop,q⟩ | ⟨go,step⟩
  ·refine thn (M.done (c8 X pins N' f (g.heap.objs.size+1) l g G) rfl rfl rfl hc i [] s4 _ Z (λ_ _=>False) I4 (F fr4) st4 stop) λr s5 ⟨hr,V⟩=>?_;subst hr;obtain ⟨m5,hn5,_⟩:=id V.loc;have IX:=O.call' V.os V.base V.hok V.bare λb k=>by
    have:=f2 b k;exact ⟨this.2.2.2.1,this.2.1,this.2.2.2.2.1,this.2.2.2.2.2⟩
   have C0:g.heap.objs.size<=g.heap.objs.size+1:=Gb _;have cC:∀ z c,X.env.cells.lookup z=some c->c≠g.heap.objs.size+1:=λz c e=>by
    obtain ⟨v,oc,ho,_⟩:=O.cell z c e;exact Ex (FH (Ew ho))
   have lC:=Ex (FH O.lt);refine wpAny_assign_Name (cc (v:=.ref g.heap.objs.size) IX hNX hiy hy rfl (λs6 I6 ⟨a,sb,ha⟩=>?_) hf);have aC:g.heap.objs.size+1≠a:=λz=>by
    rcases ha with ha | ha
    ·grind
    ·exact cC _ _ ha z.symm
   refine ⟨m5,hn5.sameBut sb aC,λh' hs'=>?_⟩;refine ⟨_,Z,I6.turned (λb o k e=>hs'.extBut b o k e) V.free lC.symm (.inr (FD O.sz C0)) cC (λp hp=>?_),q⟩;exact Ex (FH (Ew (O.pin p hp).1))
  ·refine thn (M.item (c8 X pins N' f (g.heap.objs.size+1) l g G) rfl rfl rfl hc i [] s4 _ Z (λ_ _=>False) I4 (F fr4) st4 go) λr s5 ⟨u,hr,h5⟩=>?_;subst hr;refine f6 (U5 rfl (thn h5 λ_ s6 ⟨xv,H6,I6,r6,y6,U,fr6⟩=>?_));have I6':=I6.pinned (F fr6) (M.obj _ _ U);refine thn (N3 (X:=c8 X pins N' f (g.heap.objs.size+1) l g G) hN hx0 (.inl (Gc hxl)) (.inr (Gc hxl)) _ s6 _ H6 xv u (λσ2 Z=>σ2=some xv :: A6 caps σ/\Z=H6) I6' r6 ⟨rfl,rfl⟩) λ_ s7 ⟨σ7,H7,I7,e7,e7'⟩=>?_;subst e7 e7';have B:∀ {σ8:St} {Y:Hp} {s8:Shared},Inv (c8 X pins N' f (g.heap.objs.size+1) l g G) ([]++D7 l s6.heap) σ8 Y s8->tn (i+1) s8.heap/\∀ b∈l,Y b=none:=λ{σ8 Y s8} Q=>by
    refine ⟨M.keep _ _ _ U λb k o e=>(Q.pin (b,o) (Fm _ (Fm _ (o0 k e)))).1,λb k=>?_⟩;obtain ⟨o,e,d⟩:=M.obj _ _ U b k;exact (Q.pin (b,o) (Fm _ (Fm _ (o0 k e)))).2.1
   refine f6 (thn (ht pins _ l g G _ s7 _ _ _ I7 (step xv _ y6)) λb s8 ⟨Y,Q,q8⟩=>?_);have wk:∀ {H9:Hp} {s9:Shared},Inv (c8 X pins N' f (g.heap.objs.size+1) l g G) ([]++D7 l s6.heap) (some xv :: A6 caps σ) H9 s9->Inv (c8 X pins N' f (g.heap.objs.size+1) l g G) [] (none :: A6 caps σ) H9 s9:=λ{H9 s9} I9=>
    I9.unpinned.weak rfl λj v e=>by
     cases j with
     | zero=>simp at e
     | succ j=>simpa using e
   cases b with
   | false=>
    obtain ⟨m',hm,w'⟩:=q8;exact ⟨m',hm,i+1,ys,Y,wk Q,(B Q).1,(B Q).2,w'⟩
   | true=>
    refine f6 (thn (he pins _ l g G _ s8 _ Y _ Q q8) λz s9 ⟨y,H9,I9,r9,P,hl9,m',hm,w'⟩=>?_);refine f6 (thn (N0 _ s9 _ H9 (.ref g.heap.objs.size) [y] (.ref g.heap.objs.size) [z] (λ_ H'=>H'=upd H9 g.heap.objs.size (.lst (ys++[y]))) I9 rfl (.cons r9 .nil) ⟨_,ys,y,rfl,rfl,P,hl9,rfl⟩) λ_ s10 ⟨_,H10,R,_,e10⟩=>?_);subst e10;exact ⟨m',hm,i+1,ys++[y],_,wk R,(B R).1,(B R).2,w'⟩
 have fin:=HW (L _ rfl) (M.self _ 0 _ _ _ E (L _ rfl));rw [<- hC] at fin;exact fin
mutual
inductive DAt (K:PySem.W.Frag) (H:Hp):V->PyData->Prop where
 | non:DAt K H .non .none
 | bl (b:Bool):DAt K H (.bl b) (.bool b)
 | int (i:Int):DAt K H (.int i) (.int i)
 | str (x:Str):DAt K H (.str x) (.str x)
 | lst {a:Addr} {xs:List V} {ds:List PyData}:SqL K H a xs->DAll K H xs ds->DAt K H (.ref a) (.list ds)
 | tup {a:Addr} {xs:List V} {ds:List PyData}:SqT K H a xs->DAll K H xs ds->DAt K H (.ref a) (.tuple ds)
inductive DAll (K:PySem.W.Frag) (H:Hp):List V->List PyData->Prop where
 | nil:DAll K H [] []
 | cons {x:V} {d:PyData} {xs:List V} {ds:List PyData}:DAt K H x d->DAll K H xs ds->DAll K H (x :: xs) (d :: ds)
end
def Keeps (K:PySem.W.Frag) (H H':Hp):Prop:=(∀ a xs,SqL K H a xs->SqL K H' a xs)/\∀ a xs,SqT K H a xs->SqT K H' a xs
mutual
theorem DAt.keeps {K:PySem.W.Frag} {H H':Hp} (k:Keeps K H H'):∀ {v:V} {d:PyData},DAt K H v d->DAt K H' v d
 | _,_,.non=>.non
 | _,_,.bl b=>.bl b
 | _,_,.int i=>.int i
 | _,_,.str x=>.str x
 | _,_,.lst h r=>.lst (k.1 _ _ h) (DAll.keeps k r)
 | _,_,.tup h r=>.tup (k.2 _ _ h) (DAll.keeps k r)
theorem DAll.keeps {K:PySem.W.Frag} (k:Keeps K H H'):∀ {xs:List V} {ds:List PyData},DAll K H xs ds->DAll K H' xs ds
 | _,_,.nil=>.nil
 | _,_,.cons h r=>.cons (DAt.keeps k h) (DAll.keeps k r)
end
theorem Keeps.of_same {K:PySem.W.Frag} {H H':Hp} (e:Same H H'):Keeps K H H':=
 ⟨λa xs h=>e.seq h,λa xs h=>by
  rcases h with (h | ⟨o,h⟩) | h
  ·exact .inl (.inl (e _ _ h))
  ·exact .inl (.inr ⟨o,e _ _ h⟩)
  ·exact .inr h⟩
theorem Same.laid (h:H p=none):Same H (upd H p o):=λb u e=>by rw [a8 (b8 e h)];exact e
theorem Keeps.laid {K:PySem.W.Frag} {H:Hp} {p:Addr} {o:HO} (h:H p=none):Keeps K H (upd H p o):=Keeps.of_same (Same.laid h)
section
variable {X:Cx} {pins:List (Addr×Obj)} {σ:St} {H:Hp} {s:Shared}
mutual
theorem DAt.reads (I:Inv X pins σ H s):∀ {v:V} {d:PyData},DAt X.K H v d->∀ {u:Value},RelV v u->∃ a,Reads s.heap u d a
 | _,_,.non,u,r=>by cases (show u=Value.none from r);exact ⟨_,.none⟩
 | _,_,.bl b,u,r=>by cases (show u=Value.bool b from r);exact ⟨_,.bool b⟩
 | _,_,.int i,u,r=>by obtain ⟨t,e⟩:=(r);subst e;exact ⟨_,.int i t⟩
 | _,_,.str x,u,r=>by obtain ⟨t,e⟩:=(r);subst e;exact ⟨_,.str x t⟩
 | _,_,.lst h q,u,r=>by
  cases (r);obtain ⟨f,c,⟨o,n,g,j,m,l⟩,_⟩:=I.list h;obtain ⟨a,k⟩:=DAll.reads I q c;exact ⟨_,.list g j l k⟩
 | _,_,.tup h q,u,r=>by
  cases (r);obtain ⟨f,c,⟨o,g,j,n,l⟩,_⟩:=I.tuple h;obtain ⟨a,k⟩:=DAll.reads I q c;exact ⟨_,.tuple g j l k⟩
theorem DAll.reads (I:Inv X pins σ H s):∀ {vs:List V} {ds:List PyData},DAll X.K H vs ds->∀ {us:List Value},Vals vs us->∃ as,ReadsAll s.heap us ds as
 | _,_,.nil,us,r=>by cases r;exact ⟨_,.nil⟩
 | _,_,.cons h q,us,r=>by
  cases r with
  | cons r1 r2=>
   obtain ⟨as,h1⟩:=DAt.reads I h r1;obtain ⟨bs,h2⟩:=DAll.reads I q r2;exact ⟨_,.cons h1 h2⟩
end
structure Shows (d:PyData):Prop where
 sh:d.showable=true
 nd:d.hasDict=false
 dp:d.depth<=60
 sz:d.shown.length<=sizeLine
theorem mK (hg:X.A.guards=some []) (hu:X.A.units+64<cLine):i9 X (.builtin "repr") (λxs H Q=>∃ v d,xs=[v]/\DAt X.K H v d/\Shows d/\Q (.str d.shown) H):=by
 intro pins s σ H xs us Q I r h;obtain ⟨v,d,rfl,hd,S,q⟩:=h;obtain ⟨u,rfl,ru⟩:=K3 r;have sh:=S.sh;have sz:=S.sz;cases hd with
 | non=>cases (ru);exact PySem.P.repr_of_none ⟨.str (PyData.shown .none),H,I.tok _,⟨_,rfl⟩,q⟩
 | bl b=>cases (ru);exact PySem.P.repr_of_bool ⟨.str (PyData.shown (.bool b)),H,I.tok _,⟨_,rfl⟩,q⟩
 | int i=>obtain ⟨t,e⟩:=(ru);subst e;exact PySem.P.repr_of_int (by simpa [PyData.showable] using sh) ⟨.str (PyData.shown (.int i)),H,I.tok _,⟨_,rfl⟩,q⟩
 | str x=>obtain ⟨t,e⟩:=(ru);subst e;exact PySem.P.repr_of_str ⟨.str (PyData.shown (.str x)),H,I.tok _,⟨_,rfl⟩,q⟩ sz
 | lst h1 h2=>
  obtain ⟨as,rr⟩:=DAt.reads I (.lst h1 h2) ru;obtain ⟨a,rfl⟩:=IN rr rfl;exact repr_of_reads' rr sh (HX S.nd) hg (by have:=S.dp;omega) (λ_ _ e=>e) (λh' u tk hk=>⟨.str (PyData.shown _),H,I.kept hk,⟨_,rfl⟩,q⟩) sz
 | tup h1 h2=>
  obtain ⟨as,rr⟩:=DAt.reads I (.tup h1 h2) ru;obtain ⟨a,rfl⟩:=IN rr rfl;exact repr_of_reads' rr sh (HX S.nd) hg (by have:=S.dp;omega) (λ_ _ e=>e) (λh' u tk hk=>⟨.str (PyData.shown _),H,I.kept hk,⟨_,rfl⟩,q⟩) sz
end
def AG (K:PySem.W.Frag) (a:Bool):R2:=λx y H Q=>∃ d e,DAt K H x d/\DAt K H y e/\d.canLay0=true/\e.canLay0=true/\min d.depth e.depth<=60/\Q (.bl (if a then !PyData.eqv d e else PyData.eqv d e)) H
section
variable {X:Cx}
theorem yT (k:X.A.units+64<cLine):OpR X (compareOp .Eq) (AG X.K false):=by
 intro pins s σ H x y v u Q I i c h;obtain ⟨d,e,hd,a,b,f,m,q⟩:=h;obtain ⟨l,g⟩:=hd.reads I i;obtain ⟨n,j⟩:=a.reads I c;exact SeqAt.compareEq_reads g j b f (by omega) ⟨.bl (PyData.eqv d e),H,I,rfl,q⟩
theorem xa (k:X.A.units+64<cLine):OpR X (compareOp .NotEq) (AG X.K true):=by
 intro pins s σ H x y v u Q I i c h;obtain ⟨d,e,hd,a,b,f,m,q⟩:=h;obtain ⟨l,g⟩:=hd.reads I i;obtain ⟨n,j⟩:=a.reads I c;exact SeqAt.compareNe_reads g j b f (by omega) ⟨.bl (!PyData.eqv d e),H,I,rfl,q⟩
end
end L2
namespace L2
open PySem PySem.W PySem.Calls PyProof.Rows
def X6 (K:Frag) (C:Addr):Bool:=match K.lookup C with
 | some ⟨c,_,.cls a,b⟩=>c==.type "type" && !a.hasDel&&a.hasDict&&(b.toList[4]?).join==some (.builtin "ValueError.__new__")&&!a.mro.isEmpty&&a.mro.contains (.ref C)&&a.mro.contains (.type "ValueError")&&a.mro.contains (.type "BaseException") &&
   !a.mro.contains (.type "AttributeError")&&!a.mro.contains (.type "NameError")&&specialIn K (.ref C) "__call__" == some (some (.builtin "type.__call__"))&&instIn K (.ref C) (.type "type")==some true
 | _=>false
structure MakesX (M:Model) (h:Heap) (C:Addr):Prop where
 obj:∃ oc od cd sl,h.get? C=some ⟨oc,od,.cls cd,sl⟩/\cd.hasDel=false/\cd.mro.isEmpty=false
 made:Looks M h (Bind.madeBy (.ref C)) (some "ValueError.__new__")
 base:Looks M h (Bind.staticBase (.ref C)) (.ref C)
 self:Looks M h (isSubtype (.ref C) (.ref C)) true
 isV:Looks M h (isSubtype (.ref C) (.type "ValueError")) true
 isB:Looks M h (isSubtype (.ref C) (.type "BaseException")) true
 noA:Looks M h (isSubtype (.ref C) (.type "AttributeError")) false
 noN:Looks M h (isSubtype (.ref C) (.type "NameError")) false
 call:Looks M h (specialOf (.ref C) "__call__") (some (.builtin "type.__call__"))
 typ:Looks M h (isInstance (.ref C) (.type "type")) true
 ty:Looks M h (typeOf (.ref C)) (.type "type")
 isT:Looks M h (isType (.ref C)) true
theorem D9 {K:Frag} {M:Model} {h:Heap} (X:K.In h) {C:Addr} (e:X6 K C=true):MakesX M h C:=by
 unfold X6 at e;split at e
 case h_2=>cases e
 rename_i v od f D g;simp only [Ep,Gg,Ih] at e;obtain ⟨⟨⟨⟨⟨⟨⟨⟨⟨⟨⟨F,x⟩,_⟩,t⟩,i⟩,u⟩,B⟩,y⟩,w⟩,z⟩,m⟩,j⟩:=e;have p:clsIn K C=some f:=by unfold clsIn;rw [g]
 have a:∀ {b:Value} {r:Bool},f.mro.contains b=r->Looks M h (isSubtype (.ref C) b) r:=λ{b r} q=>looks_mroIn X (by unfold mroIn;rw [p,Ht,if_neg (by rw [i];decide),q]);have n:Looks M h (mroOf (.ref C)) f.mro:=(looks_clsIn X p).andThen .now;obtain ⟨c,l,o⟩:∃ c l,f.mro=c :: l:=by
  cases q:f.mro with
  | nil=>rw [q] at i;cases i
  | cons c l=>exact ⟨c,l,rfl⟩
 have d:Looks M h (Bind.madeBy (.ref C)) (some "ValueError.__new__"):=λA Q E s k q=>by
  refine Ej (n A _ E s k ?_);rw [o,He];refine Ej (Ej (Ej (Ej (IP (k _ _ (X _ _ g)) (Ek ?_)))));rw [<- Gq,t];exact Ek (Ek (Ek q))
 refine ⟨⟨v,od,f,D,X _ _ g,x,i⟩,d,λA Q E s k q=>?_,a u,a B,a y,a w,a z,looks_specialIn X m,looks_instIn X j,?_,(Looks.ld (X _ _ g)).andThen .now⟩
 ·unfold Bind.staticBase;refine Ej (n A _ E s k ?_);rw [o,He];exact Ej (Ej (Ej (d A _ E s k (Ek (Ek (Ek q))))))
 ·subst F;exact (Looks.ld (X _ _ g)).andThen .now
abbrev A7 (C t:Addr):Obj:={ cls:=.ref C,data:=.fields #[.ref t,.none,.none,.none,.bool false,.none] }
abbrev D1 (vs:List Value):Obj:={ cls:=.type "tuple",data:=.seq vs.toArray }
section
variable {prog:Program} {w:World} {A:Around} {K:Frag} {C:Addr} {R:Result->Shared->Prop} {h:Heap} {g:Array GenState} {d:Drawn} {t:Nat} {os:OsState}
theorem EO {a:List Value} (Y:MakesX (model prog w) h C) (f:a.length<=sizeLine)
  (x:R (.ok (.ret (.ref (h.objs.size+1)))) ⟨(h.push (D1 a)).push (A7 C h.objs.size),g,d,t,os⟩) :
  codeAny (model prog w) A (.call (.builtin "ValueError.__new__") ⟨.ref C :: a,[]⟩) R ⟨h,g,d,t,os⟩:=by
 obtain ⟨⟨m,od,l,q,D,v,G⟩,c,b,s,u,B,z,E,n,y,_,_⟩:=Y;have F:=IQ;refine codeAny_call_builtin_code (Code.quiet_builtin _ F.quiet) ?_;simp only [checkBuiltinCall,F.newKind,F.newSplit,F.newRow];have r:Looks (model prog w) h (Bind.madeHere "ValueError.__new__" (.ref C)) ():=b.andThen (c.andThen (Looks.of_pure (by simp)))
 repeat (first | simp | lk)
 have k:Looks (model prog w) h (Bind.madeHere "BaseException.__new__" (.ref C)) ():=b.andThen (c.andThen (Looks.of_pure (by simp only [Jw,F.canon,bne_self_eq_false,GX,if_false])));have o:=F.ends;refine codeAny_builtinAt F.entry (PySem.wpAt_bind ?_);refine PySem.wpAt_bind (PySem.wpAt_stack λp e=>PySem.wpAt_of_wpAny ?_)
 wp_walk
 refine PySem.wpAt_of_wpAny ?_;rw [F.owner]
 repeat lk
 rw [if_neg (by rw [Ey];omega)];have j:(h.push (D1 a)).get? C=some ⟨m,od,.cls l,q⟩:=El _ D;have i:((h.push (D1 a)).push (A7 C h.objs.size)).get? C=some ⟨m,od,.cls l,q⟩:=El _ j;refine Ej (Jz (Ek (Ej ?_)));refine Ej (Jz (Ej (Ej (JH i (Ek ?_)))));rw [v];refine Ek (Ek ?_);rw [FT];exact x
theorem Ac {c:List Value} {f:Addr} (Y:MakesX (model prog w) h C) (u:Looks (model prog w) h (typeLookup (.ref C) "__init__") (some (.ref f)))
  (G:∀ i,Looks (model prog w) h (bindSpecial (.ref f) i) (.ref f,[i])) (j:c.length<=sizeLine)
  (B:codeAny (model prog w) (A.under (.builtin "type.__call__" ⟨.ref C :: c,[]⟩)) (.call (.ref f) ⟨.ref (h.objs.size+1) :: c,[]⟩) (InitBack (h.objs.size+1) R) ⟨(h.push (D1 c)).push (A7 C h.objs.size),g,d,t,os⟩) :
  codeAny (model prog w) A (.call (.ref C) ⟨c,[]⟩) R ⟨h,g,d,t,os⟩:=by
 have D:=Y;obtain ⟨⟨L,od,s,O,q,M,I⟩,p,n,i,x,F,E,H,l,m,_,_⟩:=Y;refine Iu ?_;refine nd_load q (show wpAny _ _ (callAny.viaDunder (.ref C) _) _ _ _ from ?_);refine Ej (l.at ?_);dsimp only;rw [tc_bind];refine Ej (Ek (Ej (Ek (Ek (a:=Fin.again (.call (.builtin "type.__call__") ⟨.ref C :: c,[]⟩)) (And.intro rfl ?_)))));refine codeAny_call_builtin_at (Code.quiet_builtin _ (by decide +kernel)) entry_typeCall (check_slot tc_kind tc_split m (tc_args _ _ _) ?_);have J:Looks (model prog w) h (mroOf (.ref C)) s.mro:=((Looks.ld q).andThen .now).andThen .now
 repeat (first | simp only [I,GX,if_false] | with_reducible refine GV ?_ | lk)
 refine EO D j ?_;have k:∀ b o,h.get? b=some o->((h.push (D1 c)).push (A7 C h.objs.size)).get? b=some o:=λb o e=>El _ (El _ e);have y:((h.push (D1 c)).push (A7 C h.objs.size)).get? (h.objs.size+1)=some (A7 C h.objs.size):=by heap_get
 have Q:Looks (model prog w) ((h.push (D1 c)).push (A7 C h.objs.size)) (typeOf (.ref (h.objs.size+1))) (.ref C):=(Looks.ld y).andThen .now;have N:=i.keeps k;have P:=u.keeps k;have K:=(G (.ref (h.objs.size+1))).keeps k
 repeat (first | with_reducible refine GV ?_ | lk)
 refine Gi B λr s' z=>?_;rcases r with e | (v | _ | _ | _) <;> first | exact z | exact z.elim | skip
 obtain ⟨rfl,z⟩:=z;exact Ek (Ek z)
end
end L2
namespace L2
open PySem PySem.W PySem.Calls PyProof.Rows Builtin Builtin.ObjectAttr
theorem qO:builtinKind "BaseException.__getattribute__" = some .slot:=by decide +kernel
theorem mI:splitId "BaseException.__getattribute__" = some ("BaseException","__getattribute__"):=by decide +kernel
theorem ly:plainId "BaseException.__getattribute__" = true:=by decide +kernel
section
variable {prog:Program} {w:World} {A:Around} {R:Result->Shared->Prop} {s:Shared} {x:Addr} {name:Str} {t:Tok}
theorem my (c:Looks (model prog w) s.heap (isInstance (.ref x) (.type "BaseException")) true)
  (h:wpAny (model prog w) A.in1 (Builtin.«object.__getattribute__» ⟨[.ref x,.str name t],[]⟩) (λa s'=>match a with | .done f=>R (.ok f) s' | .again b=>b.quiet=true/\codeAny (model prog w) A b R s') (λe s'=>R (.error e) s') s) :
  codeAny (model prog w) A (.call (.builtin "BaseException.__getattribute__") ⟨[.ref x,.str name t],[]⟩) R s:=
 GM ly PySem.F.entry_bexc_ga (@check_slot (model prog w) _ _ _ "BaseException.__getattribute__" "BaseException" "__getattribute__" (.ref x) [.str name t] [] _ qO mI c (PySem.F.args_bexc_ga (.ref x) (.str name t)) h)
end
section
variable {prog:Program} {w:World} {A:Around} {E:Value->Shared->Prop} {s:Shared} {K:Frag} {x C:Addr} {ox:Obj} {od:Option Obj} {name:Str} {expr:Bool} {Q:Value->Shared->Prop}
structure XCls (K:Frag) (C:Addr):Prop where
 ga:findIn K (.ref C) "__getattribute__" = some (some (.builtin "BaseException.__getattribute__"))
 gg:findIn K (.ref C) "__getattr__" = some none
 be:mroIn K C (.type "BaseException")=some true
 ob:mroIn K C (.type "object")=some true
 hd:hasDictIn K C=true
 cl:findIn K (.ref C) "__class__" = some (some (.builtin "object.__class__"))
 cg:specialIn K (.builtin "object.__class__") "__get__" = some (some (.builtin "getset_descriptor.__get__"))
 ct:takesIn K (.builtin "object.__class__")=some true
theorem nW {b:Bool} {t:Tok} (X:K.In s.heap) (I:InstAt s.heap x ox C od) (c:XCls K C)
  (h:wpAny (model prog w) A.in1 (Builtin.«object.__getattribute__» ⟨[.ref x,.str name t],[]⟩) (λa s'=>match a with | .done (.ret v)=>wpAny (model prog w) A (handedOut v) Q E s' | _=>False) (λ_ _=>False) s) :
  wpAny (model prog w) A (getAttrBy (.ref x) (.str name t) b expr) Q E s:=by
 obtain ⟨l,g,d,p,n⟩:=s;have f:=I.type (M:=model prog w);have j:=looks_findIn (M:=model prog w) X c.ga;have o:=looks_findIn (M:=model prog w) X c.gg;have i:Looks (model prog w) l (isInstance (.ref x) (.type "BaseException")) true:=f.andThen (looks_mroIn X c.be);have k:=(PySem.F.attrBase_ValueError).ga.bind (.ref x);have e:(expr&&onTheHeap (Value.builtin "BaseException.__getattribute__"))=false:=by cases expr <;> rfl
 have m:(Value.builtin "BaseException.__getattribute__" == Value.builtin "object.__getattribute__")=false:=by decide +kernel
 refine FU (Ej (f.at (Ej (j.at ?_))))
 repeat (first | simp | lk)
 refine HE (FU ?_);unfold callGetattribute;rw [e];refine Ej (JA k ?_);refine GV (my i ?_);refine FI h (λa s' z=>?_) λ_ _ z=>z.elim;rcases a with (v | _ | _ | _) | _ <;> first | exact z | exact z.elim
theorem EV (X:K.In s.heap) (I:InstAt s.heap x ox C od) (b:XCls K C) (f:findObj K C od name=some (.value v)) (e:handedIn v=true) (h:Q v { s with toks:=s.toks+1 }):wpAny (model prog w) A (getAttr (.ref x) name expr) Q E s:=by
 obtain ⟨j,g,d,t,i⟩:=s;have a:=I.type (M:=model prog w);have c:=looks_find (M:=model prog w) X I f;refine Ej (wpAny_mkText (nW X I b ?_));refine Ej (Ek (Ej (Ek (Ej (a.at (Ej (c.at (Ek ?_))))))));show wpAny _ _ (handedOut v) _ _ _;rw [handedOut_of e];exact Ek h
theorem eO (a:XCls K C):findObj K C od "__class__" = some (.bind (.builtin "getset_descriptor.__get__") (.builtin "object.__class__")):=by
 obtain ⟨c,b,_⟩:=any_some a.hd;unfold findObj;rw [b,Ht,a.cl,Ht];dsimp only;rw [a.cg,Ht];dsimp only;rw [a.ct];rfl
theorem yp (X:K.In s.heap) (I:InstAt s.heap x ox C od) (a:XCls K C) (h:R (some (.ref C)) { s with toks:=s.toks+1 }):wpAny (model prog w) A (getAttr? (.ref x) "__class__") R E s:=by
 have e:=eO (od:=od) a;obtain ⟨i,g,d,t,f⟩:=s;have b:=I.type (M:=model prog w);have c:=looks_find (M:=model prog w) X I e;refine Ej (wpAny_mkText (Ej (HE (nW X I a ?_))));refine Ej (Ek (Ej (Ek (Ej (b.at (Ej (c.at ?_)))))));refine Ej (FU (GV (class_get X I a.ob ?_)));refine Ek ?_;exact handed_on rfl (Ek h)
theorem BU (c:XCls K C):KitX K (.ref x) (.ref C) (λh=>∃ ox od,InstAt h x ox C od) where
 ty:=λ_ _ _ ⟨_,_,I⟩=>I.type
 it:=λ_ _ X _=>by
  obtain ⟨j,a,_⟩:=any_some c.hd;unfold clsIn at a;split at a
  ·rename_i m e d g f;exact λo r s s' k q=>by
    exact Ej (IP (k _ _ (X _ _ f)) (Ek q))
  ·cases a
 ne:=λh l p i n g X b=>by
  obtain ⟨j,a,_⟩:=any_some c.hd;refine Bool.eq_false_iff.mpr λq=>?_;obtain rfl:C=l:=Value.ref.inj (Ih.mp q);unfold clsIn at a;split at a
  ·rename_i m e d g f;have z:=(X _ _ f).symm.trans b;cases z
  ·cases a
 ca:=λX ⟨_,_,I⟩ k=>yp X I c k
end
def A9:List Value->Bool
 | .ref _ :: r=>A9 r
 | l=>l==[.type "ValueError",.type "Exception",.type "BaseException",.type "object"]
theorem J0 (a:Value):∀ {l:List Value},A9 l=true->refuseLoop a "__setattr__" l=pure ()
 | .ref c :: r,e=>by rw [refuseLoop_ref];exact J0 a e
 | [],e=>by cases e
 | .none :: r,e=>by cases e
 | .type n :: r,e=>by rw [Ih.mp e];exact PySem.F.store_ValueError.passes a
 | .bool _ :: _,e=>by cases e
 | .int _ _ :: _,e=>by cases e
 | .str _ _ :: _,e=>by cases e
 | .bytes _ _ :: _,e=>by cases e
 | .float _ _ :: _,e=>by cases e
 | .builtin _ :: _,e=>by cases e
 | .ellipsis :: _,e=>by cases e
 | .notImplemented :: _,e=>by cases e
section
variable {prog:Program} {w:World} {A:Around} {E:Value->Shared->Prop} {s:Shared} {K:Frag} {x C:Addr} {ox:Obj} {od:Option Obj} {name:Str} {R:Result->Shared->Prop} {v:Value}
theorem Ca (X:K.In s.heap) (I:InstAt s.heap x ox C od) (k:XCls K C) (o:(clsIn K C).any (λd=>A9 d.mro)=true) (j:findIn K (.ref C) name=some none)
  (h:∀ b,wpAny (model prog w) A.in1 (storeInOwnDict (.ref x) (.ref C) (.str name tk) name v b) (λc s'=>match c with | .done f=>R (.ok f) s' | .again i=>i.quiet=true/\codeAny (model prog w) A i R s') (λe s'=>R (.error e) s') s) :
  codeAny (model prog w) A (.call (.builtin "object.__setattr__") ⟨[.ref x,.str name tk,v],[]⟩) R s:=by
 have a:=PySem.F.store_object;obtain ⟨d,n,l⟩:=any_some o;have g:Looks (model prog w) s.heap (isInstance (.ref x) (.type "object")) true:=I.type.andThen (looks_mroIn X k.ob);have m:Looks (model prog w) s.heap (mroOf (.ref C)) d.mro:=(looks_clsIn X n).andThen .now;refine GM a.slot.plain a.entry (@check_slot (model prog w) _ _ s "object.__setattr__" "object" "__setattr__" (.ref x) [.str name tk,v] [] _ a.kind a.split g (a.args (.ref x) (.str name tk) v) ?_);rw [osa_eq,refuse_eq];refine Ej (Ej (I.type.here (Ej (m.here ?_))));rw [J0 _ l];exact Ek (Ej (I.type.here (Ej ((looks_findIn X j).here (Ej (Ek (h _)))))))
def tbV:Option Addr->Value
 | none=>.none
 | some T=>.ref T
def IsX (a:Option Addr) (h:Heap) (x C:Addr) (d:Option Addr):Prop:=∃ vs,h.get? x=some { cls:=.ref C,dict:=d,data:=.fields vs }/\vs.size=6/\vs[1]?=some (tbV a)
theorem IsX.inst0 (i:IsX fr h x C none):∃ ox,InstAt h x ox C none:=by
 obtain ⟨vs,e,_⟩:=i;exact ⟨_,e,rfl,rfl,True.intro⟩
theorem IsX.inst1 (i:IsX fr h x C (some d)) {o:Obj} (hd:h.get? d=some o):∃ ox,InstAt h x ox C (some o):=by
 obtain ⟨vs,e,_⟩:=i;exact ⟨_,e,rfl,rfl,hd⟩
theorem Ag (X:K.In s.heap) (i:IsX fr s.heap x C none) (t:XCls K C) (B:(clsIn K C).any (λr=>A9 r.mro)=true) (hs:findIn K (.ref C) "__setattr__" = some (some (.builtin "object.__setattr__"))) (u:findIn K (.ref C) name=some none)
  (h:∀ h' t',IsX fr h' x C (some s.heap.objs.size)->h'.Ns1 s.heap.objs.size (λy=>if y=name then some v else none)->(∀ b o,b≠x->s.heap.get? b=some o->h'.get? b=some o)->Q () { s with heap:=h',toks:=t' }):wpAny (model prog w) A (setAttr (.ref x) name v) Q E s:=by
 obtain ⟨ox,I⟩:=i.inst0;obtain ⟨vs,a,hsz⟩:=i;obtain ⟨r,D,hd⟩:=any_some t.hd;refine set_plain X I hs (Ca X I t B u λb=>?_);refine Ej (Ek (Ej (Ej (IP a (Ej (Looks.here (looks_clsIn X D) ?_))))));rw [hd];have f:=Ex (Ew a);have d:(s.heap.push { cls:=.type "dict",data:=.dict #[] }).get? x=some { cls:=.ref C,data:=.fields vs }:=El _ a;refine Ej (Jz (Ej (wpAny_update d (Ek ?_))));have p:((s.heap.push { cls:=.type "dict",data:=.dict #[] }).update x λo=>{ cls:=o.cls,dict:=some s.heap.objs.size,data:=o.data,slots:=o.slots }).get? s.heap.objs.size=some { cls:=.type "dict",data:=.dict #[] }:=
  (Hy _ _ _ _ f.symm).trans (Heap.get?_push_at rfl rfl)
 have n:((s.heap.push { cls:=.type "dict",data:=.dict #[] }).update x λo=>{ cls:=o.cls,dict:=some s.heap.objs.size,data:=o.data,slots:=o.slots }).get? x=some { cls:=.ref C,dict:=some s.heap.objs.size,data:=.fields vs }:=
  FE _ d rfl
 have m:∀ b o,b≠x->s.heap.get? b=some o->((s.heap.push { cls:=.type "dict",data:=.dict #[] }).update x λo=>{ cls:=o.cls,dict:=some s.heap.objs.size,data:=o.data,slots:=o.slots }).get? b=some o:=
  λb o l e=>(Hy _ _ _ _ l).trans (El _ e)
 have q:((s.heap.push { cls:=.type "dict",data:=.dict #[] }).update x λo=>{ cls:=o.cls,dict:=some s.heap.objs.size,data:=o.data,slots:=o.slots }).Ns s.heap.objs.size (λ_=>none):=
  ⟨_,#[],_,p,rfl,λe F=>absurd F (by simp),λ_=>rfl⟩
 generalize ((s.heap.push { cls:=.type "dict",data:=.dict #[] }).update x λo=>{ cls:=o.cls,dict:=some s.heap.objs.size,data:=o.data,slots:=o.slots })=h1 at p n m q ⊢;refine Ej (Ek (Ej (wpAny_nsSet1 (Heap.Ns1.of_empty q) λh' c hs'=>?_)));obtain ⟨H,G,z,g,j,k⟩:=c.count (Within.cons name v Within.nil);refine Ej (wpAny_lookBehind g (by rw [j];exact pastItsLine_dict (FD k (by rw [GE,Jv,Fp];omega))) (Ek ?_));exact h h' _ ⟨vs,(hs'.2 x f).trans n,hsz⟩ c λb o l e=>(hs'.2 b (Ex (Ew e))).trans (m b o l e)
theorem Cr {d:Addr} {mA:Str->Option Value} {ns:List Str} (X:K.In s.heap) (i:IsX fr s.heap x C (some d)) (hd:s.heap.Ns1 d mA) (o:d≠x) (l:XCls K C) (t:(clsIn K C).any (λm=>A9 m.mro)=true) (hs:findIn K (.ref C) "__setattr__" = some (some (.builtin "object.__setattr__"))) (n:findIn K (.ref C) name=some none)
  (u:Within mA ns) (hz:ns.length<=1000)
  (h:∀ h' t',h'.Ns1 d (λy=>if y=name then some v else mA y)->Heap.SameBut d s.heap h'->Q () { s with heap:=h',toks:=t' }):wpAny (model prog w) A (setAttr (.ref x) name v) Q E s:=by
 obtain ⟨od,e,z⟩:=N2 hd;obtain ⟨ox,I⟩:=i.inst1 e;obtain ⟨vs,k,hsz⟩:=i;obtain ⟨m,p,j⟩:=any_some l.hd;refine set_plain X I hs (Ca X I l t n λb=>?_);refine Ej (Ek (Ej (Ej (IP k (Ej (Looks.here (looks_clsIn X p) ?_))))));rw [j];refine Ek ?_;refine Ej (Ek (Ej (wpAny_nsSet1 hd λh' a hs'=>?_)));obtain ⟨B,r,q,c,f,g⟩:=a.count (Within.cons name v u);refine Ej (wpAny_lookBehind c (by rw [f];exact pastItsLine_dict (FD g (by rw [GE,Fp];omega))) (Ek ?_));exact h h' _ a hs'
end
section
variable {prog:Program} {w:World} {A:Around} {E:Value->Shared->Prop} {s:Shared} {K:Frag} {x C:Addr} {d:Option Addr} {R:Result->Shared->Prop} {y:Value}
theorem Bi {l:Option Addr} (X:K.In s.heap) (i:IsX l s.heap x C d) (p:X6 K C=true)
  (h:∀ h',(∀ b o,b≠x->s.heap.get? b=some o->h'.get? b=some o)->IsX l h' x C d->R (.ok (.ret .none)) { s with heap:=h' }) :
  codeAny (model prog w) A (.call (.builtin "ValueError.__init__") ⟨[.ref x,y],[]⟩) R s:=by
 have F:=IQ;obtain ⟨vs,a,hsz,f⟩:=i;have n:Looks (model prog w) s.heap (typeOf (.ref x)) (.ref C):=(Looks.ld a).andThen .now;have Y:=D9 (M:=model prog w) X p;have g:Looks (model prog w) s.heap (isInstance (.ref x) (.type "ValueError")) true:=n.andThen Y.isV;obtain ⟨v,t,u,B,z,_,_⟩:=Y.obj;have m:=F.noStar;refine GM F.init.plain F.initEntry ?_;simp only [checkBuiltinCall,F.initKind,F.initSplit,F.initRow];refine Ej (g.here ?_);simp only [Bool.not_true,GX,if_false];have k:(s.heap.push { cls:=.type "tuple",data:=.seq #[y] }).get? x=some { cls:=.ref C,dict:=d,data:=.fields vs }:=El _ a;obtain ⟨j,q⟩:∃ j,vs[0]?=some j:=⟨vs[0]'(by omega),GI _⟩;have c:R (.ok (.ret .none)) { s with heap:=(s.heap.push { cls:=.type "tuple",data:=.seq #[y] }).update x (Obj.mapFields (·.setIfInBounds 0 (.ref s.heap.objs.size))) }:=by
  refine h _ (λb o r e=>(Hy _ _ _ _ r).trans (El _ e)) ⟨vs.setIfInBounds 0 (.ref s.heap.objs.size),FE _ k rfl,?_⟩;rw [Array.size_setIfInBounds];exact ⟨hsz,by rw [Array.getElem?_setIfInBounds_ne (by decide)];exact f⟩
 unfold Bind.checkArgs
 repeat lk
 rw [q];refine Ek (Ej (Gk k rfl (by omega) ?_));cases j <;> first | exact Ek (Ek c) | exact wpAny_letGo (Ek c)
end
end L2
namespace L2
open PySem PySem.Spec PyProof.Rows
def O0 (a:Option Addr) (x C:Addr) (d:Option Addr):HO:=.ext λh=>IsX a h x C d
abbrev P7 (x C:Addr) (d:Option Addr):HO:=O0 none x C d
def J1 (d:Addr) (fs:List (Str×V)):HO:=.ext λh=>∃ mA,h.Ns1 d mA/\(∀ f,RelO (fs.lookup f) (mA f))/\PySem.Within mA (fs.map (·.1))/\fs.length<=900
theorem okX {h:Heap} {x C:Addr} {d:Option Addr} (i:IsX fr h x C d):ObjOk P w H h x (O0 fr x C d):=by
 obtain ⟨vs,e,z⟩:=id i;refine ⟨i,⟨_,e⟩,λf g ⟨a,c,b⟩ k=>⟨a,k _ c,b⟩⟩
theorem okD {mA:Str->Option Value} (n:h.Ns1 d mA) (r:∀ f,RelO (fs.lookup f) (mA f)) (g:PySem.Within mA (fs.map (·.1))) (l:fs.length<=900):ObjOk P w H h d (J1 d fs):=by
 obtain ⟨o,es,p,e,q⟩:=id n;exact ⟨⟨mA,n,r,g,l⟩,⟨o,e⟩,λm s ⟨a,i,j,b,c⟩ k=>⟨a,i.at k,j,b,c⟩⟩
structure XC (K:PySem.W.Frag) (C:Addr):Prop where
 xc:XCls K C
 ex:X6 K C=true
 vm:(PySem.W.clsIn K C).any (λcd=>A9 cd.mro)=true
 sa:PySem.W.findIn K (.ref C) "__setattr__" = some (some (.builtin "object.__setattr__"))
 kp:PySem.W.keepIn K (.ref C)=true
section
variable {X:Cx} {pins:List (Addr×Obj)} {σ:St} {H:Hp} {s:Shared} {x C:Addr}
theorem Inv.isX {a:Option Addr} {d:Option Addr} (I:Inv X pins σ H s) (e:H x=some (O0 a x C d)):IsX a s.heap x C d:=(I.hok x _ e).1
theorem Inv.isD (I:Inv X pins σ H s) (e:H d=some (J1 d fs)):∃ mA,s.heap.Ns1 d mA/\(∀ f,RelO (fs.lookup f) (mA f))/\PySem.Within mA (fs.map (·.1))/\fs.length<=900:=(I.hok d _ e).1
theorem Inv.madeX (I:Inv X pins σ H s):Inv X pins σ (upd H (s.heap.objs.size+1) (P7 (s.heap.objs.size+1) C none)) { s with heap:=(s.heap.push (D1 us)).push (A7 C s.heap.objs.size) }:=by
 have a:((s.heap.push (D1 us)).push (A7 C s.heap.objs.size)).get? (s.heap.objs.size+1)=some (A7 C s.heap.objs.size):=by
  have:=Eu (s.heap.push (D1 us)) (o:=A7 C s.heap.objs.size) rfl;rwa [FT] at this
 exact I.laid (λb u q=>El _ (El _ q)) (Gb _) (okX ⟨_,a,rfl,rfl⟩)
end
def yz (C:Addr) (sp:Sp) (E:XK) (t:TA):TE:=λσ H Q=>t σ H λvs a=>vs.length<=1000/\∀ x,a x=none->sp (.ref x :: vs) (upd a x (P7 x C none)) (λv b=>v=.non/\Q (.ref x) b) E
section
variable {X:Cx} {CX:CXT} {k:Nat} {f C:Addr} {fd:FuncData} {ps:List Str} {sp:Sp} {E:XK} {nm:Str} {p pos:Pos} {e:Expr} {es:List Expr} {t:TA}
theorem bc (M:XC X.K C) (hi:PySem.W.findIn X.K (.ref C) "__init__" = some (some (.ref f))) (hf:PySem.W.isFn X.K (.ref f)=true) (F:FnOk X.prog X.w X.K X.mg X.base CX k f fd ps sp) (hr:Room CX.q (k+1) X.A) (hg:Gl X nm) (hm:X.mg nm=some (.ref C)) (hb:Binds X.K fd ps []) (hx:y7 CX X E)
  (ha:PA X (e :: es) t) (hdb:(nm==("__debug__" : Str))=false:=by decide) (he:starEach (e :: es) X.env=(false,eval e X.env) :: starEach es X.env:=by rfl) (hpl:(backTo pos (starEach es X.env)).any (·.1)=false:=by rfl) :
  PE X (.Call (.Name nm p) (e :: es) [] pos) (yz C sp E t):=by
 intro pins s σ H Q I h;refine FY (G7 I hg hm ?_ hdb);refine HH I.ok.mod.kin M.kp (thn (ha pos pins s σ H _ I h) λus s1 ⟨vs,H1,I1,r,hl,q⟩=>⟨I1.kIn,?_⟩) he hpl;have hq:=q (s1.heap.objs.size+1) (I1.hok.fresh (Gb _));have I2:=Inv.madeX (C:=C) (us:=us) I1;have r2:Vals (V.ref (s1.heap.objs.size+1) :: vs) (Value.ref (s1.heap.objs.size+1) :: us):=.cons rfl r;have hlen:(Value.ref (s1.heap.objs.size+1) :: us++[]).length=ps.length:=by
  have e:=r2.length;rw [F.len _ _ _ _ hq] at e;simpa using e.symm
 have hus:us.length<=sizeLine:=by
  have:=r.length;have z:(1000:Nat)<=sizeLine:=by decide
  omega
 have hb2:=hb _ (Value.ref (s1.heap.objs.size+1) :: us) I2.kIn hlen;rw [FM] at hb2;refine GV (Ac (D9 I1.kIn M.ex) (PySem.W.looks_findIn I1.kIn hi) (λself=>PySem.W.bind_fn I1.kIn self (Ih.mp hf)) hus
  (Gi (F.run _ X.stack _ _ ⟨Value.ref (s1.heap.objs.size+1) :: us,[]⟩ _ _ _ E (hr.make C us []) (I2.env0.make C us []) hb2 r2 hq) λr s' hq'=>?_))
 cases r with
 | error e=>exact hx pins σ _ _ e s' I2 hq'
 | ok fl=>
  cases fl with
  | ret u=>
   obtain ⟨v,H',I3,rv,ev,q3⟩:=I2.after hq';subst ev;exact ⟨rv,⟨V.ref (s1.heap.objs.size+1),H',I3,rfl,q3⟩⟩
  | next=>exact False.elim hq'
  | brk=>exact False.elim hq'
  | cont=>exact False.elim hq'
end
theorem rk {o:HO} (h:H x=some o):upd H x o=H:=funext λb=>by
 by_cases e:b=x
 ·subst e;rw [b6,h]
 ·rw [a8 e]
def DA (K:PySem.W.Frag) (e g:TE) (f:Str):TS:=λD σ H=>g σ H λy b=>e σ b λc a=>∃ x C,c=.ref x/\XC K C/\v1 K C f /\
 ((a x=some (P7 x C none)/\∀ d,a d=none->D.nx σ (upd (upd a d (J1 d [(f,y)])) x (P7 x C (some d)))) \/
 ∃ d fs,d≠x/\a x=some (P7 x C (some d))/\a d=some (J1 d fs)/\fs.length<900/\D.nx σ (upd a d (J1 d (K5 f y fs))))
def Bm (K:PySem.W.Frag) (e:TE) (f:Str):TE:=λσ H Q=>e σ H λb a=>∃ c x C d fs v,b=.ref x/\XC K C/\v1 K C f/\a x=some (O0 c x C (some d))/\a d=some (J1 d fs)/\fs.lookup f=some v/\Q v a
section
variable {X:Cx} {o e value:Expr} {f:Str} {pos pos':Pos} {ta tv:TE}
theorem E8 (ha:PE X o ta) (hv:PE X value tv) (hs:swapsWith value (some (.Attribute o f pos')) pos.line X.env=pure false):PS X (.Assign [.Attribute o f pos'] value pos) (DA X.K ta tv f):=by
 intro pins s σ H D I h;refine plainObj_wpAny_Assign_Attribute (thn (hv pins s σ H _ I h) λu s1 ⟨y,H1,I1,ry,q⟩=>thn (ha pins s1 σ H1 _ I1 q) λov s2 ⟨xv,H2,I2,rx,x,C,ex,M,n,q2⟩=>?_) hs;subst ex;obtain rfl:ov=Value.ref x:=rx;rcases q2 with ⟨e0,q2⟩ | ⟨d,fs,hdx,e0,e1,hl,q2⟩
 ·have i0:=I2.isX e0;obtain ⟨vs0,hx0,_⟩:=id i0;have nd:=I2.hok.fresh (Es _);have hne:=HR (Ew hx0);refine Ag I2.kIn i0 M.xc M.vm M.sa n λh' t' i1 n1 k1=>?_;obtain ⟨vs1,hx1,_⟩:=id i1;obtain ⟨oD,esD,epD,hoD,rD⟩:=id n1;have m1:(h'.update x λ_=>{ cls:=.ref C,data:=.fields vs0 }).get? x=some { cls:=.ref C,data:=.fields vs0 }:=FE _ hx1 rfl;have m2:∀ b,b≠x->(h'.update x λ_=>{ cls:=.ref C,data:=.fields vs0 }).get? b=h'.get? b:=λb hb=>Hy _ _ _ _ hb;have I3:Inv X pins σ (upd H2 s2.heap.objs.size (J1 s2.heap.objs.size [(f,y)])) { s2 with heap:=h'.update x λ_=>{ cls:=.ref C,data:=.fields vs0 },toks:=t' }:=by
   refine I2.laid (λb ob e=>?_) (Es _) (okD (n1.at λob e=>(m2 _ hne).trans e) (λg=>?_) (λg hg=>?_) (by show 1<=900;decide))
   ·grind
   ·show RelO (List.lookup g [(f,y)]) (if g=f then some u else none);rw [GT,List.lookup_nil];by_cases q:g=f
    ·subst q;rw [if_pos rfl,show (g==g)=true from by simp];exact ry
    ·have:(g==f)=false:=by simpa using q
     rw [this,if_neg q];exact True.intro
   ·grind
  have I4:=I3.write (t':=t') (by rw [a8 hne.symm,e0];exact True.intro) (.inl rfl) (λb ob hb e=>((m2 b hb).symm.trans e)) ⟨_,hx1⟩ (okX i1);exact ⟨σ,_,I4,q2 _ nd⟩
 ·obtain ⟨mA,n0,r0,w0,l0⟩:=I2.isD e1;refine Cr I2.kIn (I2.isX e0) n0 hdx M.xc M.vm M.sa n w0 (by rw [En];omega) λh' t' n1 sb=>?_;obtain ⟨oD,esD,epD,hoD,rD⟩:=id n1;refine ⟨σ,_,I2.write (by rw [e1];exact True.intro) (.inl rfl) (λb ob hb e=>(sb.2 b hb).trans e) ⟨_,hoD⟩ (okD n1 (λg=>?_) (λg hg=>?_) ?_),q2⟩
  ·show RelO ((K5 f y fs).lookup g) (if g=f then some u else mA g);rw [Y0];by_cases q:g=f
   ·rw [if_pos q,if_pos q];exact ry
   ·grind
  ·by_cases q:g=f
   ·rw [q];exact (V3 f y fs).1
   ·exact (V3 f y fs).2 g (w0 g λz=>hg (by show (if g=f then some u else mA g)=none;rw [if_neg q];exact z))
  ·have:=X8 f y fs;omega
theorem sS (z:PE X e ta) (w:attributeBase e f X.env (eval e X.env)=eval e X.env):PE X (.Attribute e f pos) (Bm X.K ta f):=by
 intro pins s σ H Q I h;refine sH w (thn (z pins s σ H _ I h) λu B ⟨F,m,a,o,A,x,C,d,fs,v,k,M,n,p,y,l,q⟩=>?_);subst k;obtain rfl:u=Value.ref x:=o;obtain ⟨mA,i,t,G,E⟩:=a.isD y;obtain ⟨od,b,r⟩:=N2 i;obtain ⟨ox,J⟩:=(a.isX p).inst1 b;have g:=t f;rw [l] at g;obtain ⟨D,j,c⟩:=RelO.some_of g;exact EV a.kIn J M.xc (PySem.W.findObj_own M.xc.hd n rfl (by rw [r,j])) (li c) ⟨v,m,a.tok _,c,q⟩
def Cq:V->Option Value
 | .ref a=>some (.ref a)
 | .ty n=>some (.type n)
 | _=>none
theorem cK:i9 X (.builtin "isinstance") (λxs H Q=>∃ g x C d y c b,xs=[.ref x,y]/\XC X.K C/\H x=some (O0 g x C d)/\(∀ d',d=some d'->∃ fs,H d'=some (J1 d' fs))/\Cq y=some c/\PySem.W.kitOne X.K (.ref C) c=some b/\Q (.bl b) H):=by
 intro pins s σ H xs us Q I r h;obtain ⟨g,x,C,d,y,c,b,rfl,M,f,hd,i,o,q⟩:=h;obtain ⟨u,k,rfl,l,e⟩:=jt r;cases (l);have m:k=c:=by
  cases y <;> first | (cases i;exact e) | cases i
 subst m;have J:∃ ox od,PySem.W.InstAt s.heap x ox C od:=by
  cases d with
  | none=>obtain ⟨ox,J⟩:=(I.isX f).inst0;exact ⟨ox,_,J⟩
  | some d'=>
   obtain ⟨fs,n⟩:=hd d' rfl;obtain ⟨mA,j,_⟩:=I.isD n;obtain ⟨od,a,_⟩:=N2 j;obtain ⟨ox,J⟩:=(I.isX f).inst1 a;exact ⟨ox,_,J⟩
 exact Gw (BU M.xc) I.kIn J o (λz=>nomatch z) λp=>⟨.bl b,H,I.tok _,rfl,q⟩
end
def TbO (T:Addr):HO:=.ext λh=>∃ o a,h.get? T=some o/\o.data=.fields a/\3<a.size
theorem okT {o:Obj} {a:Array Value} (e:h.get? T=some o) (d:o.data=.fields a) (z:3<a.size):ObjOk P w H h T (TbO T):=
 ⟨⟨o,a,e,d,z⟩,⟨o,e⟩,λc b ⟨o,a,e,d,z⟩ k=>⟨o,a,k _ e,d,z⟩⟩
structure Fx (K:PySem.W.Frag) (H:Hp) (a C:Addr) (d tb:Option Addr):Prop where
 xc:XC K C
 at_:H a=some (O0 tb a C d)
 dc:∀ d',d=some d'->d'≠a/\∃ fs,H d'=some (J1 d' fs)
 tb_:∀ T,tb=some T->T≠a/\H T=some (TbO T)
def Mv (H:Hp) (a C:Addr) (d:Option Addr) (H':Hp):Prop:=(∀ b o,b≠a->H b=some o->H' b=some o)/\∃ c,H' a=some (O0 c a C d)
section
variable {X:Cx} {pins:List (Addr×Obj)} {σ:St} {H:Hp} {s:Shared} {a C T:Addr} {d tb:Option Addr} {A:Around} {E:Value->Shared->Prop} {Q:Unit->Shared->Prop}
theorem Inv.slots (I:Inv X pins σ H s) (hs:Heap.SlotsOnly (frs X.stack) s.heap h'):Inv X pins σ H { s with heap:=h' }:=by
 have k:∀ b u,H b≠none->s.heap.get? b=some u->h'.get? b=some u:=λb u n e=>(hs.2.1 b λz=>n (I.stkFree b z)).trans e;have f:Un (frs X.stack) [] H H s.heap h':=⟨λb o e _ g _=>(hs.2.1 b g).trans e,λb o e _ _ _=>hs.2.2 b o e,λ_ _ _ n _=>n,λb o e _=>let ⟨h,q⟩:=hs.2.2 b o e;⟨_,q⟩,λ_ _ e=>e,λ_ _ _ e=>e,λb ps e=>⟨#[],by rw [e];simp⟩⟩;have d:=λb u e=>(I.hok b u e).stay (λc v a q=>k c v (by
  rcases a with a | a
  ·rw [a,e];simp
  ·rw [a];simp) q) (λ_ q=>q) λ_ _ q=>q
 exact I.call f d I.bare λb z=>absurd z (by simp)
theorem Fx.isX (b:Fx X.K H a C d tb) (I:Inv X pins σ H s):IsX tb s.heap a C d:=I.isX b.at_
theorem Inv.setTb (I:Inv X pins σ H s) (e:H T=some (TbO T)) (k:Inv X pins σ H { s with heap:=s.heap.update T (Obj.mapFields (·.setIfInBounds 3 v)) }->Q () { s with heap:=s.heap.update T (Obj.mapFields (·.setIfInBounds 3 v)) }) :
  wpAny (model X.prog X.w) A (setField (.ref T) 3 v) Q E s:=by
 obtain ⟨o,g,c,f,z⟩:=(I.hok T _ e).1;refine Gk c f z (k ?_);have hd:=Obj.data_mapFields f (·.setIfInBounds 3 v);have d:=FE (Obj.mapFields (·.setIfInBounds 3 v)) c (Obj.isFreed_of_fields hd);have a:=I.write (t':=s.toks) (by rw [e];exact True.intro) (.inl rfl) (λb u n q=>(Gj _ _ (Ne.symm n)).trans q) ⟨_,d⟩ (okT d hd (by simpa using z));rw [rk e] at a;exact a
theorem fA (I:Inv X pins σ H s) (r:A.frames=some X.stack) (i:X.stack=X.env :: X.outer) (x:X.env.frame=some X.env.locals) (j:Fx X.K H a C d tb)
  (h:∀ H' s' T,Inv X pins σ H' s'->Fx X.K H' a C d (some T)->Mv H a C d H'->Q () s') :
  wpAny (model X.prog X.w) A (do let B <- frameOf X.env;let pl <- entryPlaceOf X.env.locals hadNext;let b <- EntryCells.newEntry head B .none (rawInt X.env.locals) .none pl;setField (.ref a) 1 b) Q E s:=by
 have p:=I.stack;rw [i] at p r;refine Ej (wpAny_frameOf_fun r p x λc e=>?_);have v:=I.slots (by rw [i];exact e);refine Ej (wpAny_entryPlaceOf λpl l=>?_);refine Ej (Ft ?_ (l.sizeOk5 _ _ _ _ _));have D:=Eu c (o:={ cls:=.type "traceback",dict:=none,data:=.fields ([head,.ref X.env.locals,.none,rawInt X.env.locals,.none]++(if pl.isEmpty then List.replicate 6 Value.none else pl)).toArray }) rfl;have m:=v.laid (t':=s.toks) (λb u q=>El _ q) (Es _)
  (okT D rfl (by simp <;> omega))
 have k:=v.hok.fresh (Es _);have f:c.objs.size≠a:=λz=>by rw [z,j.at_] at k;cases k
 have t:upd H c.objs.size (TbO c.objs.size) a=some (O0 tb a C d):=by rw [a8 f.symm];exact j.at_
 generalize (c.push { cls:=.type "traceback",dict:=none,data:=.fields ([head,.ref X.env.locals,.none,rawInt X.env.locals,.none]++(if pl.isEmpty then List.replicate 6 Value.none else pl)).toArray })=h₂ at m ⊢;obtain ⟨vs,g,hsz,F⟩:=m.isX t;refine Gk g rfl (by omega) ?_;have w:=FE (Obj.mapFields (·.setIfInBounds 1 (Value.ref c.objs.size))) g rfl;have y:=m.write (t':=s.toks) (o:=O0 (some c.objs.size) a C d) (by rw [t];exact True.intro) (.inl rfl)
  (λb u n q=>(Gj _ _ (Ne.symm n)).trans q) ⟨_,w⟩ (okX ⟨_,w,by simpa using hsz,by simp [tbV,hsz]⟩)
 refine h _ _ c.objs.size y ⟨j.xc,b6,λd' z=>?_,λT z=>?_⟩ ⟨λb o n q=>?_,_,b6⟩
 ·obtain ⟨n,fs,q⟩:=j.dc d' z;exact ⟨n,fs,by rw [a8 n,a8 (b8 q k)];exact q⟩
 ·cases z;exact ⟨f,by rw [a8 f];exact b6⟩
 ·rw [a8 n,a8 (b8 q k)];exact q
theorem jP (I:Inv X pins σ H s) (i:A.frames=some X.stack) (f:X.stack=X.env :: X.outer) (g:X.env.frame=some X.env.locals) (c:Fx X.K H a C d tb)
  (h:∀ H' s' T,Inv X pins σ H' s'->Fx X.K H' a C d (some T)->Mv H a C d H'->Q () s'):wpAny (model X.prog X.w) A (noteFrame (.ref a) X.env) Q E s:=by
 obtain ⟨vs,e,hsz,j⟩:=c.isX I;unfold noteFrame;simp only [g];cases tb with
 | none=>
  refine Ej (Gf e rfl j ?_);rw [if_neg (by decide)];exact fA I i f g c h
 | some T=>
  refine Ej (Gf e rfl (x:=.ref T) j ?_);rw [if_pos (show (Value.ref T != Value.none)=true from by simp)];obtain ⟨t,k⟩:=c.tb_ T rfl;obtain ⟨o,p,n,r,z⟩:=(I.hok T _ k).1;refine Ej (Gf n r (GI z) ?_);by_cases l:(p[3]==rawInt X.env.locals)=true
  ·rw [if_pos l];exact Ek (h H s T I c ⟨λb o _ q=>q,_,c.at_⟩)
  ·rw [if_neg l];exact Ej (I.setTb k λm=>fA m i f g c h)
theorem M7 (I:Inv X pins σ H s) (c:Fx X.K H a C d (some T)) (h:∀ s',Inv X pins σ H s'->Q () s'):wpAny (model X.prog X.w) A (setFlight (.ref a) fl) Q E s:=by
 obtain ⟨vs,b,hsz,f⟩:=c.isX I;refine Ej (Gf b rfl (x:=.ref T) f ?_);rw [if_pos (show (Value.ref T != Value.none)=true from by simp)];exact I.setTb (c.tb_ T rfl).2 λe=>h _ e
theorem gm (I:Inv X pins σ H s) (f:A.frames=some X.stack) (c:X.stack=X.env :: X.outer) (i:X.env.frame=some X.env.locals) (l:Fx X.K H a C d tb)
  (h:∀ H' s' T,Inv X pins σ H' s'->Fx X.K H' a C d (some T)->Mv H a C d H'->Q () s'):wpAny (model X.prog X.w) A (leaving X.env (.ref a)) Q E s:=by
 exact Ej (jP I f c i l λg n T k b j=>M7 k b λm e=>h g m T e b j)
end
end L2
namespace L2
open PySem PySem.W PySem.Calls PySem.Spec PyProof.Rows
section
variable {prog:Program} {w:World} {A:Around} {E:Value->Shared->Prop} {s:Shared} {K:Frag} {env:PySem.Env}
theorem dw (m:A.handled=none)
  (h:wpAny (model prog w) A x (λv c=>∃ a C d,v=.ref a/\K.In c.heap/\XC K C/\IsX none c.heap a C d/\E (.ref a) c) E s):wpAny (model prog w) A (raiseStmt env (some x) none) Q E s:=by
 refine Ej (FI h (λv c i=>?_) λ_ _ x=>x);obtain ⟨a,C,d,rfl,X,M,⟨vs,b,hsz,k⟩,l⟩:=i;have Y:=D9 (M:=model prog w) X M.ex;have e:Looks (model prog w) c.heap (typeOf (.ref a)) (.ref C):=(Looks.ld b).andThen .now;have f:Looks (model prog w) c.heap (isType (.ref a)) false:=(Looks.ld b).andThen .now;have g:Looks (model prog w) c.heap (isInstance (.ref a) (.type "BaseException")) true:=e.andThen Y.isB;have j:=Y.ty;refine Ej (Ek (Ej (FU (Ej (Ej (f.here ?_))))));refine Ek ?_;refine Ej (g.here ?_);refine Ek (Ej (f.here ?_));refine Ej (Ej (e.here (Ej (j.here ?_))));rw [if_pos (by rfl)];refine Ek (Ej (Ej (Gf b rfl k ?_)));rw [if_neg (by decide)];exact Ek (wpAny_raiseNew_none m l)
theorem gv {a C T:Addr} {d o:Option Addr} {b:Bool} {Q:Bool->Shared->Prop} (X:K.In s.heap) (M:XC K C) (l:XC K T) (i:IsX o s.heap a C d) (c:kitOne K (.ref C) (.ref T)=some b) (h:Q b s) :
  wpAny (model prog w) A (excMatches (.ref a) (.ref T)) Q E s:=by
 obtain ⟨vs,g,hsz,p⟩:=i;have Y:=D9 (M:=model prog w) X M.ex;have f:=D9 (M:=model prog w) X l.ex;have n:Looks (model prog w) s.heap (typeOf (.ref a)) (.ref C):=(Looks.ld g).andThen .now;have k:Looks (model prog w) s.heap (isInstance (.ref T) (.type "tuple")) false:=f.ty.andThen (Looks.of_pure tc_notTuple);have m:Looks (model prog w) s.heap (isExcClass (.ref T)) true:=f.isT.andThen f.isB;have j:Looks (model prog w) s.heap (isSubtype (.ref C) (.ref T)) b:=by
  unfold kitOne at c;by_cases e:((Value.ref C:Value)==.ref T)=true
  ·rw [if_pos e] at c;cases c;cases (JD e);exact Y.self
  ·rw [if_neg e] at c;exact (kit_cls X c).2.2
 refine Ej (k.here ?_);simp only [GX,if_false];refine Ej (Ek ?_);rw [He];refine Ej (Ej (Ej (m.here ?_)));refine Ek ?_;dsimp only;rw [IM];refine Ek (Ej (n.here ?_));rw [He];refine Ej (Ej (Ej (j.here ?_)));cases b with
 | true=>exact Ek (Ek (Ek h))
 | false=>
  refine Ek ?_;dsimp only;rw [IM];exact Ek (Ek h)
end
end L2
namespace L2
open PySem PySem.Spec PyProof.Rows
def fO (X:Cx) (v:Value):Cx:={ X with A:=X.A.mark (some v),calm:=false,xe:=λ_ _=>False }
section
variable {X:Cx} {pins:List (Addr×Obj)} {σ:St} {H:Hp} {s:Shared} {v:Value}
theorem Inv.hushed (I:Inv X pins σ H s) (v:Value):Inv (fO X v) pins σ H s:=
 have a:=I.ok
 ⟨⟨a.mod,a.kind,a.glob,a.blt,a.above,a.inj,a.has,a.cab,λz=>absurd (show (false:Bool)=true from z) (by decide),a.frames,a.stk,a.exf,a.bs,a.bsz,a.noex,a.exfs,a.funs,a.frf⟩,I.os,I.bare,I.base,I.loc,I.cell,I.free,I.freeC,I.pin,I.hok,I.len⟩
theorem Inv.unhush (a:X.Ok) (I:Inv (fO X v) pins σ H s):Inv X pins σ H s:=⟨a,I.os,I.bare,I.base,I.loc,I.cell,I.free,I.freeC,I.pin,I.hok,I.len⟩
theorem Z5 {M:Model} {A:Around} {E:Value->Shared->Prop} {i:Nat} {x:Str} {pos:Pos} {Q:Unit->Shared->Prop} (I:Inv X pins σ H s) (hN:X.N.Nodup) (hi:X.N[i]?=some x) (hk:X.env.scope.names.lookup x=some .local)
  (h:∀ s',Inv X pins (σ.set i none) H s'->Q () s'):wpAny M A (do bindName X.env x .none;unbindBehindTheSuite X.env x pos) Q E s:=by
 obtain ⟨m,hn,hl⟩:=id I.loc;have hcls:(X.env.scope.kind==.class||(X.env.scope.kind==.module&&X.env.locals != X.env.globals))=false:=by rw [I.ok.kind];rfl
 have hiσ:i<σ.length:=by rw [I.len];exact (Eo.mp hi).1
 have cne:=I.cne;refine wpAny_nameGoes_keeps hk hn hcls λh' v hn' hs=>?_;have tracked:HOk X.prog X.w H h':=λb ob e=>by
  refine (I.hok b ob e).stay (λc w' hc q=>(hs.2 c ?_).trans q) (λ_ q=>q) λ_ _ q=>q;rintro rfl;rcases hc with hc | hc
  ·rw [<- hc,I.free] at e;cases e
  ·rw [I.free] at hc;cases hc
 refine h _ ⟨I.ok,I.os,I.bare,⟨λb o e n hb hx=>?_,λb o e n hb hx=>?_,I.base.free,λb o e hx=>?_,I.base.tups,I.base.frzs,I.base.tbls⟩,⟨_,hn',λj y v' e1 e2 e3=>?_⟩,λy c e=>?_,I.free,I.freeC,λp hp=>?_,tracked,by simpa using I.len⟩
 ·exact (hs.2 b (Ex (Fn (Ew e) I.ok.above))).trans (I.base.keep b o e n hb hx)
 ·obtain ⟨sl,e1⟩:=I.base.slot b o e n hb hx;exact ⟨sl,(hs.2 b (Ex (Fn (Ew e) I.ok.above))).trans e1⟩
 ·obtain ⟨o',e1⟩:=I.base.there b o e hx;exact ⟨o',(hs.2 b (Ex (Fn (Ew e) I.ok.above))).trans e1⟩
 ·by_cases hj:j=i
  ·subst hj;rw [FA hiσ] at e2;cases e2
  ·rw [Ff (Ne.symm hj)] at e2;obtain ⟨u',r',q⟩:=hl j y v' e1 e2 e3;refine ⟨u',r',?_⟩;rcases q with ⟨k,e⟩ | ⟨k,c,e,z⟩
   ·refine .inl ⟨k,?_⟩;have:y≠x:=λe=>hj (au hN e1 (e▸hi));simp [this,e]
   ·exact .inr ⟨k,c,e,z.sameBut hs (cne y c e)⟩
 ·obtain ⟨w',z⟩:=I.cell y c e;exact ⟨w',z.sameBut hs (cne y c e)⟩
 ·obtain ⟨e,n,ne,nf,d⟩:=I.pin p hp;exact ⟨(hs.2 p.1 ne).trans e,n,ne,nf,d⟩
end
section
variable {X:Cx} {pins:List (Addr×Obj)} {σ:St} {H:Hp} {s:Shared}
theorem zh (hg:X.A.guards=some []) (hu:X.A.units+80<cLine) (I:Inv X pins σ H s) (hd:DAt X.K H v d) (ru:RelV v u) (S:Shows d) (hl:d.shown.length<=4000) (hx:∀ x,v=.str x->x.length<=4000) :
  wpAny (model X.prog X.w) X.A (formatField u Str.empty) (λz s'=>∃ y t,z=.str y t/\y.length<=4000/\Inv X pins σ H s') E s:=by
 have sh:=S.sh;have sz:=S.sz;have big:(4000:Nat)<=sizeLine:=by decide
 cases hd with
 | non=>cases (ru);exact wpAny_formatField_none ⟨_,_,rfl,hl,I.tok _⟩
 | bl b=>cases (ru);exact wpAny_formatField_bool ⟨_,_,rfl,hl,I.tok _⟩
 | int i=>obtain ⟨t,e⟩:=(ru);subst e;exact formatField_int_small (by simpa [PyData.showable] using sh) ⟨_,_,rfl,hl,I.tok _⟩
 | str x=>obtain ⟨t,e⟩:=(ru);subst e;exact formatField_str (λt' tk=>⟨_,_,rfl,hx x rfl,I.tok _⟩) (FD (hx x rfl) big)
 | lst h1 h2=>
  obtain ⟨as,rr⟩:=DAt.reads I (.lst h1 h2) ru;obtain ⟨a,rfl⟩:=IN rr rfl;exact formatField_of_reads rr sh (HX S.nd) hg (by have:=S.dp;omega) (λ_ _ e=>e) (λh' u tk hk=>⟨_,_,rfl,hl,I.kept hk⟩) sz
 | tup h1 h2=>
  obtain ⟨as,rr⟩:=DAt.reads I (.tup h1 h2) ru;obtain ⟨a,rfl⟩:=IN rr rfl;exact formatField_of_reads rr sh (HX S.nd) hg (by have:=S.dp;omega) (λ_ _ e=>e) (λh' u tk hk=>⟨_,_,rfl,hl,I.kept hk⟩) sz
end
theorem aN {Q c:Str->Shared->Prop} (k:∀ out s,Q out s->c out s):∀ (a:List (Sem Value)) (b:Str) (s:Shared),Joins M A E a b Q s->Joins M A E a b c s
 | [],b,s,h=>k _ _ h
 | x :: r,b,s,h=>FI h (λv d ⟨y,t,e,l,q⟩=>⟨y,t,e,l,aN k r _ d q⟩) λ_ _ z=>z
abbrev TF:=St->Hp->(Hp->Prop)->Prop
def PFs (X:Cx) (es:List Expr) (n:Nat) (t:TF):Prop:=
 ∀ (a:Str) (pins:List (Addr×Obj)) (s:Shared) (σ:St) (H:Hp) (Q:Hp->Prop),a.length+n<=sizeLine->Inv X pins σ H s->t σ H Q ->
  Joins (model X.prog X.w) X.A X.xe (evalEach es X.env) a (λout b=>out.length<=sizeLine/\∃ H',Inv X pins σ H' b/\Q H') s
def fNil:TF:=λ_ H Q=>Q H
def Df (K:PySem.W.Frag) (te:TE) (t:TF):TF:=λσ H Q=>te σ H λv a=>∃ d,DAt K a v d/\Shows d/\d.shown.length<=4000/\(∀ x,v=.str x->x.length<=4000)/\t σ a Q
section
variable {X:Cx} {e:Expr} {es:List Expr} {n:Nat} {t:TF} {te:TE} {pos:Pos}
theorem U9:PFs X [] 0 fNil:=λa pins s σ H Q b I q=>⟨by omega,H,I,q⟩
theorem B6 (h:PFs X es n t) (c:x.length<=1000:=by decide):PFs X (.Constant (.str x) k pos :: es) (1000+n) t:=λa pins s σ H Q b I q=>by
 refine Calls.Constant_str ⟨x,_,rfl,?_,?_⟩
 ·rw [Jg];omega
 ·exact h (a++x) pins _ σ H Q (by rw [Jg];omega) (I.tok _) q
theorem G0 (o:X.A.guards=some []) (j:X.A.units+80<cLine) (g:PE X e te) (h:PFs X es n t):PFs X (.FormattedValue e (-1) none pos :: es) (4000+n) (Df X.K te t):=λa pins s σ H Q x I q=>by
 refine wpAny_FormattedValue_plain (thn (g pins s σ H _ I q) λu A ⟨v,m,i,l,d,hd,S,f,w,p⟩=>?_);refine thn (zh o j i hd l S f w) λz b ⟨y,r,c,B,k⟩=>?_;refine ⟨y,r,c,?_,?_⟩
 ·rw [Jg];omega
 ·exact h (a++y) pins b σ m Q (by rw [Jg];omega) k p
def tFs (t:TF):TE:=λσ H Q=>t σ H λH'=>∀ z:Str,z.length<=sizeLine->Q (.str z) H'
theorem U1 (h:PFs X (e :: e2 :: es) n t) (f:n<=100000):PE X (.JoinedStr (e :: e2 :: es) pos) (tFs t):=by
 intro pins s σ H Q I q;refine wpAny_JoinedStr ?_;have d:(100000:Nat)<=sizeLine:=by decide
 have a:=h Str.empty pins s σ H _ (by show 0+n<=sizeLine;omega) I q;exact aN (λout g ⟨l,H',c,b⟩=>⟨l,.str out,H',c.tok _,⟨_,rfl⟩,b out l⟩) _ _ _ a
theorem L4 {f B:Addr} {fd:FuncData} {ps:List Str} {sp:Sp} {E:XK} {b m:Str} {p a:Pos} {pl:Sem Bool} {j:Value} {n:TA}
  (A:Gl X b) (z:X.mg b=some (.ref B)) (hs:PySem.W.specialIn X.K (.ref B) "__getattribute__" = some (some (.builtin "type.__getattribute__"))) (d:PySem.W.readsIn X.K B j=true) (y:PySem.W.findCls X.K (.ref B) j m=some (.val (.ref f))) (u:PySem.W.keepIn X.K (.ref f)=true)
  (F:FnOk X.prog X.w X.K X.mg X.base CX k f fd ps sp) (v:Room CX.q k X.A) (x:Binds X.K fd ps []) (C:y7 CX X E) (t:PA X (e :: es) n)
  (g:(b==("__debug__" : Str))=false:=by decide) (c:starEach (e :: es) X.env=(false,eval e X.env) :: starEach es X.env:=by rfl) (i:(backTo pos (starEach es X.env)).any (·.1)=false:=by rfl)
  (w:eval (.Call (.Attribute (.Name b p) m a) (e :: es) [] pos) X.env=(do
   let o <- eval (.Name b p) X.env
   standAt a.atName
   let (f,first) <- holding [o] (getMethod o m pl)
   callWith pos f first (backTo pos (starEach (e :: es) X.env)) (backToKw pos (keywordEach [] X.env))):=by rfl) :
  PE X (.Call (.Attribute (.Name b p) m a) (e :: es) [] pos) (nL sp [] E n):=by
 intro pins s σ H Q I h;refine PySem.W.methodCall_KW (G7 I A z ?_ g) w;refine PySem.W.method_cls I.kIn hs (PySem.W.cls_value I.kIn d y rfl ?_);refine HH I.ok.mod.kin u (thn (t pos pins _ σ H _ (I.tok _) h) λus G ⟨vs,D,l,r,q⟩=>⟨l.kIn,?_⟩) c i;exact iI F v x .nil C l r q
def yE (K:PySem.W.Frag) (b:TA):TE:=λσ H Q=>b σ H λvs a=>∃ x C d y,vs=[.ref x,y]/\XC K C/\a x=some (P7 x C d)/\Q .non a
theorem pA {p apos:Pos} {pl:Sem Bool} {ta:TA} (hg:Gl X "ValueError") (hm:X.mg "ValueError" = none) (hf:PySem.W.findCls X.K (.type "ValueError") (.type "type") "__init__" = some (.val (.builtin "ValueError.__init__"))) (ha:PA X (e :: es) ta)
  (hst:starEach (e :: es) X.env=(false,eval e X.env) :: starEach es X.env:=by rfl) (hpl:(backTo pos (starEach es X.env)).any (·.1)=false:=by rfl)
  (ht:eval (.Call (.Attribute (.Name "ValueError" p) "__init__" apos) (e :: es) [] pos) X.env=(do
   let ov <- eval (.Name "ValueError" p) X.env
   standAt apos.atName
   let (f,first) <- holding [ov] (getMethod ov "__init__" pl)
   callWith pos f first (backTo pos (starEach (e :: es) X.env)) (backToKw pos (keywordEach [] X.env))):=by rfl) :
  PE X (.Call (.Attribute (.Name "ValueError" p) "__init__" apos) (e :: es) [] pos) (yE X.K ta):=by
 intro pins s σ H Q I h;refine PySem.W.methodCall_KW (pl:=pl) (A8 I hg hm (show bootBuiltins "ValueError" = some (.type "ValueError") by rfl) ?_) ht;obtain ⟨m,hfr⟩:=I.fr;refine PySem.W.method_type hfr I.ok.mod.kin (by rfl) (by decide +kernel) hf rfl ?_;refine Gs (thn (ha pos pins _ σ H _ (I.tok _) h) λus s1 ⟨vs,H1,I1,r,x,C,d,y,ev,M,e0,q⟩=>?_) hst hpl;subst ev;obtain ⟨u,u2,rfl,ru,ru2⟩:=jt r;cases (show u=Value.ref x from ru);refine GV (Bi I1.kIn (I1.isX e0) M.ex λh' k1 i1=>?_);obtain ⟨vs1,hx1,_⟩:=id i1;have I2:=I1.write (h':=h') (t':=s1.toks) (x:=x) (e:=x) (o:=P7 x C d) (by rw [e0];exact True.intro) (.inl rfl) (λb ob hb z=>k1 b ob hb z) ⟨_,hx1⟩ (okX i1);rw [rk e0] at I2;exact ⟨.non,H1,I2,rfl,q⟩
end
end L2
namespace Hn
open PySem L2
def spHE (K:PySem.W.Frag):Sp:=λvs H Q _=>∃ (x:Addr) (y:V) (C:Addr) (d:Option Addr),vs=[.ref x,y]/\XC K C/\H x=some (P7 x C d)/\Q .non H
structure Fmt (K:PySem.W.Frag) (H:Hp) (v:V) (d:PyData):Prop where
 at_:DAt K H v d
 sh:Shows d
 l1:d.shown.length<=4000
 l2:∀ x,v=.str x->x.length<=4000
def Got (H:Hp) (x C:Addr) (fs:List (Str×V)) (H':Hp):Prop:=∃ d,H d=none/\d≠x/\H' x=some (P7 x C (some d))/\H' d=some (J1 d fs)/\∀ b,b≠x->b≠d->H' b=H b
def sp1 (K:PySem.W.Frag) (f:Str):Sp:=λvs H Q _=>∃ (x:Addr) (v:V) (C:Addr) (a:PyData),vs=[.ref x,v]/\XC K C/\v1 K C f/\H x=some (P7 x C none)/\Fmt K H v a/\∀ H',Got H x C [(f,v)] H'->Q .non H'
def sp2 (K:PySem.W.Frag) (f g:Str):Sp:=λvs H Q _=>∃ (x:Addr) (v u:V) (C:Addr) (a b:PyData),vs=[.ref x,v,u]/\XC K C/\v1 K C f/\v1 K C g/\H x=some (P7 x C none)/\Fmt K H v a/\Fmt K H u b /\
 ∀ H',Got H x C [(f,v),(g,u)] H'->Q .non H'
structure TxE (K:PySem.W.Frag) (mg:Str->Option Value) (B fB:Addr):Prop where
 mV:mg "ValueError" = none
 fV:PySem.W.findCls K (.type "ValueError") (.type "type") "__init__" = some (.val (.builtin "ValueError.__init__"))
 mB:mg "HandError" = some (.ref B)
 sB:PySem.W.specialIn K (.ref B) "__getattribute__" = some (some (.builtin "type.__getattribute__"))
 rB:PySem.W.readsIn K B (.type "type")=true
 cB:PySem.W.findCls K (.ref B) (.type "type") "__init__" = some (.val (.ref fB))
 kB:PySem.W.keepIn K (.ref fB)=true
theorem kA (v u:V):K5 ("at" : Str) u ([("word",v)]:List (Str×V))=([("word",v),("at",u)]:List (Str×V)):=by
 show (if ("word" : Str) = "at" then [(("word" : Str),u)] else (("word" : Str),v) :: K5 "at" u [])=([("word",v),("at",u)]:List (Str×V));rw [if_neg (by decide +kernel)];rfl
section
variable {K:PySem.W.Frag}
theorem Fmt.laid {v:V} {d:PyData} (h:Fmt K H v d) (a:H x=none):Fmt K (upd H x o) v d:=⟨h.at_.keeps (Keeps.laid a),h.sh,h.l1,h.l2⟩
end
end Hn
namespace L3
open PySem PySem.Spec PyProof.Rows L2
inductive D where
 | non | bl (b:Bool) | int (i:Int) | str (x:Str) | tup (ds:List D) | lst (ds:List D) | scr (ds:List D) | ref (n:Nat)
inductive O where
 | lst (ds:List D) | dct (kvs:List (Key×D)) | exc (c:Nat) (fs:List (Str×D))
abbrev Sto:=List O
inductive R (α:Type) where
 | ok (a:α) (S:Sto) | exn (n:Nat) (S:Sto) | bad
abbrev M (α:Type):=Sto->R α
def ret {b:Type} (a:b):M b:=λS=>.ok a S
def bad {a:Type}:M a:=λ_=>.bad
def bind {c b:Type} (m:M c) (k:c->M b):M b:=λS=>match m S with
 | .ok a S'=>k a S'
 | .exn n S'=>.exn n S'
 | .bad=>.bad
abbrev Env:=List (Option D)
structure Mp where
 pl:List Addr
 rs:List Addr
def Mp.push (μ:Mp) (p:Addr):Mp:=⟨μ.pl++[p],μ.rs⟩
def TupAt (K:PySem.W.Frag) (μ:Mp) (H:Hp) (a:Addr) (xs:List V):Prop:=
 (Rd H a (.tup xs)/\a∉μ.pl/\a∉μ.rs)\/∃ (o:Obj) (b:Array Value) (n:Nat),K.lookup a=some o/\o.cls=.type "tuple"/\o.data=.seq b n/\b.size<=sizeLine/\Vals xs b.toList/\o.dict=none
def ScrAt (K:PySem.W.Frag) (μ:Mp) (H:Hp) (a:Addr) (xs:List V):Prop:=
 (Rd H a (.lst xs)/\a∉μ.pl/\a∉μ.rs)\/∃ (o:Obj) (b:Array Value) (n:Nat),K.lookup a=some o/\o.cls=.type "list"/\o.dict=none/\o.data=.seq b n/\b.size<=sizeLine/\Vals xs b.toList
def LstAt (μ:Mp) (H:Hp) (a:Addr) (xs:List V):Prop:=H a=some (.lst xs)/\a∉μ.pl/\a∉μ.rs
theorem TupAt.sq {K:PySem.W.Frag} {μ:Mp} {H:Hp} {a:Addr} {xs:List V} (h:TupAt K μ H a xs):SqT K H a xs:=h.imp (λz=>z.1) λ⟨o,f,n,a,b,c,d,e,_⟩=>⟨o,f,n,a,b,c,d,e⟩
theorem ScrAt.sq {K:PySem.W.Frag} {μ:Mp} {H:Hp} {a:Addr} {xs:List V} (h:ScrAt K μ H a xs):SqL K H a xs:=h.imp (λz=>z.1) id
theorem LstAt.sq {K:PySem.W.Frag} {μ:Mp} {H:Hp} {a:Addr} {xs:List V} (h:LstAt μ H a xs):SqL K H a xs:=.inl (.inl h.1)
mutual
inductive RD (K:PySem.W.Frag) (μ:Mp) (H:Hp):D->V->Prop where
 | non:RD K μ H .non .non
 | bl (b:Bool):RD K μ H (.bl b) (.bl b)
 | int (i:Int):RD K μ H (.int i) (.int i)
 | str (x:Str):RD K μ H (.str x) (.str x)
 | tup {a:Addr} {xs:List V} {ds:List D}:TupAt K μ H a xs->RDs K μ H ds xs->RD K μ H (.tup ds) (.ref a)
 | lst {a:Addr} {xs:List V} {ds:List D}:LstAt μ H a xs->RDs K μ H ds xs->RD K μ H (.lst ds) (.ref a)
 | scr {a:Addr} {xs:List V} {ds:List D}:ScrAt K μ H a xs->RDs K μ H ds xs->RD K μ H (.scr ds) (.ref a)
 | ref {n:Nat} {a:Addr}:μ.pl[n]?=some a->RD K μ H (.ref n) (.ref a)
inductive RDs (K:PySem.W.Frag) (μ:Mp) (H:Hp):List D->List V->Prop where
 | nil:RDs K μ H [] []
 | cons {d:D} {v:V} {ds:List D} {vs:List V}:RD K μ H d v->RDs K μ H ds vs->RDs K μ H (d :: ds) (v :: vs)
end
structure Lat (μ:Mp) (H:Hp) (μ':Mp) (H':Hp):Prop where
 pre:∀ (n:Nat) (a:Addr),μ.pl[n]?=some a->μ'.pl[n]?=some a
 oth:∀ a o,H a=some o->a∉μ.pl->H' a=some o
 new:∀ a,a∈μ'.pl->a∈μ.pl\/H a=none
 rsv:μ'.rs=μ.rs
theorem Lat.refl (μ:Mp) (H:Hp):Lat μ H μ H:=⟨λ_ _ h=>h,λ_ _ h _=>h,λ_ h=>.inl h,rfl⟩
theorem Lat.out {H H':Hp} (l:Lat μ H μ' H') {a:Addr} {o:HO} (h:H a=some o) (n:a∉μ.pl):a∉μ'.pl:=λz=>by
 rcases l.new a z with q | q
 ·exact n q
 ·rw [h] at q;cases q
theorem Lat.trans {H c b:Hp} (l:Lat μ H μ1 c) (k:Lat μ1 c μ2 b):Lat μ H μ2 b:=by
 refine ⟨λn a h=>k.pre n a (l.pre n a h),λa o h n=>k.oth a o (l.oth a o h n) (l.out h n),λa h=>?_,k.rsv.trans l.rsv⟩;rcases k.new a h with q | q
 ·exact l.new a q
 ·by_cases m:a∈μ.pl
  ·exact .inl m
  ·right
   cases e:H a with
   | none=>rfl
   | some o=>rw [l.oth a o e m] at q;cases q
theorem Rd.later {H H':Hp} (l:Lat μ H μ' H') {a:Addr} {u:HO} (h:Rd H a u) (n:a∉μ.pl):Rd H' a u/\a∉μ'.pl:=by
 rcases h with h | ⟨o,h⟩
 ·exact ⟨.inl (l.oth _ _ h n),l.out h n⟩
 ·exact ⟨.inr ⟨o,l.oth _ _ h n⟩,l.out h n⟩
theorem TupAt.later {K:PySem.W.Frag} {μ μ':Mp} {H H':Hp} (l:Lat μ H μ' H') {a:Addr} {xs:List V} (h:TupAt K μ H a xs):TupAt K μ' H' a xs:=h.imp (λz=>⟨(Rd.later l z.1 z.2.1).1,(Rd.later l z.1 z.2.1).2,by rw [l.rsv];exact z.2.2⟩) id
theorem ScrAt.later {K:PySem.W.Frag} {μ μ':Mp} {H H':Hp} (l:Lat μ H μ' H') {a:Addr} {xs:List V} (h:ScrAt K μ H a xs):ScrAt K μ' H' a xs:=h.imp (λz=>⟨(Rd.later l z.1 z.2.1).1,(Rd.later l z.1 z.2.1).2,by rw [l.rsv];exact z.2.2⟩) id
theorem LstAt.later {H H':Hp} (l:Lat μ H μ' H') {a:Addr} {xs:List V} (h:LstAt μ H a xs):LstAt μ' H' a xs:=⟨l.oth _ _ h.1 h.2.1,l.out h.1 h.2.1,by rw [l.rsv];exact h.2.2⟩
mutual
theorem RD.later {K:PySem.W.Frag} {μ μ':Mp} {H H':Hp} (l:Lat μ H μ' H'):∀ {d:D} {v:V},RD K μ H d v->RD K μ' H' d v
 | _,_,.non=>.non
 | _,_,.bl b=>.bl b
 | _,_,.int i=>.int i
 | _,_,.str x=>.str x
 | _,_,.tup h r=>.tup (h.later l) (RDs.later l r)
 | _,_,.lst h r=>.lst (h.later l) (RDs.later l r)
 | _,_,.scr h r=>.scr (h.later l) (RDs.later l r)
 | _,_,.ref h=>.ref (l.pre _ _ h)
theorem RDs.later {K:PySem.W.Frag} (l:Lat μ H μ' H'):∀ {ds:List D} {vs:List V},RDs K μ H ds vs->RDs K μ' H' ds vs
 | _,_,.nil=>.nil
 | _,_,.cons h r=>.cons (RD.later l h) (RDs.later l r)
end
section
variable {K:PySem.W.Frag} {μ:Mp} {H:Hp}
theorem RDs.length:∀ {ds:List D} {vs:List V},RDs K μ H ds vs->ds.length=vs.length
 | _,_,.nil=>rfl
 | _,_,.cons _ r=>by simp [RDs.length r]
theorem RDs.get:∀ {ds:List D} {vs:List V} {i:Nat} {d:D},RDs K μ H ds vs->ds[i]?=some d->∃ v,vs[i]?=some v/\RD K μ H d v
 | _,_,_,_,.nil,e=>by simp at e
 | _,_,0,_,.cons h _,e=>by simp at e;subst e;exact ⟨_,rfl,h⟩
 | _,_,i+1,d,.cons _ r,e=>by
  obtain ⟨v,b,a⟩:=RDs.get r (by simpa using e);exact ⟨v,by simpa using b,a⟩
theorem RDs.append:∀ {ds es:List D} {vs us:List V},RDs K μ H ds vs->RDs K μ H es us->RDs K μ H (ds++es) (vs++us)
 | _,_,_,_,.nil,s=>s
 | _,_,_,_,.cons h r,s=>.cons h (RDs.append r s)
theorem RDs.take:∀ {ds:List D} {vs:List V} (n:Nat),RDs K μ H ds vs->RDs K μ H (ds.take n) (vs.take n)
 | _,_,0,_=>by simpa using RDs.nil
 | _,_,_+1,.nil=>by simpa using RDs.nil
 | _,_,n+1,.cons h r=>by simpa using RDs.cons h (RDs.take n r)
theorem RDs.drop:∀ {ds:List D} {vs:List V} (n:Nat),RDs K μ H ds vs->RDs K μ H (ds.drop n) (vs.drop n)
 | _,_,0,h=>by simpa using h
 | _,_,_+1,.nil=>by simpa using RDs.nil
 | _,_,n+1,.cons _ r=>by simpa using RDs.drop n r
theorem RDs.set (q:RD K μ H d v):∀ {ds:List D} {vs:List V} (n:Nat),RDs K μ H ds vs->RDs K μ H (ds.set n d) (vs.set n v)
 | _,_,_,.nil=>by simpa using RDs.nil
 | _,_,0,.cons h r=>by simpa using RDs.cons q r
 | _,_,n+1,.cons h r=>by simpa using RDs.cons h (RDs.set q n r)
theorem RDs.rep (r:RDs K μ H ds vs):∀ k:Nat,RDs K μ H (List.replicate k ds).flatten (List.replicate k vs).flatten
 | 0=>.nil
 | k+1=>by
  rw [Gx,Gx,Hk,Hk];exact r.append (RDs.rep r k)
theorem RDs.ints:∀ ns:List Int,RDs K μ H (ns.map D.int) (ns.map V.int)
 | []=>.nil
 | n :: ns=>.cons (.int n) (RDs.ints ns)
end
def gi (K:PySem.W.Frag) (μ:Mp) (H:Hp):List (Str×D)->List (Str×V)->Prop:=Paired λp q=>p.1=q.1/\RD K μ H p.2 q.2
def KvsAt (K:PySem.W.Frag) (μ:Mp) (H:Hp):List (Key×D)->List (Key×V)->Prop:=Paired λp q=>p.1=q.1/\RD K μ H p.2 q.2
def OAt (K:PySem.W.Frag) (cl:Nat->Addr) (μ:Mp) (H:Hp) (a:Addr):O->Prop
 | .lst ds=>∃ xs,H a=some (.lst xs)/\RDs K μ H ds xs
 | .dct b=>∃ e,H a=some (.dK e)/\KvsAt K μ H b e
 | .exc c fs=>XC K (cl c)/\∃ gs,gi K μ H fs gs/\∃ f,((gs=[]/\H a=some (O0 f a (cl c) none))\/∃ d,d≠a/\d∉μ.pl/\H a=some (O0 f a (cl c) (some d))/\H d=some (J1 d gs))
structure Rep (K:PySem.W.Frag) (cl:Nat->Addr) (μ:Mp) (S:Sto) (H:Hp):Prop where
 len:μ.pl.length=S.length
 nd:μ.pl.Nodup
 ats:∀ (n:Nat) (o:O) (a:Addr),S[n]?=some o->μ.pl[n]?=some a->OAt K cl μ H a o
 res:∀ a,a∈μ.rs->a∉μ.pl/\∃ u,H a=some u
theorem Paired.mono {P Q:α->β->Prop} (h:∀ a b,P a b->Q a b):∀ {xs:List α} {ys:List β},Paired P xs ys->Paired Q xs ys
 | _,_,.nil=>.nil
 | _,_,.cons r t=>.cons (h _ _ r) (Paired.mono h t)
section
variable {K:PySem.W.Frag} {cl:Nat->Addr} {μ:Mp} {S:Sto} {H:Hp}
theorem OAt.some (h:OAt K cl μ H a o):∃ u,H a=some u:=by
 cases o with
 | lst ds=>obtain ⟨xs,e,_⟩:=h;exact ⟨_,e⟩
 | dct kvs=>obtain ⟨xs,e,_⟩:=h;exact ⟨_,e⟩
 | exc c fs=>
  obtain ⟨_,gs,_,fr,⟨_,e⟩ | ⟨d,_,_,e,_⟩⟩:=h
  ·exact ⟨_,e⟩
  ·exact ⟨_,e⟩
theorem Rep.tracked (r:Rep K cl μ S H) {a:Addr} (h:a∈μ.pl):∃ u,H a=some u:=by
 obtain ⟨n,b,e⟩:=Gy h;have hs:n<S.length:=by rw [<- r.len];exact b
 exact (r.ats n S[n] a (Em hs) (by rw [Em b,e])).some
theorem Rep.notrs (r:Rep K cl μ S H) {p:Addr} (h:H p=none):p∉μ.rs:=λz=>by
 obtain ⟨_,u,e⟩:=r.res p z;rw [h] at e;cases e
theorem Rep.notin (r:Rep K cl μ S H) {p:Addr} (h:H p=none):p∉μ.pl:=λz=>by
 obtain ⟨u,e⟩:=r.tracked z;rw [h] at e;cases e
theorem Lat.laid (h:H p=none):Lat μ H μ (upd H p o):=⟨λ_ _ h=>h,λa u e _=>by rw [a8 (b8 e h)];exact e,λ_ h=>.inl h,rfl⟩
theorem Rep.keep (r:Rep K cl μ S H) (l:Lat μ H μ H') (k:∀ a,a∈μ.pl->H' a=H a):Rep K cl μ S H':=by
 refine ⟨r.len,r.nd,λn o a e1 e2=>?_,λa m=>let ⟨h1,u,h2⟩:=r.res a m;⟨h1,u,l.oth _ _ h2 h1⟩⟩;have ka:=k a (Fk e2);have h:=r.ats n o a e1 e2;cases o with
 | lst ds=>obtain ⟨xs,e,q⟩:=h;exact ⟨xs,by rw [ka];exact e,q.later l⟩
 | dct kvs=>obtain ⟨xs,e,q⟩:=h;exact ⟨xs,by rw [ka];exact e,Paired.mono (λ_ _ ⟨z,w⟩=>⟨z,w.later l⟩) q⟩
 | exc c fs=>
  obtain ⟨xc,gs,q,fr,h⟩:=h;refine ⟨xc,gs,Paired.mono (λ_ _ ⟨z,w⟩=>⟨z,w.later l⟩) q,fr,?_⟩;rcases h with ⟨z,e⟩ | ⟨d,h1,h2,e,e2⟩
  ·grind
  ·exact .inr ⟨d,h1,h2,by rw [ka];exact e,l.oth _ _ e2 h2⟩
theorem Rep.laid (r:Rep K cl μ S H) (h:H p=none):Rep K cl μ S (upd H p o):=r.keep (Lat.laid h) λa m=>a8 λz=>r.notin h (z▸m)
theorem Lat.pushed (h:H p=none) (k:∀ a u,H a=some u->H' a=some u):Lat μ H (μ.push p) H':=
 ⟨λn a e=>by show (μ.pl++[p])[n]?=_;rw [Et (Eo.mp e).1];exact e,λa u e _=>k a u e,λa m=>by
  rcases Fo.mp m with z | z
  ·exact .inl z
  ·exact .inr (by rw [Fy.mp z];exact h),rfl⟩
theorem OAt.later {a:Addr} {o:O} (h:OAt K cl μ H a o) (l:Lat μ H μ' H') (ka:H' a=H a):OAt K cl μ' H' a o:=by
 cases o with
 | lst ds=>obtain ⟨xs,e,q⟩:=h;exact ⟨xs,by rw [ka];exact e,q.later l⟩
 | dct kvs=>obtain ⟨xs,e,q⟩:=h;exact ⟨xs,by rw [ka];exact e,Paired.mono (λ_ _ ⟨z,w⟩=>⟨z,w.later l⟩) q⟩
 | exc c fs=>
  obtain ⟨xc,gs,q,fr,h⟩:=h;refine ⟨xc,gs,Paired.mono (λ_ _ ⟨z,w⟩=>⟨z,w.later l⟩) q,fr,?_⟩;rcases h with ⟨z,e⟩ | ⟨d,h1,h2,e,e2⟩
  ·grind
  ·exact .inr ⟨d,h1,l.out e2 h2,by rw [ka];exact e,l.oth _ _ e2 h2⟩
theorem Rep.pushed (r:Rep K cl μ S H) (h:H p=none) (k:∀ a u,H a=some u->H' a=some u) (i:OAt K cl (μ.push p) H' p o):Rep K cl (μ.push p) (S++[o]) H':=by
 have l:=Lat.pushed (μ:=μ) h k;refine ⟨by simp [Mp.push,r.len],?_,λn u a d c=>?_,λa m=>?_⟩
 ·show (μ.pl++[p]).Nodup;rw [HY];exact ⟨r.nd,by simp,λa m b m2=>by rw [Fy.mp m2];rintro rfl;exact r.notin h m⟩
 ·have c:(μ.pl++[p])[n]?=some a:=c;by_cases f:n<S.length
  ·rw [Et f] at d;rw [Et (by rw [r.len];exact f)] at c;have q:=r.ats n u a d c;obtain ⟨z,g⟩:=q.some;exact q.later l ((k a z g).trans g.symm)
  ·have e:n=S.length:=by
    have:=(Eo.mp d).1;simp at this;omega
   subst e;rw [<- r.len] at c;simp at d c;subst d;subst c;exact i
 ·obtain ⟨j,u,s⟩:=r.res a m;refine ⟨λz=>?_,u,k a u s⟩;rcases Fo.mp (z) with z | z
  ·exact j z
  ·grind
theorem Lat.wrote (h:a∈μ.pl):Lat μ H μ (upd H a o):=⟨λ_ _ h=>h,λb u e n=>by rw [a8 (λz=>n (by rw [z];exact h))];exact e,λ_ h=>.inl h,rfl⟩
theorem Rep.wrote (r:Rep K cl μ S H) (e:μ.pl[n]?=some a) (s:OAt K cl μ (upd H a u) a o):Rep K cl μ (S.set n o) (upd H a u):=by
 have m:=Fk e;refine ⟨by simp [r.len],r.nd,λk w b d f=>?_,λb l=>let ⟨c,p,g⟩:=r.res b l;⟨c,p,by rw [a8 (λz=>c (by rw [z];exact m))];exact g⟩⟩;by_cases h:n=k
 ·grind
 ·rw [Ff h] at d;have i:b≠a:=λz=>by
   subst z;obtain ⟨c,j⟩:=Eo.mp e;obtain ⟨g,q⟩:=Eo.mp f;exact h ((List.getElem_inj r.nd).mp (j.trans q.symm))
  exact (r.ats k w b d f).later (Lat.wrote m) (a8 i)
end
def Mp.hold (μ:Mp) (p:Addr):Mp:=⟨μ.pl,p :: μ.rs⟩
mutual
theorem RD.move {K:PySem.W.Frag} {μ μ':Mp} {H H':Hp} (g:∀ (n:Nat) (a:Addr),μ.pl[n]?=some a->μ'.pl[n]?=some a) (c:∀ a u,H a=some u->a∉μ.pl->a∉μ.rs->H' a=some u/\a∉μ'.pl/\a∉μ'.rs):∀ {d:D} {v:V},RD K μ H d v->RD K μ' H' d v
 | _,_,.non=>.non
 | _,_,.bl b=>.bl b
 | _,_,.int i=>.int i
 | _,_,.str x=>.str x
 | _,_,.tup h r=>.tup (h.imp (λ⟨q,e,f⟩=>by
   rcases q with q | ⟨o,q⟩
   ·exact ⟨.inl (c _ _ q e f).1,(c _ _ q e f).2⟩
   ·exact ⟨.inr ⟨o,(c _ _ q e f).1⟩,(c _ _ q e f).2⟩) id) (RDs.move g c r)
 | _,_,.lst h r=>.lst (c _ _ h.1 h.2.1 h.2.2) (RDs.move g c r)
 | _,_,.scr h r=>.scr (h.imp (λ⟨q,e,f⟩=>by
   rcases q with q | ⟨o,q⟩
   ·exact ⟨.inl (c _ _ q e f).1,(c _ _ q e f).2⟩
   ·exact ⟨.inr ⟨o,(c _ _ q e f).1⟩,(c _ _ q e f).2⟩) id) (RDs.move g c r)
 | _,_,.ref h=>.ref (g _ _ h)
theorem RDs.move {K:PySem.W.Frag} {μ μ':Mp} {H H':Hp} (hp:∀ (n:Nat) (a:Addr),μ.pl[n]?=some a->μ'.pl[n]?=some a) (ho:∀ a u,H a=some u->a∉μ.pl->a∉μ.rs->H' a=some u/\a∉μ'.pl/\a∉μ'.rs):∀ {ds:List D} {vs:List V},RDs K μ H ds vs->RDs K μ' H' ds vs
 | _,_,.nil=>.nil
 | _,_,.cons h r=>.cons (RD.move hp ho h) (RDs.move hp ho r)
end
section
variable {K:PySem.W.Frag} {cl:Nat->Addr} {μ:Mp} {S:Sto} {H:Hp}
theorem Rep.move {H':Hp} (r:Rep K cl μ S H) (hr:∀ a,a∈μ'.rs->a∉μ'.pl/\∃ u,H' a=some u) (hp:μ'.pl=μ.pl) (hk:∀ a,a∈μ.pl->H' a=H a) (hx:∀ a u,H a=some (.ext u)->H' a=some (.ext u)) (ho:∀ a u,H a=some u->a∉μ.pl->a∉μ.rs->H' a=some u/\a∉μ'.pl/\a∉μ'.rs):Rep K cl μ' S H':=by
 have hp':∀ (n:Nat) (a:Addr),μ.pl[n]?=some a->μ'.pl[n]?=some a:=λn a e=>by rw [hp];exact e
 refine ⟨by rw [hp];exact r.len,by rw [hp];exact r.nd,λn o a e1 e2=>?_,hr⟩;rw [hp] at e2;have ka:=hk a (Fk e2);have h:=r.ats n o a e1 e2;cases o with
 | lst ds=>obtain ⟨xs,e,q⟩:=h;exact ⟨xs,by rw [ka];exact e,q.move hp' ho⟩
 | dct kvs=>obtain ⟨xs,e,q⟩:=h;exact ⟨xs,by rw [ka];exact e,Paired.mono (λ_ _ ⟨z,w⟩=>⟨z,w.move hp' ho⟩) q⟩
 | exc c fs=>
  obtain ⟨xc,gs,q,fr,h⟩:=h;refine ⟨xc,gs,Paired.mono (λ_ _ ⟨z,w⟩=>⟨z,w.move hp' ho⟩) q,fr,?_⟩;rcases h with ⟨z,e⟩ | ⟨d,h1,h2,e,e2⟩
  ·grind
  ·exact .inr ⟨d,h1,by rw [hp];exact h2,by rw [ka];exact e,hx _ _ e2⟩
end
section
variable (K:PySem.W.Frag) (cl:Nat->Addr) (xe:Addr->Hp->Prop)
def Post {b:Type} (μ:Mp) (H:Hp) (r:R b) (G:b->Sto->Mp->Hp->Prop):Prop:=match r with
 | .ok a S=>∀ μ' H',Lat μ H μ' H'->Rep K cl μ' S H'->G a S μ' H'
 | .exn n S=>∀ μ' H' a,Lat μ H μ' H'->Rep K cl μ' S H'->μ'.pl[n]?=some a->xe a H'
 | .bad=>False
end
section
variable {K:PySem.W.Frag} {cl:Nat->Addr} {xe:Addr->Hp->Prop} {α β:Type} {μ μ1:Mp} {H H1:Hp}
theorem Post.later {G:α->Sto->Mp->Hp->Prop} (h:Post K cl xe μ H r G) (l:Lat μ H μ1 H1):Post K cl xe μ1 H1 r G:=by
 cases r with
 | ok a S=>exact λμ' H' k r=>h μ' H' (l.trans k) r
 | exn n S=>exact λμ' H' a k r e=>h μ' H' a (l.trans k) r e
 | bad=>exact h
theorem Post.imp {G G':α->Sto->Mp->Hp->Prop} (h:Post K cl xe μ H r G) (k:∀ a S μ' H',Lat μ H μ' H'->Rep K cl μ' S H'->G a S μ' H'->G' a S μ' H'):Post K cl xe μ H r G':=by
 cases r with
 | ok a S=>exact λμ' H' l r=>k a S μ' H' l r (h μ' H' l r)
 | exn n S=>exact h
 | bad=>exact h
theorem Post.bind {k:α->M β} {S:Sto} {G:β->Sto->Mp->Hp->Prop} (h:Post K cl xe μ H (bind m k S) G):Post K cl xe μ H (m S) (λa S1 μ1 H1=>Post K cl xe μ1 H1 (k a S1) G):=by
 unfold L3.bind at h;cases e:m S with
 | ok a S1=>
  rw [e] at h;exact λμ' H' l r=>Post.later h l
 | exn n S1=>rw [e] at h;exact h
 | bad=>rw [e] at h;exact h
theorem Post.ret {G:α->Sto->Mp->Hp->Prop} (h:Post K cl xe μ H (ret a S) G):∀ μ' H',Lat μ H μ' H'->Rep K cl μ' S H'->G a S μ' H':=h
end
def EnvOk (K:PySem.W.Frag) (μ:Mp) (H:Hp) (ρ:Env) (σ:L2.St):Prop:=ρ.length=σ.length/\∀ (i:Nat) (d:D),ρ[i]?=some (some d)->∃ v,σ[i]?=some (some v)/\RD K μ H d v
theorem EnvOk.later {K:PySem.W.Frag} {μ a:Mp} {H b:Hp} {ρ:Env} {σ:L2.St} (h:EnvOk K μ H ρ σ) (l:Lat μ H a b):EnvOk K a b ρ σ:=⟨h.1,λi d e=>let ⟨v,q,r⟩:=h.2 i d e;⟨v,q,r.later l⟩⟩
theorem EnvOk.set {K:PySem.W.Frag} {μ:Mp} {H:Hp} {ρ:Env} {σ:L2.St} {d:D} {v:V} (h:EnvOk K μ H ρ σ) (r:RD K μ H d v) (i:Nat):EnvOk K μ H (ρ.set i (some d)) (σ.set i (some v)):=by
 refine ⟨by simp [h.1],λj e b=>?_⟩;by_cases a:i=j
 ·subst a;have c:i<ρ.length:=by
   have:=(Eo.mp b).1;simpa using this
  rw [FA c] at b;cases b;exact ⟨v,FA (by rw [<- h.1];exact c),r⟩
 ·rw [Ff a] at b;obtain ⟨u,q,f⟩:=h.2 j e b;exact ⟨u,by rw [Ff a];exact q,f⟩
section
variable (K:PySem.W.Frag) (cl:Nat->Addr) (xe:Addr->Hp->Prop)
def tD (f:Env->M D):TE:=λσ H Q=>∃ μ S ρ,EnvOk K μ H ρ σ/\Rep K cl μ S H/\Post K cl xe μ H (f ρ S) λd _ μ' H'=>∀ v,RD K μ' H' d v->Q v H'
def tDs (f:Env->M (List D)):TA:=λσ H Q=>∃ μ S ρ,EnvOk K μ H ρ σ/\Rep K cl μ S H/\Post K cl xe μ H (f ρ S) λds _ μ' H'=>∀ vs,RDs K μ' H' ds vs->Q vs H'
def tBo (f:Env->M Bool):TT:=λσ H Q=>∃ μ S ρ,EnvOk K μ H ρ σ/\Rep K cl μ S H/\Post K cl xe μ H (f ρ S) λb _ _ H'=>Q b H'
def rP2 (g:D->D->M D):R2:=λx y H Q=>∃ μ S d e,RD K μ H d x/\RD K μ H e y/\Rep K cl μ S H/\Post K cl xe μ H (g d e S) λr _ μ' H'=>∀ v,RD K μ' H' r v->Q v H'
def rPs (g:List D->M D):List V->Hp->VK->Prop:=λxs H Q=>∃ μ S ds,RDs K μ H ds xs/\Rep K cl μ S H/\Post K cl xe μ H (g ds S) λr _ μ' H'=>∀ v,RD K μ' H' r v->Q v H'
end
theorem PE.imp (h:PE X e t) (k:∀ σ H Q,t' σ H Q->t σ H Q):PE X e t':=λpins s σ H Q I q=>h pins s σ H Q I (k σ H Q q)
theorem PT.imp (h:PT X e t) (k:∀ σ H Q,t' σ H Q->t σ H Q):PT X e t':=λpins s σ H Q I q=>h pins s σ H Q I (k σ H Q q)
theorem PW.imp (h:PW X e t) (k:∀ σ H Q,t' σ H Q->t σ H Q):PW X e t':=λw pins s σ H Q I q=>h w pins s σ H Q I (k σ H Q q)
theorem PA.imp (h:PA X es t) (k:∀ σ H Q,t' σ H Q->t σ H Q):PA X es t':=λp pins s σ H Q I q=>h p pins s σ H Q I (k σ H Q q)
theorem PS.imp {st:Stmt} {t t':TS} (h:PS X st t) (k:∀ D σ H,t' D σ H->t D σ H):PS X st t':=λpins s σ H D I q=>h pins s σ H D I (k D σ H q)
theorem PSs.imp {st:List Stmt} {t t':TS} (h:PSs X st t) (k:∀ D σ H,t' D σ H->t D σ H):PSs X st t':=λpins s σ H D I q=>h pins s σ H D I (k D σ H q)
section
variable {X:Cx} {cl:Nat->Addr} {xe:Addr->Hp->Prop} {a b c:Expr} {es:List Expr} {pos:Pos} {f g:Env->M D}
theorem d8:PE X e (tD X.K cl xe λ_=>bad):=λ_ _ _ _ _ _ ⟨_,_,_,_,_,p⟩=>p.elim
theorem iJ:PT X e (tBo X.K cl xe λ_=>bad):=λ_ _ _ _ _ _ ⟨_,_,_,_,_,p⟩=>p.elim
theorem pw_bad:PW X e (tBo X.K cl xe λ_=>bad):=λ_ _ _ _ _ _ _ ⟨_,_,_,_,_,p⟩=>p.elim
theorem K4 (h:PE X e (tC v)) (r:∀ μ H,RD X.K μ H d v):PE X e (tD X.K cl xe λ_=>ret d):=PE.imp h λσ H Q ⟨μ,S,ρ,b,a,p⟩=>p.ret μ H (Lat.refl _ _) a v (r μ H)
def getD (i:Nat) (ρ:Env):M D:=match ρ[i]? with
 | some (some d)=>ret d
 | _=>bad
theorem xt {e:Expr} (h:PE X e (zq i)):PE X e (tD X.K cl xe λρ=>getD i ρ):=PE.imp h λσ H Q ⟨μ,S,ρ,b,a,p⟩=>by
 cases e:ρ[i]? with
 | none=>simp only [getD,e] at p;exact p.elim
 | some o=>
  cases o with
  | none=>simp only [getD,e] at p;exact p.elim
  | some d=>
   simp only [getD,e] at p;obtain ⟨v,q,r⟩:=b.2 i d e;exact ⟨v,q,p.ret μ H (Lat.refl _ _) a v r⟩
theorem zP (e:PE X a (tD X.K cl xe f)) (k:PE X b (tD X.K cl xe g)) (s:OpR X (binaryOp op) (rP2 X.K cl xe h)) :
  PE X (.BinOp a op b pos) (tD X.K cl xe λρ=>bind (f ρ) λx=>bind (g ρ) λy=>h x y):=PE.imp (AF s e k) λσ H Q ⟨μ,S,ρ,d,j,p⟩=>
 ⟨μ,S,ρ,d,j,p.bind.imp λx S1 c z t q i v r=>⟨c,S1,ρ,d.later t,q,i.bind.imp λy S2 μ2 w l o m u n=>⟨μ2,S2,x,y,r.later l,n,o,m⟩⟩⟩
theorem yb (e:PE X a (tD X.K cl xe f)) (k:PE X b (tD X.K cl xe g)) (s:OpR X (compareOp op) (rP2 X.K cl xe h)) (w:behindInMarks op b=false) :
  PE X (.Compare a [op] [b] pos) (tD X.K cl xe λρ=>bind (f ρ) λx=>bind (g ρ) λy=>h x y):=PE.imp (vz s e k w) λσ H Q ⟨μ,S,ρ,d,j,p⟩=>
 ⟨μ,S,ρ,d,j,p.bind.imp λx S1 c A t q i v r=>⟨c,S1,ρ,d.later t,q,i.bind.imp λy S2 μ2 z l o m u n=>⟨μ2,S2,x,y,r.later l,n,o,m⟩⟩⟩
theorem Ax (e:PE X a (tD X.K cl xe f)) (k:PE X b (tD X.K cl xe g)) (s:IxR X (rP2 X.K cl xe h)) (hs:dg b) :
  PE X (.Subscript a b pos) (tD X.K cl xe λρ=>bind (f ρ) λx=>bind (g ρ) λy=>h x y):=PE.imp (BK s e k hs) λσ H Q ⟨μ,S,ρ,d,j,p⟩=>
 ⟨μ,S,ρ,d,j,p.bind.imp λx S1 c z t q i v r=>⟨c,S1,ρ,d.later t,q,i.bind.imp λy S2 μ2 w l o m u n=>⟨μ2,S2,x,y,r.later l,n,o,m⟩⟩⟩
theorem AH (n:PT X c (tBo X.K cl xe t)) (k:PE X a (tD X.K cl xe f)) (m:PE X b (tD X.K cl xe g)):PE X (.IfExp c a b pos) (tD X.K cl xe λρ=>bind (t ρ) λq=>if q=true then f ρ else g ρ):=PE.imp (oO n k m) λσ H Q ⟨μ,S,ρ,e,l,p⟩=>
 ⟨μ,S,ρ,e,l,p.bind.imp λq S1 d o j i h=>by
  cases q with
  | true=>exact ⟨d,S1,ρ,e.later j,i,h⟩
  | false=>exact ⟨d,S1,ρ,e.later j,i,h⟩⟩
theorem zQ (h:PT X a (tBo X.K cl xe t)):PT X (.UnaryOp .Not a pos) (tBo X.K cl xe λρ=>bind (t ρ) λq=>ret (!q)):=PT.imp (gq h) λσ H Q ⟨μ,S,ρ,f,d,p⟩=>
 ⟨μ,S,ρ,f,d,p.bind.imp λq S1 b g i e c=>c.ret b g (Lat.refl _ _) e⟩
theorem uE (h:PT X a (tBo X.K cl xe t)):PW X (.BoolOp .And [a] pos) (tBo X.K cl xe t):=pw_and1 h
theorem yi (h:PT X a (tBo X.K cl xe t)):PW X (.BoolOp .Or [a] pos) (tBo X.K cl xe t):=pw_or1 h
theorem yy {c:List Expr} (h:PT X a (tBo X.K cl xe t)) (k:PW X (.BoolOp .And (b :: c) pos) (tBo X.K cl xe u)):PW X (.BoolOp .And (a :: b :: c) pos) (tBo X.K cl xe λρ=>bind (t ρ) λq=>if q=true then u ρ else ret false):=PW.imp (pw_and h k) λσ H Q ⟨μ,S,ρ,g,i,p⟩=>
 ⟨μ,S,ρ,g,i,p.bind.imp λq S1 d l j f e=>by
  cases q with
  | true=>exact ⟨d,S1,ρ,g.later j,f,e⟩
  | false=>exact e.ret d l (Lat.refl _ _) f⟩
theorem BJ {c:List Expr} (h:PT X a (tBo X.K cl xe t)) (k:PW X (.BoolOp .Or (b :: c) pos) (tBo X.K cl xe u)):PW X (.BoolOp .Or (a :: b :: c) pos) (tBo X.K cl xe λρ=>bind (t ρ) λq=>if q=true then ret true else u ρ):=PW.imp (pw_or h k) λσ H Q ⟨μ,S,ρ,g,i,p⟩=>
 ⟨μ,S,ρ,g,i,p.bind.imp λq S1 d l j f e=>by
  cases q with
  | true=>exact e.ret d l (Lat.refl _ _) f
  | false=>exact ⟨d,S1,ρ,g.later j,f,e⟩⟩
def asB (d:D):M Bool:=match d with
 | .bl b=>ret b
 | _=>bad
theorem xV {K:PySem.W.Frag} {a:Mp} {c:Hp} {S:Sto} {d:D} {v:V} {Q:Bool->Hp->Prop} (f:RD K a c d v) (e:Rep K cl a S c) (p:Post K cl xe a c (asB d S) λb _ _ H'=>Q b H'):∃ k,v=.bl k/\Q k c:=by
 cases f with
 | bl b=>exact ⟨b,rfl,p.ret a c (Lat.refl _ _) e⟩
 | _=>exact p.elim
theorem yL (o:PE X a (tD X.K cl xe f)) (k:PE X b (tD X.K cl xe g)) (r:OpR X (compareOp op) (rP2 X.K cl xe h)) (n:behindInMarks op b=false) :
  PT X (.Compare a [op] [b] pos) (tBo X.K cl xe λρ=>bind (f ρ) λx=>bind (g ρ) λy=>bind (h x y) asB):=PT.imp (td r o k n) λσ H Q ⟨μ,S,ρ,d,t,p⟩=>
 ⟨μ,S,ρ,d,t,p.bind.imp λx S1 c I s q j v m=>⟨c,S1,ρ,d.later s,q,j.bind.imp λy S2 μ2 J A D l u B=>⟨μ2,S2,x,y,m.later A,B,D,l.bind.imp λz F e E G C i w rw=>xV rw C i⟩⟩⟩
end
end L3
namespace HT
open PySem PySem.Spec PyProof.Rows
theorem noFill_tuple_mul:fillsNumberSlot (.type "tuple") "mul" = pure false:=
 PySem.fillsNumberSlot_seq F.slot_tuple_mul.lookup (by decide +kernel) F.slot_tuple_rmul.lookup (by decide +kernel)
theorem repeat_tuple:seqRepeat? (.type "tuple")=pure (some (.builtin "tuple.__mul__")):=by
 unfold seqRepeat?;rw [PySem.seqSlot_of (name:="__mul__") F.slot_tuple_mul.lookup (by decide +kernel),PySem.seqSlot_of (name:="__rmul__") F.slot_tuple_rmul.lookup (by decide +kernel)];rfl
theorem int_rmul_tuple (a:Int) (t:Tok) (l:Addr) (items:Array Value) (n:Nat) (b:Option Addr) (c:Array (Option Value)) :
  Meets (Builtin.«int.__rmul__» ⟨[.int a t,.ref l],[]⟩) (λ_ R s=>s.heap.get? l=some { cls:=.type "tuple",dict:=b,data:=.seq items n,slots:=c }/\R (.ok (.ret Value.notImplemented)) s):=
 .of_wp λprog w A R s h=>by obtain ⟨f,g,d,i,e⟩:=s;obtain ⟨j,h⟩:=h;wp_walk;exact ⟨_,rfl,h⟩
theorem tuple_mul1 (l:Addr) (items:Array Value) (n:Nat) (a:Option Addr) (b:Array (Option Value)) (u:Tok) :
  Meets (Builtin.«tuple.__mul__» ⟨[.ref l,.int 1 u],[]⟩) (λ_ R s=>s.heap.get? l=some { cls:=.type "tuple",dict:=a,data:=.seq items n,slots:=b }/\R (.ok (.ret (.ref l))) s):=
 .of_wp λprog w A R s h=>by obtain ⟨e,g,d,f,c⟩:=s;obtain ⟨i,h⟩:=h;wp_walk;exact ⟨_,rfl,h⟩
theorem gO {k:Int} (b:1<=k) (a:k<2 ^ 63):¬ ((decide (k < -(2 ^ 63))||decide (k≥2 ^ 63))=true):=by grind
theorem tuple_mul2 (l:Addr) (items:Array Value) (n:Nat) (r:Option Addr) (v:Array (Option Value)) (k:Int) (u:Tok) (a:¬ (items.isEmpty||k==1)=true) (B:2<=k) (p:k<2 ^ 63) (hsz:items.size * k.toNat<=sizeLine) :
  Meets (Builtin.«tuple.__mul__» ⟨[.ref l,.int k u],[]⟩) (λ_ R s=>s.heap.get? l=some { cls:=.type "tuple",dict:=r,data:=.seq items n,slots:=v }/\R (.ok (.ret (.ref s.heap.objs.size))) { s with heap:=s.heap.push { cls:=.type "tuple",data:=.seq ((List.replicate k.toNat items).foldl (·++·) #[]) } }):=
 .of_wp λprog w A R s h=>by
  obtain ⟨j,g,d,y,x⟩:=s;obtain ⟨t,h⟩:=h;have q:=gO (by omega) p;have e:=Fp;have i:((k.toNat:Nat):Int)=k:=Int.toNat_of_nonneg (by omega);have b:(items.size:Int) * k=((items.size * k.toNat:Nat):Int):=by rw [Int.natCast_mul,i]
  have c:¬ (decide (k<=0)||items.isEmpty)=true:=by
   simp only [Iv,Fh] at a ⊢;intro z;rcases z with z | z
   ·omega
   ·exact a (.inl z)
  have f:¬ ((items.size:Int) * k > (2 ^ 63-1) / 8):=by rw [b];omega
  have m:¬ Builtin.Tuple.tupleTooMany ((items.size:Int) * k)=true:=by
   rw [b];simp only [Builtin.Tuple.tupleTooMany,Fh];omega
  have hz:((List.replicate k.toNat items).foldl (·++·) #[]).size<=sizeLine:=by
   rw [AutoListH.size_joined,Nat.mul_comm];simpa using hsz
  wp_walk
  rw [if_neg q];have o:IsTup j l items:=⟨_,t,rfl,n,rfl⟩;refine Ej (Je o ?_);rw [if_neg a];rw [if_neg c];rw [if_neg f];rw [if_neg m];refine Ej (Ft ?_ hz);exact Ek ⟨_,rfl,h⟩
end HT
namespace L2
open PySem PySem.Spec PyProof.Rows
section
variable {X:Cx}
theorem sR:OpR X (binaryOp .Mult) (λx y H Q=>∃ a k xs,x=.ref a/\y=.int k/\SqT X.K H a xs/\xs≠[]/\1<=k/\k<2 ^ 63/\xs.length * k.toNat<=sizeLine/\(k=1->Q (.ref a) H)/\(k≠1->∀ p,H p=none->Q (.ref p) (upd H p (.tup (List.replicate k.toNat xs).flatten)))):=by
 intro pins s σ H x y v u Q I J C h;obtain ⟨a,k,xs,rfl,rfl,o,r,N,k2,hz,B,w⟩:=h;cases J;obtain ⟨t,rfl⟩:=C;obtain ⟨c,g,D,_⟩:=I.tuple o;obtain ⟨⟨E,e,j,f⟩,d,G,n,hd⟩:=id D;subst G hd;have L:=g.length;by_cases i:k=1
 ·subst i;exact Hv (by decide) ⟨_,d,rfl⟩ (λs'=>Ii s' 1 t) HT.noFill_tuple_mul F.fills_int_mul F.slot_int_rmul HT.repeat_tuple F.slot_int_index.lookup
   (Hm F.slot_int_rmul (Ii s 1 t) F.entry_int_rmul (F.args_int_rmul_2 _ _) (HT.int_rmul_tuple 1 t a c.toArray n e f)
    ⟨d,rfl,⟨_,d,rfl⟩,Hm F.slot_tuple_mul ⟨_,d,rfl⟩ F.entry_tuple_mul (F.args_tuple_mul_2 _ _) (HT.tuple_mul1 a c.toArray n e f t) ⟨d,.ref a,H,I,rfl,B rfl⟩⟩)
 ·have M:=λz=>r (g.nil_iff.mp z);have l:¬ (c.toArray.isEmpty||k==1)=true:=by
   simp only [Iv,Ih];rintro (z | z)
   ·grind
   ·exact i z
  refine Hv (by decide) ⟨_,d,rfl⟩ (λs'=>Ii s' k t) HT.noFill_tuple_mul F.fills_int_mul F.slot_int_rmul HT.repeat_tuple F.slot_int_index.lookup
   (Hm F.slot_int_rmul (Ii s k t) F.entry_int_rmul (F.args_int_rmul_2 _ _) (HT.int_rmul_tuple k t a c.toArray n e f)
    ⟨d,rfl,⟨_,d,rfl⟩,Hm F.slot_tuple_mul ⟨_,d,rfl⟩ F.entry_tuple_mul (F.args_tuple_mul_2 _ _) (HT.tuple_mul2 a c.toArray n e f k t l (by omega) k2 (by rw [Ey,<- L];exact hz)) ⟨d,?_⟩⟩)
  have m:List.foldl (λA K=>A++K) #[] (List.replicate k.toNat c.toArray)=(List.replicate k.toNat c).flatten.toArray:=by
   have:=W4 c k.toNat [];rw [List.nil_append] at this;exact this
  rw [m];refine ⟨.ref s.heap.objs.size,_,I.laid (λb ob q=>El _ q) (Es _) ?_,rfl,w i _ (I.hok.fresh (Es _))⟩;exact ⟨by rw [jj,Nat.mul_comm];exact hz,_,g.rep k.toNat,TupN.new _ _⟩
end
end L2
namespace L3
open PySem PySem.Spec PyProof.Rows L2
def lstOf (d:D):M (List D):=match d with
 | .lst ds=>ret ds
 | .ref n=>λS=>match S[n]? with
  | some (.lst ds)=>.ok ds S
  | _=>.bad
 | _=>bad
def B1 (d:D):M (List D):=match d with
 | .tup ds=>ret ds
 | .scr ds=>ret ds
 | d=>lstOf d
section
variable {K:PySem.W.Frag} {cl:Nat->Addr} {xe:Addr->Hp->Prop} {μ:Mp} {H:Hp} {S:Sto} {α:Type}
theorem r8 (rd:RD K μ H d v) (rp:Rep K cl μ S H) (p:Post K cl xe μ H (lstOf d S) G):∃ a xs ds,v=.ref a/\H a=some (.lst xs)/\RDs K μ H ds xs/\lstOf d S=.ok ds S:=by
 cases rd with
 | lst h r=>exact ⟨_,_,_,rfl,h.1,r,rfl⟩
 | ref e=>
  rename_i n a;simp only [lstOf] at p;cases q:S[n]? with
  | none=>rw [q] at p;exact p.elim
  | some o=>
   cases o with
   | lst ds=>
    obtain ⟨xs,h1,h2⟩:=rp.ats n _ a q e;exact ⟨a,xs,ds,rfl,h1,h2,by simp only [lstOf,q]⟩
   | dct _=>rw [q] at p;exact p.elim
   | exc _ _=>rw [q] at p;exact p.elim
 | _=>exact p.elim
theorem Q0 (rd:RD K μ H d v) (rp:Rep K cl μ S H) (p:Post K cl xe μ H (B1 d S) G):∃ a xs ds,v=.ref a/\(SqL K H a xs\/SqT K H a xs)/\RDs K μ H ds xs/\B1 d S=.ok ds S:=by
 cases rd with
 | tup h r=>exact ⟨_,_,_,rfl,.inr h.sq,r,rfl⟩
 | scr h r=>exact ⟨_,_,_,rfl,.inl h.sq,r,rfl⟩
 | lst h r=>exact ⟨_,_,_,rfl,.inl h.sq,r,rfl⟩
 | ref e=>
  obtain ⟨a,xs,ds,h1,h2,h3,h4⟩:=r8 (.ref e) rp p;exact ⟨a,xs,ds,h1,.inl (.inl (.inl h2)),h3,h4⟩
 | _=>exact p.elim
theorem Post.ok_bind {a:α} {G:β->Sto->Mp->Hp->Prop} (e:m S=.ok a S) (p:Post K cl xe μ H (L3.bind m k S) G):Post K cl xe μ H (k a S) G:=by
 unfold L3.bind at p;rw [e] at p;exact p
theorem G8 (b:Rep K cl μ S H) (r:RDs K μ H ds xs) (a:H p=none):Lat μ H μ (upd H p (.tup xs))/\Rep K cl μ S (upd H p (.tup xs))/\RD K μ (upd H p (.tup xs)) (.tup ds) (.ref p):=
 ⟨Lat.laid a,b.laid a,.tup (.inl ⟨.inl b6,b.notin a,b.notrs a⟩) (r.later (Lat.laid a))⟩
theorem B7 (b:Rep K cl μ S H) (r:RDs K μ H ds xs) (a:H p=none):Lat μ H μ (upd H p (.lst xs))/\Rep K cl μ S (upd H p (.lst xs))/\RD K μ (upd H p (.lst xs)) (.lst ds) (.ref p):=
 ⟨Lat.laid a,b.laid a,.lst ⟨b6,b.notin a,b.notrs a⟩ (r.later (Lat.laid a))⟩
theorem ky (c:Rep K cl μ S H) (r:RDs K μ H ds xs) (b:H p=none):Lat μ H (μ.push p) (upd H p (.lst xs))/\Rep K cl (μ.push p) (S++[.lst ds]) (upd H p (.lst xs))/\RD K (μ.push p) (upd H p (.lst xs)) (.ref S.length) (.ref p):=by
 have k:∀ a u,H a=some u->upd H p (.lst xs) a=some u:=λa u e=>by rw [a8 (b8 e b)];exact e
 have l:=Lat.pushed (μ:=μ) b k;refine ⟨l,c.pushed b k ⟨xs,b6,r.later l⟩,.ref ?_⟩;show (μ.pl++[p])[S.length]?=some p;rw [<- c.len];simp
theorem Post.guard [Decidable c] {a:α} {G:α->Sto->Mp->Hp->Prop} (p:Post K cl xe μ H ((if c then L3.ret a else L3.bad) S) G):c/\∀ μ' H',Lat μ H μ' H'->Rep K cl μ' S H'->G a S μ' H':=by
 by_cases b:c
 ·rw [if_pos b] at p;exact ⟨b,p⟩
 ·rw [if_neg b] at p;exact p.elim
end
def f7 {a b:Type} (f:a->Option b):List a->Option (List b)
 | []=>some []
 | x :: xs=>match f x,f7 f xs with
  | some y,some ys=>some (y :: ys)
  | _,_=>none
def d9:Nat->Sto->D->Option PyData
 | 0,_,_=>none
 | n+1,S,d=>match d with
  | .non=>some .none
  | .bl b=>some (.bool b)
  | .int i=>some (.int i)
  | .str x=>some (.str x)
  | .tup ds=>(f7 (d9 n S) ds).map .tuple
  | .lst ds=>(f7 (d9 n S) ds).map .list
  | .scr ds=>(f7 (d9 n S) ds).map .list
  | .ref k=>match S[k]? with
   | some (.lst ds)=>(f7 (d9 n S) ds).map .list
   | _=>none
theorem fU {K:PySem.W.Frag} {μ:Mp} {H:Hp} {S:Sto} {n:Nat} (f:∀ {d:D} {v:V} {q:PyData},d9 n S d=some q->RD K μ H d v->DAt K H v q):∀ {ds:List D} {vs:List V} {a:List PyData},f7 (d9 n S) ds=some a->RDs K μ H ds vs->DAll K H vs a
 | [],_,a,e,r=>by cases r;cases e;exact .nil
 | d :: ds,_,a,e,r=>by
  cases r with
  | cons h t=>
   simp only [f7] at e;cases b:d9 n S d with
   | none=>rw [b] at e;cases e
   | some q=>
    cases c:f7 (d9 n S) ds with
    | none=>grind
    | some g=>
     rw [b,c] at e;cases e;exact .cons (f b h) (fU f c t)
theorem u7 {K:PySem.W.Frag} {cl:Nat->Addr} {μ:Mp} {H:Hp} {S:Sto} (rp:Rep K cl μ S H):∀ (n:Nat) {d:D} {v:V} {q:PyData},d9 n S d=some q->RD K μ H d v->DAt K H v q
 | 0,_,_,_,e,_=>by cases e
 | n+1,d,v,q,e,r=>by
  have all:∀ {ds:List D} {vs:List V} {qs:List PyData},f7 (d9 n S) ds=some qs->RDs K μ H ds vs->DAll K H vs qs:=λe r=>fU (λe r=>u7 rp n e r) e r;have um:∀ {ds:List D} {C:List PyData->PyData},(f7 (d9 n S) ds).map C=some q->∃ qs,f7 (d9 n S) ds=some qs/\q=C qs:=λ{ds C} e=>by
   cases e1:f7 (d9 n S) ds with
   | none=>rw [e1] at e;cases e
   | some qs=>grind
  cases r with
  | non=>cases e;exact .non
  | bl b=>cases e;exact .bl b
  | int i=>cases e;exact .int i
  | str x=>cases e;exact .str x
  | tup h t=>obtain ⟨qs,e1,rfl⟩:=um e;exact .tup h.sq (all e1 t)
  | lst h t=>obtain ⟨qs,e1,rfl⟩:=um e;exact .lst h.sq (all e1 t)
  | scr h t=>obtain ⟨qs,e1,rfl⟩:=um e;exact .lst h.sq (all e1 t)
  | ref h=>
   rename_i k a;simp only [d9] at e;cases q1:S[k]? with
   | none=>rw [q1] at e;cases e
   | some o=>
    rw [q1] at e;cases o with
    | lst ds=>
     obtain ⟨qs,e1,rfl⟩:=um e;obtain ⟨xs,h1,h2⟩:=rp.ats k _ a q1 h;exact .lst (.inl (.inl h1)) (all e1 h2)
    | dct _=>cases e
    | exc _ _=>cases e
def i7 (x y:D):M D:=match x,y with
 | .int i,.int j=>ret (.int (i+j))
 | .str a,.str b=>if a.length+b.length<=sizeLine then ret (.str (a++b)) else bad
 | .tup xs,.tup ys=>if xs.length+ys.length<=sizeLine then ret (.tup (xs++ys)) else bad
 | x,y=>bind (lstOf x) λxs=>bind (lstOf y) λys=>if xs.length+ys.length<=sizeLine then ret (.lst (xs++ys)) else bad
def P1 (x y:D):M D:=match x,y with
 | .int i,.int j=>ret (.int (i-j))
 | _,_=>bad
instance (i j:Int):Decidable (CMul i j):=by unfold CMul;infer_instance
instance (i j:Int):Decidable (qF i j):=by unfold qF;infer_instance
instance (i j:Int):Decidable (vg i j):=by unfold vg;infer_instance
def G3 (x y:D):M D:=match x,y with
 | .int i,.int j=>if 0<j then ret (.int (i % j)) else bad
 | _,_=>bad
def X4 (x y:D):M D:=match x,y with
 | .int i,.int j=>if qF i j then ret (.int (i / j)) else bad
 | _,_=>bad
def uT (x y:D):M D:=match x,y with
 | .int i,.int j=>if vg i j then ret (.int (i ^ j.toNat)) else bad
 | _,_=>bad
def cE (x y:D):M D:=match x,y with
 | .int i,.int j=>if CMul i j then ret (.int (i * j)) else bad
 | .tup ds,.int k=>if (ds≠[]/\1<=k/\k<2 ^ 63)/\ds.length * k.toNat<=sizeLine then ret (.tup (List.replicate k.toNat ds).flatten) else bad
 | x,.int k=>bind (lstOf x) λxs=>if (-(2 ^ 63)<=k/\k<2 ^ 63)/\xs.length * k.toNat<=sizeLine then ret (.lst (List.replicate k.toNat xs).flatten) else bad
 | _,_=>bad
section
variable {X:Cx} {cl:Nat->Addr} {xe:Addr->Hp->Prop}
theorem mm:OpR X (binaryOp .Add) (λx y H Q=>∃ a b ys,x=.ref a/\y=.ref b/\SqT X.K H a []/\SqT X.K H b ys/\Q (.ref b) H):=by
 intro pins s σ H x y v u Q I t z h;obtain ⟨a,b,ys,rfl,rfl,B,C,q⟩:=h;cases t;cases z;obtain ⟨w,p,F,_⟩:=I.tuple B;obtain ⟨d,J,G,_⟩:=I.tuple C;cases p;obtain ⟨⟨r,E,l,D⟩,k,o,n,hd⟩:=id F;obtain ⟨⟨m,g,j,f⟩,c,i,A,e⟩:=id G;subst o hd i e;exact concat_meets ⟨_,k,rfl⟩ ⟨_,c,rfl⟩ Jl JE HU HM (HC _ _)
   (tuple_addW0 a b #[] d.toArray n A E g D f rfl) ⟨k,c,⟨.ref b,H,I,rfl,q⟩⟩
theorem Ch:OpR X (binaryOp .Add) (rP2 X.K cl xe i7):=by
 intro pins s σ H x y v u Q I n o ⟨μ,S,d,e,A,B,c,p⟩;have L:Post X.K cl xe μ H (bind (lstOf d) (λxs=>bind (lstOf e) λys=>if xs.length+ys.length<=sizeLine then ret (.lst (xs++ys)) else bad) S) (λr _ μ' H'=>∀ v,RD X.K μ' H' r v->Q v H')->wpAny (model X.prog X.w) X.A (binaryOp .Add v u) (EP X pins σ Q) X.xe s:=λp=>by
  obtain ⟨a,xs,ds,rfl,q,m,E⟩:=r8 A c p.bind;have p:=p.ok_bind E;obtain ⟨b,ys,es,rfl,t,h,G⟩:=r8 B c p.bind;obtain ⟨k,p⟩:=(p.ok_bind G).guard;refine xb pins s σ H _ _ v u Q I n o ⟨a,b,xs,ys,rfl,rfl,q,t,by rw [<- m.length,<- h.length];exact k,λz hz=>?_⟩;obtain ⟨l,f,g⟩:=B7 c (m.append h) hz;exact p μ _ l f _ g
 cases d <;> cases e <;> try (exact L p)
 case int.int i j=>cases A;cases B;exact xn pins s σ H _ _ v u Q I n o ⟨i,j,rfl,rfl,p μ H (Lat.refl _ _) c _ (.int _)⟩
 case str.str i j=>
  cases A;cases B;obtain ⟨k,p⟩:=Post.guard p;exact gD pins s σ H _ _ v u Q I n o ⟨i,j,rfl,rfl,k,p μ H (Lat.refl _ _) c _ (.str _)⟩
 case tup.tup ds es=>
  obtain ⟨k,p⟩:=Post.guard p;cases A with
  | tup q m=>
   cases B with
   | tup t h=>
    rename_i a xs b ys;cases ds with
    | nil=>
     cases m;exact mm pins s σ H _ _ v u Q I n o ⟨a,b,ys,rfl,rfl,q.sq,t.sq,p μ H (Lat.refl _ _) c _ (.tup t h)⟩
    | cons d ds=>
     cases m with
     | cons D C=>
      rename_i K J;refine sU pins s σ H _ _ v u Q I n o ⟨a,b,_,ys,rfl,rfl,q.sq,t.sq,by simp,by rw [<- h.length];simpa [C.length] using k,λz=>?_,λz w F=>?_⟩
      ·subst z;cases h;rw [FM] at p;exact p μ H (Lat.refl _ _) c _ (.tup q (.cons D C))
      ·obtain ⟨l,f,g⟩:=G8 c ((RDs.cons D C).append h) F;exact p μ _ l f _ g
theorem Ce:OpR X (binaryOp .Sub) (rP2 X.K cl xe P1):=by
 intro pins s σ H x y v u Q I c f ⟨μ,S,d,e,b,a,g,p⟩;cases d <;> cases e <;> try (exact False.elim p)
 case int.int i j=>cases b;cases a;exact yn pins s σ H _ _ v u Q I c f ⟨i,j,rfl,rfl,p μ H (Lat.refl _ _) g _ (.int _)⟩
theorem Av:OpR X (binaryOp .Mod) (rP2 X.K cl xe G3):=by
 intro pins s σ H x y v u Q I f g ⟨μ,S,d,e,c,b,h,p⟩;cases d <;> cases e <;> try (exact False.elim p)
 case int.int i j=>
  cases c;cases b;obtain ⟨a,p⟩:=Post.guard p;exact yG pins s σ H _ _ v u Q I f g ⟨i,j,rfl,rfl,a,p μ H (Lat.refl _ _) h _ (.int _)⟩
theorem zT:OpR X (binaryOp .FloorDiv) (rP2 X.K cl xe X4):=by
 intro pins s σ H x y v u Q I f g ⟨μ,S,d,e,c,b,h,p⟩;cases d <;> cases e <;> try (exact False.elim p)
 case int.int i j=>
  cases c;cases b;obtain ⟨a,p⟩:=Post.guard p;exact sC pins s σ H _ _ v u Q I f g ⟨i,j,rfl,rfl,a,p μ H (Lat.refl _ _) h _ (.int _)⟩
theorem CJ:OpR X (binaryOp .Pow) (rP2 X.K cl xe uT):=by
 intro pins s σ H x y v u Q I f g ⟨μ,S,d,e,c,b,h,p⟩;cases d <;> cases e <;> try (exact False.elim p)
 case int.int i j=>
  cases c;cases b;obtain ⟨a,p⟩:=Post.guard p;exact xx pins s σ H _ _ v u Q I f g ⟨i,j,rfl,rfl,a,p μ H (Lat.refl _ _) h _ (.int _)⟩
theorem BV:OpR X (binaryOp .Mult) (rP2 X.K cl xe cE):=by
 intro pins s σ H x y v u Q I A B ⟨μ,S,d,e,t,n,h,p⟩;have L:∀ k:Int,e=.int k->Post X.K cl xe μ H (bind (lstOf d) (λxs=>if (-(2 ^ 63)<=k/\k<2 ^ 63)/\xs.length * k.toNat<=sizeLine then ret (.lst (List.replicate k.toNat xs).flatten) else bad) S) (λr _ μ' H'=>∀ v,RD X.K μ' H' r v->Q v H')->wpAny (model X.prog X.w) X.A (binaryOp .Mult v u) (EP X pins σ Q) X.xe s:=λk F q=>by
  clear p;subst F;cases n;obtain ⟨a,xs,ds,rfl,m,b,G⟩:=r8 t h q.bind;obtain ⟨⟨⟨o,k2⟩,g⟩,p⟩:=(q.ok_bind G).guard;refine yY pins s σ H _ _ v u Q I A B ⟨a,k,xs,rfl,rfl,m,o,k2,by rw [<- b.length];exact g,λz hz=>?_⟩;obtain ⟨l,c,f⟩:=B7 h (b.rep k.toNat) hz;exact p μ _ l c _ f
 cases d <;> cases e <;> try (exact False.elim p)
 case int.int i j=>
  cases t;cases n;obtain ⟨g,p⟩:=Post.guard p;exact yI pins s σ H _ _ v u Q I A B ⟨i,j,rfl,rfl,g,p μ H (Lat.refl _ _) h _ (.int _)⟩
 case tup.int ds k=>
  cases n;obtain ⟨⟨⟨D,o,k2⟩,g⟩,p⟩:=Post.guard p;cases t with
  | tup m b=>
   rename_i a xs;have C:xs≠[]:=λz=>by subst z;cases b;exact D rfl
   refine sR pins s σ H _ _ v u Q I A B ⟨a,k,xs,rfl,rfl,m.sq,C,o,k2,by rw [<- b.length];exact g,λz=>?_,λz w E=>?_⟩
   ·subst z;have e:(List.replicate (1:Int).toNat ds).flatten=ds:=by simp
    rw [e] at p;exact p μ H (Lat.refl _ _) h _ (.tup m b)
   ·obtain ⟨l,c,f⟩:=G8 h (b.rep k.toNat) E;exact p μ _ l c _ f
 all_goals exact L _ rfl p
end
def eqP (a:Bool) (x y:D):M D:=λS=>match d9 64 S x,d9 64 S y with
 | some p,some q=>(if p.canLay0=true/\q.canLay0=true/\min p.depth q.depth<=60 then ret (.bl (if a then !PyData.eqv p q else PyData.eqv p q)) else bad) S
 | _,_=>.bad
def eqD (c:Bool) (x y:D):M D:=match x,y with
 | .str a,.str b=>ret (.bl (if c then !decide (a=b) else decide (a=b)))
 | .int a,.int b=>ret (.bl (if c then !decide (a=b) else decide (a=b)))
 | x,y=>eqP c x y
def oz (f:Int->Int->Bool) (x y:D):M D:=match x,y with
 | .int i,.int j=>ret (.bl (f i j))
 | _,_=>bad
def Y8 (a:Bool) (d:PyData) (ps:List PyData):M D:=if d.canLay0=true/\PyData.canLayAll0 ps=true/\min (PyData.depthAll ps) d.depth<=60 then ret (.bl (if a then !(ps.any λy=>PyData.eqv y d) else ps.any λy=>PyData.eqv y d)) else bad
def inD (a:Bool) (x y:D):M D:=λS=>match d9 64 S x,d9 64 S y with
 | some d,some (.list ps)=>Y8 a d ps S
 | some d,some (.tuple ps)=>Y8 a d ps S
 | _,_=>.bad
def isD (a:Bool) (x y:D):M D:=match y with
 | .non=>ret (.bl (match x with
  | .non=>!a
  | _=>a))
 | .bl b=>ret (.bl (match x with
  | .bl c=>if a then !(c==b) else c==b
  | _=>a))
 | _=>bad
section
variable {X:Cx} {cl:Nat->Addr} {xe:Addr->Hp->Prop}
theorem Dy (q:X.A.units+64<cLine):OpR X (compareOp .Eq) (rP2 X.K cl xe (eqD false)):=by
 intro pins s σ H x y v u Q I i k ⟨μ,S,d,e,j,l,c,p⟩;have g:Post X.K cl xe μ H (eqP false d e S) (λr _ μ' H'=>∀ v,RD X.K μ' H' r v->Q v H')->wpAny (model X.prog X.w) X.A (compareOp .Eq v u) (EP X pins σ Q) X.xe s:=λp=>by
  simp only [eqP] at p;cases f:d9 64 S d with
  | none=>rw [f] at p;exact p.elim
  | some a=>
   cases h:d9 64 S e with
   | none=>rw [f,h] at p;exact p.elim
   | some b=>
    rw [f,h] at p;obtain ⟨⟨m,n,o⟩,p⟩:=Post.guard p;exact yT q pins s σ H _ _ v u Q I i k ⟨a,b,u7 c 64 f j,u7 c 64 h l,m,n,o,p μ H (Lat.refl _ _) c _ (.bl _)⟩
 cases d <;> cases e <;> try (exact g p)
 case str.str a b=>
  cases j;cases l;exact Bv pins s σ H _ _ v u Q I i k ⟨rfl,by rw [show decide (V.str a=V.str b)=decide (a=b) by rw [Hc];simp];exact p μ H (Lat.refl _ _) c _ (.bl _)⟩
theorem DV (q:X.A.units+64<cLine):OpR X (compareOp .NotEq) (rP2 X.K cl xe (eqD true)):=by
 intro pins s σ H x y v u Q I i k ⟨μ,S,d,e,j,l,c,p⟩;have g:Post X.K cl xe μ H (eqP true d e S) (λr _ μ' H'=>∀ v,RD X.K μ' H' r v->Q v H')->wpAny (model X.prog X.w) X.A (compareOp .NotEq v u) (EP X pins σ Q) X.xe s:=λp=>by
  simp only [eqP] at p;cases f:d9 64 S d with
  | none=>rw [f] at p;exact p.elim
  | some a=>
   cases h:d9 64 S e with
   | none=>rw [f,h] at p;exact p.elim
   | some b=>
    rw [f,h] at p;obtain ⟨⟨m,n,o⟩,p⟩:=Post.guard p;exact xa q pins s σ H _ _ v u Q I i k ⟨a,b,u7 c 64 f j,u7 c 64 h l,m,n,o,p μ H (Lat.refl _ _) c _ (.bl _)⟩
 cases d <;> cases e <;> try (exact g p)
 case str.str a b=>
  cases j;cases l;exact CQ pins s σ H _ _ v u Q I i k ⟨rfl,by rw [show decide (V.str a=V.str b)=decide (a=b) by rw [Hc];simp];exact p μ H (Lat.refl _ _) c _ (.bl _)⟩
theorem jK (h:OpR X (compareOp op) (rI0 λi j=>.bl (f i j))):OpR X (compareOp op) (rP2 X.K cl xe (oz f)):=by
 intro pins s σ H x y v u Q I b g ⟨μ,S,d,e,c,k,a,p⟩;cases d <;> cases e <;> try (exact False.elim p)
 case int.int i j=>cases c;cases k;exact h pins s σ H _ _ v u Q I b g ⟨i,j,rfl,rfl,p μ H (Lat.refl _ _) a _ (.bl _)⟩
theorem cu {a:Bool} (o:X.A.units+80<cLine) {pins:List (Addr×Obj)} {s:Shared} {σ:L2.St} {H:Hp} {x y:V} {v u:Value} {Q:VK} {d:PyData} {ps:List PyData} (I:Inv X pins σ H s) (l:RelV x v) (j:RelV y u)
  (hd:DAt X.K H x d) (f:DAt X.K H y (.list ps)\/DAt X.K H y (.tuple ps)) (c:d.canLay0=true/\PyData.canLayAll0 ps=true/\min (PyData.depthAll ps) d.depth<=60)
  (q:Q (.bl (if a then !(ps.any λy=>PyData.eqv y d) else ps.any λy=>PyData.eqv y d)) H):wpAny (model X.prog X.w) X.A (compareOp (if a then .NotIn else .In) v u) (EP X pins σ Q) X.xe s:=by
 obtain ⟨h,i,n⟩:=c;obtain ⟨m,g⟩:=hd.reads I l;have b:X.A.units+1+min (PyData.depthAll ps) d.depth<cLine:=by omega
 rcases f with f | f
 ·obtain ⟨k,e⟩:=f.reads I j;cases a with
  | false=>exact SeqAt.in_list_reads e g i h b ⟨.bl _,H,I,rfl,q⟩
  | true=>exact SeqAt.notIn_list_reads e g i h b ⟨.bl _,H,I,rfl,q⟩
 ·obtain ⟨k,e⟩:=f.reads I j;cases a with
  | false=>exact SeqAt.in_tuple_reads e g i h b ⟨.bl _,H,I,rfl,q⟩
  | true=>exact SeqAt.notIn_tuple_reads e g i h b ⟨.bl _,H,I,rfl,q⟩
theorem AQ (neg:Bool) (hu:X.A.units+80<cLine):OpR X (compareOp (if neg then .NotIn else .In)) (rP2 X.K cl xe (inD neg)):=by
 intro pins s σ H x y v u Q I rx ry ⟨μ,S,d,e,rd,re,rp,p⟩;simp only [inD] at p;cases e1:d9 64 S d with
 | none=>rw [e1] at p;exact p.elim
 | some a=>
  cases e2:d9 64 S e with
  | none=>rw [e1,e2] at p;exact p.elim
  | some b=>
   rw [e1,e2] at p;have ha:=u7 rp 64 e1 rd;have hb:=u7 rp 64 e2 re;cases b with
   | list ps=>obtain ⟨c,p⟩:=Post.guard p;exact cu hu I rx ry ha (.inl hb) c (p μ H (Lat.refl _ _) rp _ (.bl _))
   | tuple ps=>obtain ⟨c,p⟩:=Post.guard p;exact cu hu I rx ry ha (.inr hb) c (p μ H (Lat.refl _ _) rp _ (.bl _))
   | _=>exact p.elim
theorem zG (f:Bool):OpR X (compareOp (if f then .IsNot else .Is)) (rP2 X.K cl xe (isD f)):=by
 intro pins s σ H x y v u Q I a i ⟨μ,S,d,e,h,k,j,p⟩;have g:∀ b:Bool,(∀ μ' H',Lat μ H μ' H'->Rep X.K cl μ' S H'->∀ v,RD X.K μ' H' (.bl b) v->Q v H')->∀ c,c=b->EP X pins σ Q (.bool c) s:=λb p c e=>⟨.bl b,H,I,by rw [e];rfl,p μ H (Lat.refl _ _) j _ (.bl _)⟩;cases k <;> try (exact False.elim p)
 case non=>
  cases i;cases f with
  | false=>
   refine is_none_gen (g _ p _ ?_);cases h <;> first
    | (cases a;rfl)
    | (obtain ⟨t,rfl⟩:=a;rfl)
  | true=>
   refine isnot_none_gen (g _ p _ ?_);cases h <;> first
    | (cases a;rfl)
    | (obtain ⟨t,rfl⟩:=a;rfl)
 case bl b=>
  cases i;cases f with
  | false=>
   refine wpAny_is_plain ?_ (g _ p _ ?_)
   ·cases h <;> first
    | (cases a;rfl)
    | (obtain ⟨t,rfl⟩:=a;rfl)
   ·cases h <;> first
    | (cases a;rfl)
    | (obtain ⟨t,rfl⟩:=a;rfl)
    | (cases a;(rename_i c;cases c <;> cases b <;> rfl))
  | true=>
   refine wpAny_isNot_plain ?_ (g _ p _ ?_)
   ·cases h <;> first
    | (cases a;rfl)
    | (obtain ⟨t,rfl⟩:=a;rfl)
   ·cases h <;> first
    | (cases a;rfl)
    | (obtain ⟨t,rfl⟩:=a;rfl)
    | (cases a;(rename_i c;cases c <;> cases b <;> rfl))
end
def O2:D->Option Key
 | .int i=>some (.inl i)
 | .str x=>some (.inr x)
 | _=>none
def rH {κ:Type} [DecidableEq κ] (a:List (κ×D)) (k:κ):Option D:=(a.find? λb=>decide (b.1=k)).map (·.2)
def mG {κ:Type} [DecidableEq κ] (a:List (κ×D)) (k:κ) (v:D):List (κ×D):=if a.any (λb=>decide (b.1=k)) then a.map (λb=>if b.1=k then (b.1,v) else b) else a++[(k,v)]
def dL {b:Type}:Option b->M b
 | some a=>ret a
 | none=>bad
def ixD (x y:D):M D:=match x with
 | .ref n=>λS=>match S[n]? with
  | some (.lst ds)=>(match y with
   | .int i=>dL (atI ds i)
   | _=>bad) S
  | some (.dct a)=>dL ((O2 y).bind (rH a)) S
  | _=>.bad
 | x=>match y with
  | .int i=>bind (B1 x) λds=>dL (atI ds i)
  | _=>bad
theorem xE {K:PySem.W.Frag} {μ:Mp} {H:Hp} {ds:List D} {xs:List V} {i:Int} {d:D} (r:RDs K μ H ds xs) (e:atI ds i=some d):∃ v,atI xs i=some v/\RD K μ H d v:=by
 unfold atI at e ⊢;rw [<- r.length];cases q:ixN ds.length i with
 | none=>rw [q] at e;cases e
 | some j=>rw [q] at e;exact r.get e
theorem jd {K:PySem.W.Frag} {cl:Nat->Addr} {xe:Addr->Hp->Prop} {μ:Mp} {H:Hp} {S:Sto} {b:Type} {o:Option b} {G:b->Sto->Mp->Hp->Prop} (p:Post K cl xe μ H (dL o S) G):∃ a,o=some a/\∀ μ' H',Lat μ H μ' H'->Rep K cl μ' S H'->G a S μ' H':=by
 cases o with
 | none=>exact p.elim
 | some a=>exact ⟨a,rfl,p⟩
theorem kG {K:PySem.W.Frag} {μ:Mp} {H:Hp} {k:Key} {d:D}:∀ {a:List (Key×D)} {f:List (Key×V)},KvsAt K μ H a f->rH a k=some d->∃ v,Y5 f k=some v/\RD K μ H d v
 | _,_,.nil,e=>by simp [rH] at e
 | p :: r,q :: j,.cons ⟨c,i⟩ t,e=>by
  unfold rH at e;rw [GL] at e;by_cases b:p.1=k
  ·simp only [b,decide_true] at e;cases e;exact ⟨q.2,R4 (c▸b),i⟩
  ·simp only [b,decide_false] at e;obtain ⟨v,g,h⟩:=kG t e;exact ⟨v,by rw [R1 (c▸b)];exact g,h⟩
theorem bJ {K:PySem.W.Frag} {μ:Mp} {H:Hp} {y:D} {v:V} {k:Key} (r:RD K μ H y v) (e:O2 y=some k):v=kV k:=by
 cases r <;> simp only [O2] at e <;> first | (cases e;rfl) | cases e
section
variable {X:Cx} {cl:Nat->Addr} {xe:Addr->Hp->Prop}
theorem sQ (o:X.A.units+1<cLine):IxR X (λx y H Q=>∃ a v,x=.ref a/\DGet H a y (some v)/\Q v H):=by
 intro d c pins s σ H x y v u Q I m n h hs;obtain ⟨a,w,rfl,g,q⟩:=h;cases m;have k:=eK I g;have i:wpAny (model X.prog X.w) X.A (getItem (.ref a) u) (EP X pins σ Q) X.xe s:=kY o I g n λw' p l j=>⟨w,H,l,j,q⟩;refine Ej ?_;rw [getitemInPython_of_ne k.not_modules];refine Ej (wpAny_specialOf k PySem.F.slot_dict_getitem.lookup ?_);have e:wpAny (model X.prog X.w) X.A (subscripted c false (.ref a) u) (λr b=>wpAny (model X.prog X.w) X.A (letTemporaryGo d (.ref a) r >>= λ_=>pure r) (EP X pins σ Q) X.xe b) X.xe s:=by
  rw [hs];exact wpAny_operating (FI i (λr b f=>Ej (wpAny_letTemporaryGo (Ek f))) λ_ _ x=>x)
 first
  | exact Ek (Ej e)
  | exact Ej (Ek (Ej e))
  | exact Ej e
theorem Dd (hu:X.A.units+1<cLine):IxR X (rP2 X.K cl xe ixD):=by
 intro value slice pins s σ H x y v u Q I rx ry ⟨μ,S,d,e,rd,re,rp,p⟩ hs;have sq:∀ {a:Addr} {xs:List V} {ds:List D} {i:Int},(SqL X.K H a xs\/SqT X.K H a xs)->RDs X.K μ H ds xs->x=.ref a->e=.int i->Post X.K cl xe μ H (dL (atI ds i) S) (λr _ μ' H'=>∀ v,RD X.K μ' H' r v->Q v H') ->
   wpAny (model X.prog X.w) X.A (subscriptTail value slice v u) (EP X pins σ Q) X.xe s:=λ{a xs ds i} hq r hx he q=>by
  clear p;subst hx he;cases re;obtain ⟨z,e1,q⟩:=jd q;obtain ⟨w,e2,rw'⟩:=xE r e1;rcases hq with hq | hq
  ·exact vc value slice pins s σ H _ _ v u Q I rx ry ⟨a,xs,i,w,rfl,rfl,hq,e2,q μ H (Lat.refl _ _) rp _ rw'⟩ hs
  ·exact AB value slice pins s σ H _ _ v u Q I rx ry ⟨a,xs,i,w,rfl,rfl,hq,e2,q μ H (Lat.refl _ _) rp _ rw'⟩ hs
 cases rd with
 | tup h r=>
  cases e <;> first | exact False.elim p | exact sq (.inr h.sq) r rfl rfl p
 | lst h r=>
  cases e <;> first | exact False.elim p | exact sq (.inl h.sq) r rfl rfl p
 | scr h r=>
  cases e <;> first | exact False.elim p | exact sq (.inl h.sq) r rfl rfl p
 | ref h=>
  rename_i n a;simp only [ixD] at p;cases q1:S[n]? with
  | none=>rw [q1] at p;exact p.elim
  | some o=>
   rw [q1] at p;cases o with
   | lst ds=>
    obtain ⟨xs,h1,h2⟩:=rp.ats n _ a q1 h;cases e <;> first | exact False.elim p | exact sq (.inl (.inl (.inl h1))) h2 rfl rfl p
   | dct kvs=>
    obtain ⟨ks,h1,h2⟩:=rp.ats n _ a q1 h;obtain ⟨z,e1,p⟩:=jd p;cases e2:O2 e with
    | none=>grind
    | some k=>
     rw [e2] at e1;obtain ⟨w,e3,r3⟩:=kG h2 e1;have hy:=bJ re e2;subst hy;exact sQ hu value slice pins s σ H _ _ v u Q I rx ry ⟨a,w,rfl,by rw [<- e3];exact DGet.k h1,p μ H (Lat.refl _ _) rp _ r3⟩ hs
   | exc _ _=>exact p.elim
 | _=>cases e <;> exact False.elim p
def v5 (ds:List D) (lo a:Option Int):List D:=(ds.drop (HT.sIx ds.length 0 lo)).take (HT.sIx ds.length ds.length a-HT.sIx ds.length 0 lo)
theorem ow {K:PySem.W.Frag} {μ:Mp} {H:Hp} {ds:List D} {xs:List V} (r:RDs K μ H ds xs) (lo a:Option Int):RDs K μ H (v5 ds lo a) (lW xs lo a):=by
 unfold v5 lW;rw [<- r.length];exact (r.drop _).take _
def slD (x:D) (lo a:Option Int):M D:=match x with
 | .tup ds=>ret (.tup (v5 ds lo a))
 | x=>bind (match x with
  | .scr ds=>ret ds
  | x=>lstOf x) λds=>ret (.lst (v5 ds lo a))
end
def noStar:Expr->Bool
 | .Starred ..=>false
 | _=>true
def p7:Expr->Bool
 | .ListComp ..=>false
 | .SetComp ..=>false
 | .DictComp ..=>false
 | _=>true
def F8:Expr->Bool
 | .Slice ..=>false
 | _=>true
def v9:Expr->Bool
 | .Set ..=>false
 | _=>true
def A4:Expr->Bool
 | .Call (.Name _ _) [] [] _=>false
 | _=>true
def D8:Expr->Bool
 | .UnaryOp .Not _ _=>false
 | .BoolOp ..=>false
 | .IfExp ..=>false
 | .Compare ..=>false
 | _=>true
theorem c7 (h:noStar e=true):starEach (e :: es) env=(false,eval e env) :: starEach es env:=by
 cases e <;> first | rfl | (exact absurd h (by simp [noStar]))
theorem j1:∀ {es:List Expr} {a:PySem.Env} {pos:Pos},es.all noStar=true->(backTo pos (starEach es a)).any (·.1)=false
 | [],_,_,_=>rfl
 | e :: es,a,pos,h=>by
  rw [FV,Ep] at h;rw [c7 h.1];show (false||(backTo pos (starEach es a)).any (·.1))=false;rw [j1 h.2];rfl
theorem ab:∀ {es:List Expr} {a:PySem.Env} {pos:Pos},es.all noStar=true->(backTo pos (starEach es a)).all (λx=>!x.1)=true
 | [],_,_,_=>rfl
 | e :: es,a,pos,h=>by
  rw [FV,Ep] at h;rw [c7 h.1];show (!false&&(backTo pos (starEach es a)).all (λx=>!x.1))=true;rw [ab h.2];rfl
theorem E4 (h:p7 e=true):swapsWith e t n env=pure false:=by
 cases e <;> first | rfl | (exact absurd h (by simp [p7]))
theorem iE (h:F8 e=true):dg e:=by
 intro o i;cases e <;> first | rfl | (exact absurd h (by simp [F8]))
theorem X1 {e:Expr} (h:v9 e=true):behindInMarks op e=false:=by
 cases e <;> first | rfl | (exact absurd h (by simp [v9]))
theorem A5 (h:v9 e=true):∀ x,foldedSetIterable e env x=pure x:=by
 intro x;cases e <;> first | rfl | (exact absurd h (by simp [v9]))
theorem N1 (h:A4 o=true):attributeBase o f env (eval o env)=eval o env:=by
 unfold attributeBase;split
 ·exact absurd h (by simp [A4])
 ·rfl
theorem test_of (h:D8 e=true):∀ a,isTrue e env a=(do let v <- a;standAt e.pos;holding [v] (truthy v)):=by
 intro a;cases e <;> first
  | rfl
  | (rename_i op _ _;cases op <;> first | rfl | (exact absurd h (by simp [D8])))
  | (exact absurd h (by simp [D8]))
section
variable {X:Cx} {cl:Nat->Addr} {xe:Addr->Hp->Prop} {e:Expr} {es:List Expr} {pos:Pos} {f:Env->M D} {fs:Env->M (List D)}
theorem sL:PA X [] (tDs X.K cl xe λ_=>ret []):=PA.imp B0 λσ H Q ⟨μ,S,ρ,b,a,p⟩=>p.ret μ H (Lat.refl _ _) a [] .nil
theorem nq (h:PE X e (tD X.K cl xe f)) (hs:PA X es (tDs X.K cl xe fs)) (m:noStar e=true):PA X (e :: es) (tDs X.K cl xe λρ=>bind (f ρ) λd=>bind (fs ρ) λds=>ret (d :: ds)):=
 PA.imp (i5 h hs (c7 m)) λσ H Q ⟨μ,S,ρ,c,l,p⟩=>
  ⟨μ,S,ρ,c,l,p.bind.imp λd S1 b s q r i v g=>⟨b,S1,ρ,c.later q,r,i.bind.imp λds S2 μ2 j o n k vs a=>k.ret μ2 j (Lat.refl _ _) n _ (.cons (g.later o) a)⟩⟩
def yB (ds:List D):M D:=if ds.length<=sizeLine then ret (.tup ds) else bad
def zJ (ds:List D):M D:=if ds.length<=sizeLine then ret (.lst ds) else bad
theorem yR (h:PA X es (tDs X.K cl xe fs)):PE X (.Tuple es k pos) (tD X.K cl xe λρ=>bind (fs ρ) yB):=PE.imp (ny h) λσ H Q ⟨μ,S,ρ,i,g,p⟩=>
 ⟨μ,S,ρ,i,g,p.bind.imp λds S1 e m n j c vs a=>by
  obtain ⟨f,c⟩:=Post.guard c;refine ⟨by rw [<- a.length];exact f,λz hz=>?_⟩;obtain ⟨l,b,d⟩:=G8 j a hz;exact c e _ l b _ d⟩
theorem zM (h:PA X es (tDs X.K cl xe fs)):PE X (.List es pos) (tD X.K cl xe λρ=>bind (fs ρ) zJ):=PE.imp (oN h) λσ H Q ⟨μ,S,ρ,i,g,p⟩=>
 ⟨μ,S,ρ,i,g,p.bind.imp λds S1 e k m j c vs a=>by
  obtain ⟨f,c⟩:=Post.guard c;refine ⟨by rw [<- a.length];exact f,λz hz=>?_⟩;obtain ⟨l,b,d⟩:=B7 j a hz;exact c e _ l b _ d⟩
def newL (ds:List D):M D:=λS=>if ds.length<=sizeLine then .ok (.ref S.length) (S++[.lst ds]) else .bad
theorem vT (h:PA X es (tDs X.K cl xe fs)):PE X (.List es pos) (tD X.K cl xe λρ=>bind (fs ρ) newL):=PE.imp (oN h) λσ H Q ⟨μ,S,ρ,i,g,p⟩=>
 ⟨μ,S,ρ,i,g,p.bind.imp λds S1 f k m j a vs b=>by
  unfold newL at a;by_cases e:ds.length<=sizeLine
  ·rw [if_pos e] at a;refine ⟨by rw [<- b.length];exact e,λz hz=>?_⟩;obtain ⟨l,c,d⟩:=ky j b hz;exact a _ _ l c _ d
  ·rw [if_neg e] at a;exact a.elim⟩
def gX (E:XK):Addr->Hp->Prop:=λa H=>E (.ref a) none H
def spD (K:PySem.W.Frag) (cl:Nat->Addr) (n:Nat) (a:List D->M D):Sp:=λvs H Q E=>vs.length=n/\∃ μ S ds,RDs K μ H ds vs/\Rep K cl μ S H/\Post K cl (gX E0) μ H (a ds S) λd _ μ' H'=>∀ v,RD K μ' H' d v->Q v H'
theorem wA {k n:Nat} {a:Addr} {fd:FuncData} {ps:List Str} {E:XK} {x:Str} {p:Pos} {c:List D->M D} (w:ps.length=n) (F:FnOk X.prog X.w X.K X.mg X.base CX k a fd ps (spD X.K cl n c)) (o:Room CX.q k X.A) (j:Gl X x) (r:X.mg x=some (.ref a)) (m:PySem.W.keepIn X.K (.ref a)=true) (q:Binds X.K fd ps []) (s:y7 CX X E)
  (t:PA X (e :: es) (tDs X.K cl (gX E0) fs)) (f:(x==("__debug__" : Str))=false) (hs:(e :: es).all noStar=true) (u:(e :: es).length=n) :
  PE X (.Call (.Name x p) (e :: es) [] pos) (tD X.K cl (gX E0) λρ=>bind (fs ρ) λds=>if ds.length=n then c ds else bad):=by
 rw [FV,Ep] at hs;exact PE.imp (jG F o j r m q .nil s t f (c7 hs.1) (j1 hs.2)) λσ H Q ⟨μ,S,ρ,h,l,p⟩=>
  ⟨μ,S,ρ,h,l,p.bind.imp λds S1 g v y i d vs b=>by
   by_cases hd:ds.length=n
   ·rw [if_pos hd] at d;exact ⟨by rw [FM,<- b.length];exact hd,g,S1,ds,by rw [FM];exact b,i,d⟩
   ·rw [if_neg hd] at d;exact d.elim⟩
theorem oj {id:String} {x:Str} {p:Pos} (d:i9 X (.builtin id) (rPs X.K cl xe g)) (o:Gl X x) (k:X.mg x=none) (h:bootBuiltins x=some (.builtin id)) (m:PA X (e :: es) (tDs X.K cl xe fs)) (j:x ≠ "__name__") (c:(x==("__debug__" : Str))=false) (hs:(e :: es).all noStar=true) :
  PE X (.Call (.Name x p) (e :: es) [] pos) (tD X.K cl xe λρ=>bind (fs ρ) g):=by
 rw [FV,Ep] at hs;exact PE.imp (R8 d o k h m j c (c7 hs.1) (j1 hs.2)) λσ H Q ⟨μ,S,ρ,l,i,p⟩=>⟨μ,S,ρ,l,i,p.bind.imp λds S1 b q r n f vs a=>⟨b,S1,ds,a,n,f⟩⟩
theorem pX {T:String} {x:Str} {p:Pos} (d:i9 X (.type T) (rPs X.K cl xe g)) (o:Gl X x) (k:X.mg x=none) (h:bootBuiltins x=some (.type T)) (m:PA X (e :: es) (tDs X.K cl xe fs)) (j:x ≠ "__name__") (c:(x==("__debug__" : Str))=false) (hs:(e :: es).all noStar=true) :
  PE X (.Call (.Name x p) (e :: es) [] pos) (tD X.K cl xe λρ=>bind (fs ρ) g):=by
 rw [FV,Ep] at hs;exact PE.imp (lz d o k h m j c (c7 hs.1) (j1 hs.2)) λσ H Q ⟨μ,S,ρ,l,i,p⟩=>⟨μ,S,ρ,l,i,p.bind.imp λds S1 b q r n f vs a=>⟨b,S1,ds,a,n,f⟩⟩
end
def one (g:D->M D) (ds:List D):M D:=match ds with
 | [d]=>g d
 | _=>bad
def p8 (d:D):M D:=match d with
 | .str x=>if x.length<=sizeLine then ret (.int x.length) else bad
 | .ref n=>λS=>match S[n]? with
  | some (.lst ds)=>.ok (.int ds.length) S
  | some (.dct a)=>.ok (.int a.length) S
  | _=>.bad
 | d=>bind (B1 d) λds=>ret (.int ds.length)
def u6 (d:D):M D:=match d with
 | .tup ds=>ret (.tup ds)
 | d=>bind (B1 d) λds=>ret (.tup ds)
def fZ (d:D):M D:=bind (B1 d) λds=>ret (.lst ds)
instance (p:PyData):Decidable (Shows p):=decidable_of_iff (p.showable=true/\p.hasDict=false/\p.depth<=60/\p.shown.length<=sizeLine) ⟨λ⟨a,b,c,d⟩=>⟨a,b,c,d⟩,λ⟨a,b,c,d⟩=>⟨a,b,c,d⟩⟩
def bV (d:D):M D:=λS=>match d9 64 S d with
 | some p=>(if Shows p then ret (.str p.shown) else bad) S
 | none=>.bad
theorem lB {K:PySem.W.Frag} {μ:Mp} {H:Hp} {d:D} {vs:List V} (r:RDs K μ H [d] vs):∃ v,vs=[v]/\RD K μ H d v:=by
 cases r with
 | cons h t=>cases t;exact ⟨_,rfl,h⟩
section
variable {X:Cx} {cl:Nat->Addr} {xe:Addr->Hp->Prop}
theorem J6 (h:∀ (pins:List (Addr×Obj)) (s:Shared) (σ:L2.St) (H:Hp) (μ:Mp) (S:Sto) (d:D) (v:V) (us:List Value) (Q:VK),L2.Inv X pins σ H s->Vals [v] us->RD X.K μ H d v->Rep X.K cl μ S H->Post X.K cl xe μ H (g d S) (λr _ μ' H'=>∀ v,RD X.K μ' H' r v->Q v H') ->
  wpAny (model X.prog X.w) X.A (call f us) (EP X pins σ Q) X.xe s):i9 X f (rPs X.K cl xe (one g)):=by
 intro pins s σ H xs us Q I r ⟨μ,S,ds,a,c,p⟩
 match ds,p with
 | [d],p=>
  obtain ⟨v,rfl,b⟩:=lB a;exact h pins s σ H μ S d v us Q I r b c p
 | [],p=>exact p.elim
 | _ :: _ :: _,p=>exact p.elim
theorem BD:i9 X (.builtin "len") (rPs X.K cl xe (one p8)):=J6 λpins s σ H μ S d v us Q I r rd rp p=>by
 have sq:∀ {a:Addr} {xs:List V} {ds:List D},(SqL X.K H a xs\/SqT X.K H a xs)->RDs X.K μ H ds xs->v=.ref a->(∀ μ' H',Lat μ H μ' H'->Rep X.K cl μ' S H'->∀ w,RD X.K μ' H' (.int ds.length) w->Q w H')->wpAny (model X.prog X.w) X.A (call (.builtin "len") us) (EP X pins σ Q) X.xe s:=λ{a xs ds} hq r2 hv q=>by
  subst hv;exact dI pins s σ H _ us Q I r ⟨a,xs,rfl,hq,by rw [<- r2.length];exact q μ H (Lat.refl _ _) rp _ (.int _)⟩
 cases rd with
 | str x=>
  obtain ⟨hl,p⟩:=Post.guard p;exact dj pins s σ H _ us Q I r ⟨x,rfl,hl,p μ H (Lat.refl _ _) rp _ (.int _)⟩
 | tup h r2=>exact sq (.inr h.sq) r2 rfl p
 | lst h r2=>exact sq (.inl h.sq) r2 rfl p
 | scr h r2=>exact sq (.inl h.sq) r2 rfl p
 | ref h=>
  rename_i n a;simp only [p8] at p;cases q1:S[n]? with
  | none=>rw [q1] at p;exact p.elim
  | some o=>
   rw [q1] at p;cases o with
   | lst ds=>
    obtain ⟨xs,h1,h2⟩:=rp.ats n _ a q1 h;exact sq (.inl (.inl (.inl h1))) h2 rfl p
   | dct kvs=>
    obtain ⟨ks,h1,h2⟩:=rp.ats n _ a q1 h;have hl:=Paired.length h2;exact ke pins s σ H _ us Q I r ⟨a,ks,rfl,h1,by rw [<- hl];exact p μ H (Lat.refl _ _) rp _ (.int _)⟩
   | exc _ _=>exact p.elim
 | _=>exact False.elim p
theorem vB:i9 X (.type "tuple") (rPs X.K cl xe (one u6)):=J6 λpins s σ H μ S d v us Q I r rd rp p=>by
 have sq:∀ {a:Addr} {xs:List V} {ds:List D},SqL X.K H a xs->RDs X.K μ H ds xs->v=.ref a->(∀ μ' H',Lat μ H μ' H'->Rep X.K cl μ' S H'->∀ w,RD X.K μ' H' (.tup ds) w->Q w H')->wpAny (model X.prog X.w) X.A (call (.type "tuple") us) (EP X pins σ Q) X.xe s:=λ{a xs ds} hq r2 hv q=>by
  subst hv;refine O6 pins s σ H _ us Q I r ⟨a,xs,rfl,.inl ⟨hq,λz hz=>?_⟩⟩;obtain ⟨l,rp2,rd2⟩:=G8 rp r2 hz;exact q μ _ l rp2 _ rd2
 cases rd with
 | tup h r2=>exact O6 pins s σ H _ us Q I r ⟨_,_,rfl,.inr ⟨h.sq,p μ H (Lat.refl _ _) rp _ (.tup h r2)⟩⟩
 | lst h r2=>exact sq h.sq r2 rfl p
 | scr h r2=>exact sq h.sq r2 rfl p
 | ref h=>
  rename_i n a0;have p2:=p;obtain ⟨a,xs,ds,e1,h1,h2,e2⟩:=r8 (.ref h) rp p2.bind;exact sq (.inl (.inl h1)) h2 e1 (p2.ok_bind e2)
 | _=>exact False.elim p
theorem xk:i9 X (.type "list") (rPs X.K cl xe (one fZ)):=J6 λpins s σ H μ S d v us Q I r f e p=>by
 obtain ⟨a,xs,ds,rfl,h,i,g⟩:=Q0 f e p.bind;refine dJ pins s σ H _ us Q I r ⟨a,xs,rfl,h,λz hz=>?_⟩;obtain ⟨l,b,c⟩:=B7 e i hz;exact (p.ok_bind g) μ _ l b _ c
theorem zN (e:X.A.guards=some []) (f:X.A.units+64<cLine):i9 X (.builtin "repr") (rPs X.K cl xe (one bV)):=J6 λpins s σ H μ S d v us Q I r c b p=>by
 simp only [bV] at p;cases a:d9 64 S d with
 | none=>rw [a] at p;exact p.elim
 | some q=>
  rw [a] at p;obtain ⟨hs,p⟩:=Post.guard p;exact mK e f pins s σ H _ us Q I r ⟨v,q,rfl,u7 b 64 a c,hs,p μ H (Lat.refl _ _) b _ (.str _)⟩
end
def Mp.free (μ:Mp):Mp:=⟨μ.pl,μ.rs.tail⟩
section
variable {K:PySem.W.Frag} {cl:Nat->Addr} {xe:Addr->Hp->Prop} {μ μ2:Mp} {S S2:Sto} {H H2:Hp} {p:Addr} {o:HO}
theorem uZ (i:Rep K cl μ S H) (h:H p=none):(∀ {d:D} {v:V},RD K μ H d v->RD K (μ.hold p) (upd H p o) d v)/\∀ {ds:List D} {vs:List V},RDs K μ H ds vs->RDs K (μ.hold p) (upd H p o) ds vs:=by
 have c:∀ a u,H a=some u->a∉μ.pl->a∉μ.rs->upd H p o a=some u/\a∉(μ.hold p).pl/\a∉(μ.hold p).rs:=λa u e f g=>by
  have b:=b8 e h;exact ⟨by rw [a8 b];exact e,f,λz=>(Ez.mp z).elim b g⟩
 exact ⟨λr=>r.move (μ:=μ) (μ':=μ.hold p) (λ_ _ e=>e) c,λr=>r.move (μ:=μ) (μ':=μ.hold p) (λ_ _ e=>e) c⟩
theorem Q1 (c:Rep K cl μ S H) (b:H p=none):Rep K cl (μ.hold p) S (upd H p o):=by
 have j:∀ a u,H a=some u->a∉μ.pl->a∉μ.rs->upd H p o a=some u/\a∉(μ.hold p).pl/\a∉(μ.hold p).rs:=λa u e g h=>by
  have d:=b8 e b;exact ⟨by rw [a8 d];exact e,g,λz=>(Ez.mp z).elim d h⟩
 refine c.move (λa m=>?_) rfl (λa m=>a8 λz=>c.notin b (z▸m)) (λa u e=>by rw [a8 (b8 e b)];exact e) j;rcases Ez.mp (m) with rfl | m
 ·exact ⟨c.notin b,o,b6⟩
 ·obtain ⟨i,u,f⟩:=c.res a m;exact ⟨i,u,by rw [a8 (b8 f b)];exact f⟩
theorem T9 (b:Rep K cl μ S H) (c:H p=none) (a:EnvOk K μ H ρ σ):EnvOk K (μ.hold p) (upd H p o) ρ σ:=⟨a.1,λi d e=>let ⟨v,q,r⟩:=a.2 i d e;⟨v,q,(uZ b c).1 r⟩⟩
theorem fL (r:RDs K μ H ds vs):RDs K μ.free H ds vs:=r.move (μ:=μ) (μ':=μ.free) (λ_ _ e=>e) λa u e b c=>⟨e,b,λz=>c (Ip z)⟩
theorem aS (b:Rep K cl μ S H):Rep K cl μ.free S H:=b.move (λa m=>b.res a (Ip m)) rfl (λ_ _=>rfl) (λ_ _ e=>e) λa u e c d=>⟨e,c,λz=>d (Ip z)⟩
theorem W6 (e:μ.rs=p :: rs) (r:RDs K μ H ds vs):RDs K μ (upd H p o) ds vs:=r.move (λ_ _ e=>e) λa u q c b=>⟨by rw [a8 (λz=>b (by rw [e,z];exact Fe))];exact q,c,b⟩
theorem aW (e:μ.rs=p :: rs) (r:RD K μ H d v):RD K μ (upd H p o) d v:=r.move (λ_ _ e=>e) λa u q c b=>⟨by rw [a8 (λz=>b (by rw [e,z];exact Fe))];exact q,c,b⟩
theorem W9 (e:μ.rs=p :: rs) (h:H p=some (.lst xs)) (b:Rep K cl μ S H):Rep K cl μ S (upd H p o):=by
 have g:=(b.res p (by rw [e];exact Fe)).1;refine b.move (λa m=>?_) rfl (λa m=>a8 λz=>g (z▸m)) (λa u q=>by rw [a8 (jR q h (by intro z;cases z))];exact q) λa u q f c=>⟨by rw [a8 (λz=>c (by rw [e,z];exact Fe))];exact q,f,c⟩;obtain ⟨d,u,i⟩:=b.res a m;by_cases z:a=p
 ·subst z;exact ⟨d,o,b6⟩
 ·exact ⟨d,u,by rw [a8 z];exact i⟩
end
inductive Fl where
 | nx (ρ:Env) | rt (d:D) | bk (ρ:Env) | ct (ρ:Env)
def FlOk (K:PySem.W.Frag) (D:Ends) (a:Fl) (μ:Mp) (H:Hp):Prop:=match a with
 | .nx ρ=>∀ σ,EnvOk K μ H ρ σ->D.nx σ H
 | .rt d=>∀ v,RD K μ H d v->D.rt v H
 | .bk ρ=>∀ σ,EnvOk K μ H ρ σ->D.bk σ H
 | .ct ρ=>∀ σ,EnvOk K μ H ρ σ->D.ct σ H
def sD (K:PySem.W.Frag) (cl:Nat->Addr) (xe:Addr->Hp->Prop) (f:Env->M Fl):TS:=λD σ H=>∃ μ S ρ,EnvOk K μ H ρ σ/\Rep K cl μ S H/\Post K cl xe μ H (f ρ S) λa _ μ' H'=>FlOk K D a μ' H'
def BA (f g:Env->M Fl) (ρ:Env):M Fl:=bind (f ρ) λa=>match a with
 | .nx b=>g b
 | a=>ret a
section
variable {X:Cx} {cl:Nat->Addr} {xe:Addr->Hp->Prop} {e:Expr} {st:Stmt} {sts:List Stmt} {pos:Pos} {f:Env->M D} {g h:Env->M Fl}
theorem P0:PS X st (sD X.K cl xe λ_=>bad):=λ_ _ _ _ _ _ ⟨_,_,_,_,_,p⟩=>p.elim
theorem ng:PSs X [] (sD X.K cl xe λρ=>ret (.nx ρ)):=PSs.imp rq λD σ H ⟨μ,S,ρ,b,a,p⟩=>p.ret μ H (Lat.refl _ _) a σ b
theorem sK (h1:PS X st (sD X.K cl xe g)) (h2:PSs X sts (sD X.K cl xe h)):PSs X (st :: sts) (sD X.K cl xe (BA g h)):=PSs.imp (v8 h1 h2) λD σ H ⟨μ,S,ρ,eo,rp,p⟩=>
 ⟨μ,S,ρ,eo,rp,p.bind.imp λfl S1 μ1 H1 l1 r1 p1=>by
  cases fl with
  | nx ρ1=>exact λσ1 eo1=>⟨μ1,S1,ρ1,eo1,r1,p1⟩
  | rt d=>exact p1.ret μ1 H1 (Lat.refl _ _) r1
  | bk ρ1=>exact p1.ret μ1 H1 (Lat.refl _ _) r1
  | ct ρ1=>exact p1.ret μ1 H1 (Lat.refl _ _) r1⟩
theorem pD (c:PE X e (tD X.K cl xe f)) (k:p7 e=true):PS X (.Expr e pos) (sD X.K cl xe λρ=>bind (f ρ) λ_=>ret (.nx ρ)):=PS.imp (E9 c (E4 k)) λD σ H ⟨μ,S,ρ,b,l,p⟩=>
 ⟨μ,S,ρ,b,l,p.bind.imp λd S1 a i h j g v m=>g.ret a i (Lat.refl _ _) j σ (b.later h)⟩
theorem uU (c:PE X e (tD X.K cl xe f)):PS X (.Return (some e) pos) (sD X.K cl xe λρ=>bind (f ρ) λd=>ret (.rt d)):=PS.imp (xP c) λD σ H ⟨μ,S,ρ,i,k,p⟩=>
 ⟨μ,S,ρ,i,k,p.bind.imp λd S1 a h l j g v b=>g.ret a h (Lat.refl _ _) j v b⟩
theorem xl (k:PT X c (tBo X.K cl xe t)) (m:PSs X a (sD X.K cl xe g)) (l:PSs X b (sD X.K cl xe h)):PS X (.If c a b pos) (sD X.K cl xe λρ=>bind (t ρ) λq=>if q=true then g ρ else h ρ):=PS.imp (L2.ps_if k m l) λD σ H ⟨μ,S,ρ,e,n,p⟩=>
 ⟨μ,S,ρ,e,n,p.bind.imp λq S1 d o i j f=>by
  cases q with
  | true=>exact ⟨d,S1,ρ,e.later i,j,f⟩
  | false=>exact ⟨d,S1,ρ,e.later i,j,f⟩⟩
theorem sy (q:X.N.Nodup) (g:X.N[i]?=some x) (n:Loc X.env.scope x) (j:PE X e (tD X.K cl xe f)) (o:p7 e=true) (s:X.fn x=true\/X.env.scope.names.lookup x=some .local) :
  PS X (.Assign [.Name x pos'] e pos) (sD X.K cl xe λρ=>bind (f ρ) λd=>ret (.nx (ρ.set i (some d)))):=PS.imp (gR q g n j (E4 o) s) λD σ H ⟨μ,S,ρ,b,r,p⟩=>
 ⟨μ,S,ρ,b,r,p.bind.imp λd S1 a l k m h v c=>h.ret a l (Lat.refl _ _) m _ ((b.later k).set c i)⟩
def vi (K:PySem.W.Frag) (cl:Nat->Addr) (tg:D->Env->Option Env):TG:=λv σ H Q=>∃ μ S ρ d a,EnvOk K μ H ρ σ/\Rep K cl μ S H/\RD K μ H d v/\tg d ρ=some a/\∀ b,EnvOk K μ H a b->Q b H
theorem PG.imp (h:PG X t u) (k:∀ v σ H Q,u' v σ H Q->u v σ H Q):PG X t u':=λpins s σ H v w Q I r q=>h pins s σ H v w Q I r (k v σ H Q q)
theorem pf (h:X.N.Nodup) (a:X.N[i]?=some x) (f:Loc X.env.scope x) (j:X.fn x=true\/X.env.scope.names.lookup x=some .local):PG X (.Name x pos') (vi X.K cl λd ρ=>some (ρ.set i (some d))):=
 PG.imp (N3 h a f j) λv σ H Q ⟨μ,S,ρ,d,g,c,k,b,e,q⟩=>by
  cases e;exact q _ (c.set b i)
def aJ:List Nat->List D->Env->Option Env
 | [],[],ρ=>some ρ
 | i :: a,d :: ds,ρ=>aJ a ds (ρ.set i (some d))
 | _,_,_=>none
def u8 (a:List Nat) (d:D) (ρ:Env):Option Env:=match d with
 | .tup ds=>aJ a ds ρ
 | _=>none
inductive NamesAt (X:Cx):List Expr->List Nat->Prop where
 | nil:NamesAt X [] []
 | cons {x:Str} {p:Pos} {i:Nat} {ts:List Expr} {is:List Nat}:X.N[i]?=some x->Loc X.env.scope x->(X.fn x=true\/X.env.scope.names.lookup x=some .local)->NamesAt X ts is->NamesAt X (.Name x p :: ts) (i :: is)
theorem kh (hN:X.N.Nodup)  {ts:List Expr} {is:List Nat} (h:NamesAt X ts is):PGs X ts (λvs σ H Q=>∃ μ ds ρ ρ',EnvOk X.K μ H ρ σ/\RDs X.K μ H ds vs/\aJ is ds ρ=some ρ'/\∀ σ',EnvOk X.K μ H ρ' σ'->Q σ' H):=by
 induction h with
 | nil=>
  intro pins s σ H vs us Q I r ⟨μ,ds,ρ,ρ',eo,rd,e,q⟩;cases ds with
  | nil=>
   cases rd;cases e;exact jT pins s σ H [] us Q I r ⟨rfl,q σ eo⟩
  | cons d ds=>cases e
 | @cons x p i ts is h1 h2 h3 h4 ih=>
  intro pins s σ H vs us Q I r ⟨μ,ds,ρ,ρ',eo,rd,e,q⟩;cases ds with
  | nil=>cases e
  | cons d ds=>
   cases rd with
   | cons r1 r2=>exact bG (N3 (i:=i) hN h1 h2 h3) ih rfl pins s σ H _ us Q I r ⟨_,_,rfl,μ,ds,_,ρ',eo.set r1 i,r2,e,q⟩
theorem Q9 {ts:List Expr} {is:List Nat} (h:NamesAt X ts is):(assignEach ts X.env).length=is.length/\(assignEach ts X.env).findIdx? (·.1)=none:=by
 induction h with
 | nil=>exact ⟨rfl,rfl⟩
 | @cons x p i ts is h1 h2 h3 h4 ih=>
  refine ⟨by show (assignEach ts X.env).length+1=_;rw [ih.1];rfl,?_⟩;show ((false,assign (.Name x p) X.env) :: assignEach ts X.env).findIdx? (·.1)=none;rw [List.findIdx?_cons];simp [ih.2]
theorem aa:∀ {b:List Nat} {ds:List D} {ρ a:Env},aJ b ds ρ=some a->ds.length=b.length
 | [],[],_,_,_=>rfl
 | _ :: _,_ :: _,_,_,e=>by simp [aa (by simpa [aJ] using e)]
 | [],_ :: _,_,_,e=>by cases e
 | _ :: _,[],_,_,e=>by cases e
theorem jO (hc:X.calm=true) (hN:X.N.Nodup) (h:NamesAt X ts is):PG X (.Tuple ts k pos') (vi X.K cl (u8 is)):=
 PG.imp (nU hc (kh hN h) (Q9 h).1 (Q9 h).2) λv σ H Q ⟨μ,S,ρ,d,ρ',eo,rp,rd,e,q⟩=>by
  cases rd with
  | tup h1 h2=>exact ⟨_,_,rfl,h1.sq,by rw [<- h2.length];exact aa e,μ,_,ρ,ρ',eo,h2,e,q⟩
  | _=>cases e
def oB:Expr->Bool
 | .Tuple ..=>false
 | _=>true
def Y6 (tg:D->Env->Option Env) (d:D) (ρ:Env):M Fl:=match tg d ρ with
 | some a=>ret (.nx a)
 | none=>bad
theorem tS (n:X.calm=true) (t:X.N.Nodup) (h:NamesAt X ts is) (o:PE X e (tD X.K cl xe f)) (s:p7 e=true) (i:oB e=true):PS X (.Assign [.Tuple ts k pos'] e pos) (sD X.K cl xe λρ=>bind (f ρ) λd=>Y6 (u8 is) d ρ):=
 PS.imp (rC o (jO n t h) (by unfold swapsWithSole;exact E4 s) (by cases e <;> first | rfl | (exact absurd i (by simp [oB]))) rfl) λD σ H ⟨μ,S,ρ,j,u,p⟩=>
  ⟨μ,S,ρ,j,u,p.bind.imp λd S1 a r q l b v m=>by
   cases c:u8 is d ρ with
   | none=>simp only [Y6,c] at b;exact b.elim
   | some g=>simp only [Y6,c] at b;exact ⟨a,S1,ρ,d,g,j.later q,l,m,c,b.ret a r (Lat.refl _ _) l⟩⟩
end
structure LatR (μ:Mp) (H:Hp) (μ':Mp) (H':Hp):Prop where
 pre:∀ (n:Nat) (a:Addr),μ.pl[n]?=some a->μ'.pl[n]?=some a
 oth:∀ a o,H a=some o->a∉μ.pl->H' a=some o
 new:∀ a,a∈μ'.pl->a∈μ.pl\/H a=none
 rsw:∀ a,a∈μ'.rs->a∈μ.rs\/H a=none
theorem Lat.r {H H':Hp} (l:Lat μ H μ' H'):LatR μ H μ' H':=⟨l.pre,l.oth,l.new,λa m=>.inl (by rw [l.rsv] at m;exact m)⟩
structure LatU (μ:Mp) (H:Hp) (μ':Mp) (H':Hp):Prop where
 pre:∀ (n:Nat) (a:Addr),μ.pl[n]?=some a->μ'.pl[n]?=some a
 oth:∀ a o,H a=some o->a∉μ.pl->a∉μ.rs->H' a=some o
 new:∀ a,a∈μ'.pl->a∈μ.pl\/H a=none
 rsw:∀ a,a∈μ'.rs->a∈μ.rs\/H a=none
theorem LatR.u {H H':Hp} (l:LatR μ H μ' H'):LatU μ H μ' H':=⟨l.pre,λa o e n _=>l.oth a o e n,l.new,l.rsw⟩
theorem LatU.out {H H':Hp} (l:LatU μ H μ' H') (a:Addr) (u:HO) (e:H a=some u) (c:a∉μ.pl) (b:a∉μ.rs):H' a=some u/\a∉μ'.pl/\a∉μ'.rs:=by
 refine ⟨l.oth a u e c b,λz=>?_,λz=>?_⟩
 ·rcases l.new a z with q | q
  ·exact c q
  ·rw [e] at q;cases q
 ·rcases l.rsw a z with q | q
  ·exact b q
  ·rw [e] at q;cases q
theorem RDs.laterU {K:PySem.W.Frag} {μ μ':Mp} {H H':Hp} (l:LatU μ H μ' H') {ds:List D} {vs:List V} (r:RDs K μ H ds vs):RDs K μ' H' ds vs:=r.move l.pre l.out
abbrev Src:=Nat->Sto->Option (Option D)
def bI (K:PySem.W.Frag) (cl:Nat->Addr) (J:It) (i:Nat) (μ2:Mp) (b:Hp) (S2:Sto) (o:Option (Option D)):Prop:=match o with
 | some (some d)=>J.go i b/\∀ x a,J.yld i b x a->Lat μ2 b μ2 a/\Rep K cl μ2 S2 a/\RD K μ2 a d x
 | some none=>J.stop i b
 | none=>True
def Yl (K:PySem.W.Frag) (cl:Nat->Addr) (J:It) (μ:Mp) (H:Hp) (src:Src):Prop:=∀ (i:Nat) (μ2:Mp) (a:Hp) (S2:Sto),LatU μ H μ2 a->Rep K cl μ2 S2 a->bI K cl J i μ2 a S2 (src i S2)
def tIt (K:PySem.W.Frag) (cl:Nat->Addr) (xe:Addr->Hp->Prop) (f:Env->M (Src×Nat)):TI:=λσ H R=>∃ μ S ρ,EnvOk K μ H ρ σ/\Rep K cl μ S H/\Post K cl xe μ H (f ρ S) λp _ μ' H'=>∀ J,Yl K cl J μ' H' p.1->R J H'
theorem PI.imp (h:PI X tg it t) (k:∀ σ H R,t' σ H R->t σ H R):PI X tg it t':=λpins s σ H R I q=>h pins s σ H R I (k σ H R q)
theorem yr {tg l:Expr} {m:TE} (r:PE X l m):PI X tg l (λσ H R=>m σ H λx d=>∃ a,x=.ref a/\(((∃ xs,SqL X.K d a xs)/\R (Itl X.K a) d)\/((∃ xs,SqT X.K d a xs)/\R (Itt X.K a) d))):=by
 intro pins s σ H R I h;refine thn (r pins s σ H _ I h) λv f ⟨x,d,c,n,j⟩=>?_;obtain ⟨a,e,j⟩:=j;subst e;cases n;rcases j with ⟨⟨xs,g⟩,q⟩ | ⟨⟨xs,g⟩,q⟩
 ·obtain ⟨k,t,p,hz⟩:=c.list g;refine Jc p.isList ?_;refine ⟨f.heap.objs.size,[f.heap.objs.size],_,_,d,rfl,c.kept λb o e=>El _ e,mD a _,⟨_,Eu _ rfl,rfl,rfl⟩,λb i=>?_,q⟩;have e:b=f.heap.objs.size:=by simpa using i
  subst e;exact c.fpOk (Es _) (c.hok.fresh (Es _))
 ·obtain ⟨k,t,p,hz⟩:=c.tuple g;refine GG (p) ?_;refine ⟨f.heap.objs.size,[f.heap.objs.size],_,_,d,rfl,c.kept λb o e=>El _ e,hV a _,⟨_,Eu _ rfl,rfl,rfl⟩,λb i=>?_,q⟩;have e:b=f.heap.objs.size:=by simpa using i
  subst e;exact c.fpOk (Es _) (c.hok.fresh (Es _))
def aZ (ds:List D):Src:=λi _=>some ds[i]?
def eH (n:Nat):Src:=λi S=>match S[n]? with
 | some (.lst es)=>some es[i]?
 | _=>none
def D5 (lo:Int) (n:Nat):Src:=λi _=>some (if i<n then some (.int (lo+i)) else none)
section
variable {K:PySem.W.Frag} {cl:Nat->Addr} {μ:Mp} {H:Hp}
theorem zz (h:TupAt K μ H a xs) (r:RDs K μ H ds xs):Yl K cl (Itt K a) μ H (aZ ds):=λi μ2 g S2 l y=>by
 have b:SqT K g a xs:=by
  rcases h with ⟨q,n1,n2⟩ | q
  ·rcases q with q | ⟨o,q⟩
   ·exact .inl (.inl (l.oth _ _ q n1 n2))
   ·exact .inl (.inr ⟨o,l.oth _ _ q n1 n2⟩)
  ·obtain ⟨o,c,n,u,j,w,m,t,_⟩:=q;exact .inr ⟨o,c,n,u,j,w,m,t⟩
 have k:=r.laterU l;show bI K cl (Itt K a) i μ2 g S2 (some ds[i]?);cases e:ds[i]? with
 | none=>exact ⟨xs,b,by rw [<- r.length];exact Hw.mp e⟩
 | some d=>
  obtain ⟨v,f,p⟩:=k.get e;exact ⟨⟨xs,v,b,f⟩,λx z ⟨s,q⟩=>by subst s;have:=q xs b;rw [f] at this;cases this;exact ⟨Lat.refl _ _,y,p⟩⟩
theorem rg (h:LstAt μ H a xs\/ScrAt K μ H a xs) (r:RDs K μ H ds xs):Yl K cl (Itl K a) μ H (aZ ds):=λi μ2 f S2 l m=>by
 have b:SqL K f a xs:=by
  rcases h with ⟨q,n1,n2⟩ | ⟨q,n1,n2⟩ | q
  ·exact .inl (.inl (l.oth _ _ q n1 n2))
  ·rcases q with q | ⟨o,q⟩
   ·exact .inl (.inl (l.oth _ _ q n1 n2))
   ·exact .inl (.inr ⟨o,l.oth _ _ q n1 n2⟩)
  ·exact .inr q
 have g:=r.laterU l;show bI K cl (Itl K a) i μ2 f S2 (some ds[i]?);cases e:ds[i]? with
 | none=>exact ⟨xs,b,by rw [<- r.length];exact Hw.mp e⟩
 | some d=>
  obtain ⟨v,c,j⟩:=g.get e;exact ⟨⟨xs,v,b,c⟩,λx n ⟨k,q⟩=>by subst k;have:=q xs b;rw [c] at this;cases this;exact ⟨Lat.refl _ _,m,j⟩⟩
theorem zi {n:Nat} (h:μ.pl[n]?=some a):Yl K cl (Itl K a) μ H (eH n):=λi μ2 H2 S2 l rp=>by
 show bI K cl (Itl K a) i μ2 H2 S2 (match S2[n]? with
  | some (.lst es)=>some es[i]?
  | _=>none)
 cases q1:S2[n]? with
 | none=>exact True.intro
 | some o=>
  cases o with
  | dct _=>exact True.intro
  | exc _ _=>exact True.intro
  | lst es=>
   obtain ⟨xs,h1,h2⟩:=rp.ats n _ a q1 (l.pre _ _ h);have hq:SqL K H2 a xs:=.inl (.inl h1);show bI K cl (Itl K a) i μ2 H2 S2 (some es[i]?);cases e:es[i]? with
   | none=>exact ⟨xs,hq,by rw [<- h2.length];exact Hw.mp e⟩
   | some d=>
    obtain ⟨v,e1,r1⟩:=h2.get e;exact ⟨⟨xs,v,hq,e1⟩,λx H3 ⟨e3,q⟩=>by subst e3;have:=q xs hq;rw [e1] at this;cases this;exact ⟨Lat.refl _ _,rp,r1⟩⟩
theorem fQ {lo:Int} {n:Nat}:Yl K cl (Itr lo n) μ H (D5 lo n):=λi μ2 d S2 l e=>by
 show bI K cl (Itr lo n) i μ2 d S2 (some (if i<n then some (.int (lo+i)) else none));by_cases a:i<n
 ·rw [if_pos a];exact ⟨a,λx f ⟨c,b⟩=>by subst c b;exact ⟨Lat.refl _ _,e,.int _⟩⟩
 ·rw [if_neg a];exact Hs a
end
def O1 (d:D):M (Src×Nat):=match d with
 | .tup ds=>ret (aZ ds,ds.length+1)
 | .lst ds=>ret (aZ ds,ds.length+1)
 | .scr ds=>ret (aZ ds,ds.length+1)
 | .ref n=>λS=>match S[n]? with
  | some (.lst ds)=>.ok (eH n,ds.length+1) S
  | _=>.bad
 | _=>bad
def j4 (ds:List D):M (Src×Nat):=match ds with
 | [.int j]=>if -(2 ^ 62)<=j/\j<2 ^ 62 then ret (D5 0 j.toNat,j.toNat+1) else bad
 | [.int i,.int j]=>if -(2 ^ 62)<=i/\i<2 ^ 62/\-(2 ^ 62)<=j/\j<2 ^ 62 then ret (D5 i (j-i).toNat,(j-i).toNat+1) else bad
 | _=>bad
section
variable {X:Cx} {cl:Nat->Addr} {xe:Addr->Hp->Prop} {e:Expr} {tg:Expr} {pos:Pos} {f:Env->M D}
theorem jc {tg e:Expr}:PI X tg e (tIt X.K cl xe λ_=>bad):=λ_ _ _ _ _ _ ⟨_,_,_,_,_,p⟩=>p.elim
theorem uA (h:PE X e (tD X.K cl xe f)):PI X tg e (tIt X.K cl xe λρ=>bind (f ρ) O1):=PI.imp (yr h) λσ H R ⟨μ,S,ρ,eo,rp,p⟩=>
 ⟨μ,S,ρ,eo,rp,p.bind.imp λd S1 μ1 H1 l1 r1 p1 v rv=>by
  cases rv with
  | tup h r=>exact ⟨_,rfl,.inr ⟨⟨_,h.sq⟩,p1.ret μ1 H1 (Lat.refl _ _) r1 _ (zz h r)⟩⟩
  | lst h r=>exact ⟨_,rfl,.inl ⟨⟨_,h.sq⟩,p1.ret μ1 H1 (Lat.refl _ _) r1 _ (rg (.inl h) r)⟩⟩
  | scr h r=>exact ⟨_,rfl,.inl ⟨⟨_,h.sq⟩,p1.ret μ1 H1 (Lat.refl _ _) r1 _ (rg (.inr h) r)⟩⟩
  | ref h=>
   rename_i n a;simp only [O1] at p1;cases q1:S1[n]? with
   | none=>rw [q1] at p1;exact p1.elim
   | some o=>
    rw [q1] at p1;cases o with
    | lst ds=>
     obtain ⟨xs,h1,h2⟩:=r1.ats n _ a q1 h;exact ⟨_,rfl,.inl ⟨⟨xs,.inl (.inl h1)⟩,p1 μ1 H1 (Lat.refl _ _) r1 _ (zi h)⟩⟩
    | dct _=>exact p1.elim
    | exc _ _=>exact p1.elim
  | _=>exact False.elim p1⟩
theorem gj (hg:Gl X "range") (hm:X.mg "range" = none) (ha:PA X [a] (tDs X.K cl xe fs)) (hs:noStar a=true):PI X tg (.Call (.Name "range" p) [a] [] pos) (tIt X.K cl xe λρ=>bind (fs ρ) λds=>if ds.length=1 then j4 ds else bad):=
 PI.imp (lP hg hm ha (c7 hs)) λσ H R ⟨μ,S,ρ,eo,rp,p⟩=>⟨μ,S,ρ,eo,rp,p.bind.imp λds S1 μ1 H1 l1 r1 p1 vs rvs=>by
  cases rvs with
  | nil=>exact False.elim p1
  | cons h t=>
   cases t with
   | cons _ t=>rw [if_neg (by simp)] at p1;exact p1.elim
   | nil=>
    rename_i d0 v0;rw [if_pos (show ([d0]:List D).length=1 from rfl)] at p1;cases h with
    | int j=>
     obtain ⟨⟨h1,h2⟩,p1⟩:=Post.guard p1;exact ⟨j,rfl,h1,h2,p1 μ1 H1 (Lat.refl _ _) r1 _ fQ⟩
    | _=>exact False.elim p1⟩
theorem iS (hg:Gl X "range") (hm:X.mg "range" = none) (ha:PA X [a,b] (tDs X.K cl xe fs)) (hs:noStar a=true) (hs2:noStar b=true):PI X tg (.Call (.Name "range" p) [a,b] [] pos) (tIt X.K cl xe λρ=>bind (fs ρ) λds=>if ds.length=2 then j4 ds else bad):=
 PI.imp (lr hg hm ha (by rw [c7 hs,c7 hs2];rfl) (c7 hs2)) λσ H R ⟨μ,S,ρ,eo,rp,p⟩=>⟨μ,S,ρ,eo,rp,p.bind.imp λds S1 μ1 H1 l1 r1 p1 vs rvs=>by
  by_cases hd:ds.length=2
  ·rw [if_pos hd] at p1
   match ds,hd with
   | [d1,d2],_=>
    cases rvs with
    | cons h t=>
     cases t with
     | cons h2 t=>
      cases t;cases h with
      | int i=>
       cases h2 with
       | int j=>
        obtain ⟨hh,p1⟩:=Post.guard p1;exact ⟨i,j,rfl,hh,p1 μ1 H1 (Lat.refl _ _) r1 _ fQ⟩
       | _=>exact False.elim p1
      | _=>exact False.elim p1
  ·rw [if_neg hd] at p1;exact p1.elim⟩
end
def h8 (src:Src) (tg:D->Env->Option Env) (body:Env->M Fl):Nat->Nat->Env->M Fl
 | 0,_,_=>bad
 | m+1,i,ρ=>λS=>match src i S with
  | none=>.bad
  | some none=>.ok (.nx ρ) S
  | some (some d)=>match tg d ρ with
   | none=>.bad
   | some b=>bind (body b) (λc=>match c with
    | .nx a=>h8 src tg body m (i+1) a
    | .ct a=>h8 src tg body m (i+1) a
    | .bk a=>ret (.nx a)
    | .rt d=>ret (.rt d)) S
section
variable {X:Cx} {cl:Nat->Addr} {xe:Addr->Hp->Prop} {iter tgt:Expr} {pos:Pos} {fi:Env->M (Src×Nat)} {tg:D->Env->Option Env} {g:Env->M Fl} {body:List Stmt}
theorem tw (Y:PassesOwn (model X.prog X.w) X.A X.env X.xe) (hc:X.calm=true) (hi:PI X tgt iter (tIt X.K cl xe fi)) (hg:PG X tgt (vi X.K cl tg)) (hb:PSs X body (sD X.K cl xe g)) (hn:v9 iter=true) :
  PS X (.For tgt iter body [] pos) (sD X.K cl xe λρ=>bind (fi ρ) λp=>h8 p.1 tg g p.2 0 ρ):=PS.imp (xf Y hc hi hg hb (A5 hn)) λD σ H ⟨μ,S,ρ,T,rp,p⟩=>by
 refine ⟨μ,S,ρ,T,rp,p.bind.imp λsm S1 f A l1 r1 p1 J yl=>?_⟩;obtain ⟨src,m⟩:=sm;refine ⟨λi m σ H=>∃ μ2 S2 h,LatR f A μ2 H/\EnvOk X.K μ2 H h σ/\Rep X.K cl μ2 S2 H/\Post X.K cl xe μ2 H (h8 src tg g m i h S2) (λw _ μ' H'=>FlOk X.K D w μ' H'),⟨m,f,S1,ρ,(Lat.refl _ _).r,T.later l1,r1,p1⟩,?_⟩;rintro i m F I ⟨μ2,S2,h,s,u,U,j⟩;cases m with
 | zero=>exact j.elim
 | succ m=>
  have y:bI X.K cl J i μ2 I S2 (src i S2):=yl i μ2 I S2 s.u U;simp only [h8] at j;cases O:src i S2 with
  | none=>rw [O] at j;exact j.elim
  | some o=>
   rw [O] at j y;cases o with
   | none=>exact .inl ⟨y,j μ2 I (Lat.refl _ _) U F u⟩
   | some d=>
    obtain ⟨y1,Z⟩:=y;cases L:tg d h with
    | none=>simp only [L] at j;exact j.elim
    | some t=>
     simp only [L] at j;refine .inr ⟨y1,λv H'=>∃ l P b,LatR f A l H'/\EnvOk X.K l H' b v/\Rep X.K cl l P H'/\Post X.K cl xe l H' (h8 src tg g m (i+1) b P) (λw _ μ' H'=>FlOk X.K D w μ' H'),λv H' q=>⟨m,FB _,q⟩,λx H3 hy=>?_⟩;obtain ⟨M,V,E⟩:=Z x H3 hy;refine ⟨μ2,S2,h,d,t,u.later M,V,E,L,λσ3 K=>?_⟩;refine ⟨μ2,S2,t,K,V,(Post.later j M).bind.imp λw W c N l4 B C=>?_⟩;have R:LatR f A c N:=by
      have k:=M.trans l4;refine ⟨λn a e=>k.pre n a (s.pre n a e),λa o e n=>k.oth a o (s.oth a o e n) (λz=>(s.new a z).elim n (λq=>by rw [e] at q;cases q)),λa m=>(k.new a m).elim (λz=>s.new a z) (λz=>?_),λa m=>s.rsw a (by rw [<- k.rsv];exact m)⟩;by_cases Q:a∈f.pl
      ·exact .inl Q
      ·right
       cases e:A a with
       | none=>rfl
       | some o=>rw [s.oth a o e Q] at z;cases z
     cases w with
     | nx b=>exact λG r=>⟨c,W,b,R,r,B,C⟩
     | ct b=>exact λG r=>⟨c,W,b,R,r,B,C⟩
     | bk b=>exact C.ret c N (Lat.refl _ _) B
     | rt d=>exact C.ret c N (Lat.refl _ _) B
end
structure HLat (μ:Mp) (H:Hp) (p:Addr) (μ2:Mp) (H2:Hp):Prop where
 r:LatR μ H μ2 H2
 rs:μ2.rs=p :: μ.rs
theorem HLat.lat {H c H':Hp} {p:Addr} (h:HLat μ H p μ2 c) (l:Lat μ2 c μ' H'):Lat μ H μ'.free H':=by
 refine ⟨λn a e=>l.pre n a (h.r.pre n a e),λa o e n=>?_,λa m=>?_,by show μ'.rs.tail=μ.rs;rw [l.rsv,h.rs];rfl⟩
 ·have d:=λz=>(h.r.new a z).elim n λq=>by rw [e] at q;cases q
  exact l.oth a o (h.r.oth a o e n) d
 ·rcases l.new a m with q | q
  ·exact h.r.new a q
  ·by_cases b:a∈μ.pl
   ·exact .inl b
   ·right
    cases e:H a with
    | none=>rfl
    | some o=>rw [h.r.oth a o e b] at q;cases q
theorem HLat.step {H c b:Hp} {p:Addr} (h:HLat μ H p μ2 c) (l:Lat μ2 c μ3 b):HLat μ H p μ3 b:=by
 have k:=h.lat l;refine ⟨⟨k.pre,k.oth,k.new,λa m=>h.r.rsw a (by rw [<- l.rsv];exact m)⟩,by rw [l.rsv];exact h.rs⟩
section
variable {K:PySem.W.Frag} {cl:Nat->Addr} {xe:Addr->Hp->Prop} {α β:Type} {μ μ2:Mp} {H H2:Hp} {p:Addr} {S:Sto}
theorem Post.at {k:α->M β} {G:β->Sto->Mp->Hp->Prop} (h:Post K cl xe μ H (L3.bind m k S) G) (l:HLat μ H p μ2 H2):Post K cl xe μ2 H2 (m S) (λa S' _ _=>Post K cl xe μ H (k a S') G):=by
 unfold L3.bind at h;cases e:m S with
 | ok a S1=>rw [e] at h;exact λ_ _ _ _=>h
 | exn n S1=>rw [e] at h;exact λμ' H' a k r q=>h μ'.free H' a (l.lat k) (aS r) q
 | bad=>rw [e] at h;exact h
end
def u0 (src:Src) (t:Env->M Bool) (f:Env->M D) (mk:D->Env):Nat->Nat->List D->M (List D)
 | 0,_,_=>bad
 | m+1,i,es=>λS=>match src i S with
  | none=>.bad
  | some none=>.ok es S
  | some (some d)=>bind (t (mk d)) (λb=>if b=true then bind (f (mk d)) (λy=>if es.length<sizeLine then u0 src t f mk m (i+1) (es++[y]) else bad) else u0 src t f mk m (i+1) es) S
def E7 (caps:List Nat) (ρ:Env):Env:=caps.map λi=>(ρ[i]?).join
theorem Q5 {K:PySem.W.Frag} {μ:Mp} {H:Hp} {ρ:Env} {σ:L2.St} {caps:List Nat} {d:D} {x:V} (eo:EnvOk K μ H ρ σ) (r:RD K μ H d x):EnvOk K μ H (some d :: E7 caps ρ) (some x :: A6 caps σ):=by
 refine ⟨by simp [E7,A6],λi e he=>?_⟩;cases i with
 | zero=>simp at he;subst he;exact ⟨x,rfl,r⟩
 | succ j=>
  have he:(E7 caps ρ)[j]?=some (some e):=he;unfold E7 at he;rw [Fz] at he;cases q:caps[j]? with
  | none=>rw [q] at he;cases he
  | some i=>
   rw [q] at he;have h':(ρ[i]?).join=some e:=FR he;have h2:ρ[i]?=some (some e):=by
    cases q2:ρ[i]? with
    | none=>rw [q2] at h';cases h'
    | some o=>rw [q2] at h';exact congrArg some h'
   obtain ⟨v,e1,r1⟩:=eo.2 i e h2;refine ⟨v,?_,r1⟩;show (A6 caps σ)[j]?=_;unfold A6;rw [Fz,q];show some (σ[i]?).join=_;rw [e1];rfl
def cM (caps:List Nat) (b:Env->M (Src×Nat)) (t:Env->M Bool) (f:Env->M D) (ρ:Env):M (List D):=bind (b ρ) λa=>u0 a.1 t f (λd=>some d :: E7 caps ρ) a.2 0 []
theorem aq {K:PySem.W.Frag} {cl:Nat->Addr} {xe:Addr->Hp->Prop} {caps:List Nat} {fi:Env->M (Src×Nat)} {t:Env->M Bool} {f:Env->M D} {σ:L2.St} {H:Hp} {μ:Mp} {S:Sto} {ρ:Env} {Q:VK} (eo:EnvOk K μ H ρ σ) (rp:Rep K cl μ S H)
  (p:Post K cl xe μ H (cM caps fi t f ρ S) λds _ μ' H'=>∀ c ys,LstAt μ' H' c ys->RDs K μ' H' ds ys->Q (.ref c) H'):iq caps (tIt K cl xe fi) (tBo K cl xe t) (tD K cl xe f) σ H Q:=by
 refine ⟨μ,S,ρ,eo,rp,p.bind.imp λsm S1 u H1 l1 P p1 J yl c g=>?_⟩;obtain ⟨src,m0⟩:=sm;have V:=P.notrs g;refine ⟨λi m ys l=>∃ μ2 S2 es,HLat u H1 c μ2 l/\c∉μ2.pl/\l c=some (.lst ys)/\EnvOk K μ2 l ρ σ/\Rep K cl μ2 S2 l/\RDs K μ2 l es ys/\Post K cl xe u H1 (u0 src t f (λd=>some d :: E7 caps ρ) m i es S2) (λds _ μ' H'=>∀ c ys,LstAt μ' H' c ys->RDs K μ' H' ds ys->Q (.ref c) H'),⟨m0,u.hold c,S1,[],?_,P.notin g,b6,T9 P g (eo.later l1),Q1 P g,.nil,p1⟩,?_⟩
 ·refine ⟨⟨λ_ _ e=>e,λa o e _=>by rw [a8 (b8 e g)];exact e,λa m=>.inl m,λa m=>?_⟩,rfl⟩;rcases Ez.mp (m) with rfl | m
  ·exact .inr g
  ·exact .inl m
 rintro i m ys l ⟨μ2,S2,es,R,z,I,s,r2,h,A⟩;refine ⟨I,?_⟩;cases m with
 | zero=>exact A.elim
 | succ m=>
  have y:bI K cl J i μ2 l S2 (src i S2):=yl i μ2 l S2 R.r.u r2;simp only [u0] at A;cases e1:src i S2 with
  | none=>rw [e1] at A;exact A.elim
  | some o=>
   rw [e1] at A y;cases o with
   | none=>
    refine .inl ⟨y,A μ2.free l (R.lat (Lat.refl _ _)) (aS r2) c ys ⟨I,z,?_⟩ (fL h)⟩;show c∉μ2.rs.tail;rw [R.rs];exact V
   | some d=>
    obtain ⟨y1,y2⟩:=y;refine .inr ⟨y1,λx H3 hy=>?_⟩;obtain ⟨L,r3,C⟩:=y2 x H3 hy;have h3:=R.step L;refine ⟨μ2,S2,_,Q5 (s.later L) C,r3,(Post.at A h3).imp λb S5 F H5 Y r5 U=>?_⟩;have X:=h3.step Y;have k:=L.trans Y;have Z:=k.oth _ _ I z;have W:=k.out I z;cases b with
    | false=>exact ⟨m,FB _,F,S5,es,X,W,Z,s.later k,r5,h.later k,U⟩
    | true=>
     refine vb ?_;rw [if_pos rfl] at U;refine ⟨F,S5,_,(Q5 (s.later L) C).later Y,r5,(Post.at U X).imp λyv S6 μ6 H6 O r6 T v rv=>?_⟩;have B:=X.step O;have G:=k.trans O;have a6:=O.oth _ _ Z W;have n6:=O.out Z W;by_cases hz:es.length<sizeLine
     ·rw [if_pos hz] at T;have N:=B.rs;refine ⟨a6,by rw [<- h.length];exact hz,m,FB _,μ6,S6,es++[yv],?_,n6,b6,?_,W9 N a6 r6,W6 N ((h.later G).append (.cons rv .nil)),T⟩
      ·refine ⟨⟨B.r.pre,λa o e n=>?_,B.r.new,B.r.rsw⟩,N⟩;rw [a8 (b8 e g)];exact B.r.oth a o e n
      ·have E:=s.later G;exact ⟨E.1,λj e he=>let ⟨w,q,r⟩:=E.2 j e he;⟨w,q,aW N r⟩⟩
     ·rw [if_neg hz] at T;exact T.elim
section
variable {X:Cx} {cl:Nat->Addr} {xe:Addr->Hp->Prop} {elt iter:Expr} {x:Str} {px pos:Pos} {ifs:List Expr} {scope:Scope} {N':List Str} {caps:List Nat} {fi:Env->M (Src×Nat)} {t:Env->M Bool} {f:Env->M D}
theorem ll {X:Cx}:PTL X [] (tBo X.K cl xe λ_=>ret true):=λpins s σ H Q I ⟨μ,S,ρ,b,a,p⟩=>tE pins s σ H Q I (p μ H (Lat.refl _ _) a)
theorem ey (T:CompText X.N X.env N' 1 caps scope) (k:X.calm=true) (i:N'.Nodup) (b:N'[0]?=some x) (d:scope.names.lookup x=some .local) (h:PI X (.Name x px) iter (tIt X.K cl xe fi))
  (l:∀ pins C c s H,PTL (c8 X pins N' scope C c s H) ifs (tBo X.K cl xe t)) (e:∀ pins C c s H,PE (c8 X pins N' scope C c s H) elt (tD X.K cl xe f)) (g:v9 iter=true) :
  PE X (.ListComp elt [⟨.Name x px,iter,ifs,0⟩] scope pos) (λσ H Q=>∃ μ S ρ,EnvOk X.K μ H ρ σ/\Rep X.K cl μ S H/\Post X.K cl xe μ H (cM caps fi t f ρ S) λds _ μ' H'=>∀ a ys,LstAt μ' H' a ys->RDs X.K μ' H' ds ys->Q (.ref a) H'):=
 PE.imp (im T k i b d h l e (A5 g)) λσ H Q ⟨μ,S,ρ,m,j,p⟩=>aq m j p
end
def qB (K:PySem.W.Frag) (cl:Nat->Addr) (xe:Addr->Hp->Prop) (fs:Env->M (List D)):TE:=λσ H Q=>∃ μ S ρ,EnvOk K μ H ρ σ/\Rep K cl μ S H/\Post K cl xe μ H (fs ρ S) λds _ μ' H'=>∀ a ys,LstAt μ' H' a ys->RDs K μ' H' ds ys->Q (.ref a) H'
end L3
namespace L2
open PySem PySem.Spec PyProof.Rows
section
variable {prog:Program} {w:World} {A:Around} {E:Value->Shared->Prop} {s:Shared}
theorem Q4 {items} {x:Value} {Q:Value->Shared->Prop} (a:s.heap.IsTupleIter it l i)
  (h:s.heap.IsTuple l items) (e:items[i]?=some x)
  (g:∀ h',h'.IsTupleIter it l (i+1)->Heap.SameBut it s.heap h'->Q x { s with heap:=h' }) :
  wpAny (model prog w) A (Builtin.SmallTypes.nextOf (.ref it)) Q E s:=by
 obtain ⟨o,b,f,hd⟩:=id a;obtain ⟨j,c,_,k,d⟩:=h;refine Ej (FP a.typeIs F.slot_tuple_iterator_next
  (FS F.slot_tuple_iterator_next a.typeIs F.entry_tuple_iterator_next ?_ (F.args_tuple_iterator_next_1 _)))
 show wpAny _ _ (field (.ref it) 0 >>= _) _ _ s;refine Ej (Gf b hd (x:=.ref l) rfl ?_);rw [if_neg (show ¬ ((Value.ref l==Value.none)=true) from Er)];refine Ej (Gf b hd rfl ?_);refine Ej (IR c d ?_);simp only [Gn,e];refine Ej (Gk b hd (by simp) (Ek ⟨x,rfl,Ek (g _ ?_ (FZ ..))⟩));exact ⟨_,FE _ b (Obj.isFreed_of_fields (Obj.data_mapFields hd _)),(Obj.cls_mapFields ..).trans f,by
  rw [Obj.data_mapFields hd];simp [rawInt]⟩
theorem V9 {items} {Q:Value->Shared->Prop} (f:A.handled=none)
  (a:s.heap.IsTupleIter it l i) (j:s.heap.IsTuple l items) (g:items[i]?=none)
  (h:∀ h' e,Heap.ExtBut it s.heap h'->(∃ o,h'.get? e=some o/\o.cls=.type "StopIteration")->E (.ref e) { s with heap:=h' }) :
  wpAny (model prog w) A (Builtin.SmallTypes.nextOf (.ref it)) Q E s:=by
 obtain ⟨o,c,k,hd⟩:=id a;obtain ⟨m,b,_,n,d⟩:=j;refine Ej (FP a.typeIs F.slot_tuple_iterator_next
  (FS F.slot_tuple_iterator_next a.typeIs F.entry_tuple_iterator_next ?_ (F.args_tuple_iterator_next_1 _)))
 show wpAny _ _ (field (.ref it) 0 >>= _) _ _ s;refine Ej (Gf c hd (x:=.ref l) rfl ?_);rw [if_neg (show ¬ ((Value.ref l==Value.none)=true) from Er)];refine Ej (Gf c hd rfl ?_);refine Ej (IR b d ?_);simp only [Gn,g];refine Ej (Ij (Ej (Gk c hd (by simp) ?_)));refine Ej ?_;refine Ej (Ft ?_ (by size_fits));refine Ej (JA (by first | rfl | (simp;rfl)) ?_);refine Ft ?_ (by size_fits);refine Ej (wpAny_handled ?_);first | rw [f] | rw [f]
 refine Ej (Ek (wpAny_throw ?_));exact h _ _ (((FZ ..).extBut.push _).push _) ⟨_,Eu _ rfl,rfl⟩
end
theorem pi {h h':Heap} {a:Addr} {items:Array Value} (x:h.IsTuple a items) (k:∀ o,h.get? a=some o->h'.get? a=some o):h'.IsTuple a items:=let ⟨o,b,r⟩:=x;⟨o,k o b,r⟩
theorem pT (k:A.handled=none) (it l:Addr) (c:l≠it) (items:Array Value) :
  Draws prog w A it [it,l] items.size (λi v=>items[i]?=some v) (λi h=>h.IsTupleIter it l i/\h.IsTuple l items) where
 live:=λ_ _ st=>let ⟨o,b,_⟩:=st.1;⟨o,b⟩
 frame:=λ_ _ _ st f=>⟨(let ⟨o,b,r⟩:=st.1;⟨o,f it (by simp) o b,r⟩),pi st.2 λo e=>f l (by simp) o e⟩
 item:=λi s Q E d st g=>by
  refine Q4 st.1 st.2 (x:=items[i]) (by simp [d]) λh' a hs'=>?_;exact g _ h' s.toks (by simp [d]) ⟨a,st.2.extBut hs'.extBut c⟩ hs'
 done:=λs Q E st j=>V9 k st.1 st.2 (by simp) j
theorem fq (l:Addr) (items:Array Value) (n:Nat) (b:Option Addr) (i:Array (Option Value)) :
  Meets (Builtin.«enumerate.__new__» ⟨[.type "enumerate",.ref l],[]⟩) (λ_ R s=>s.heap.get? l=some { cls:=.type "tuple",dict:=b,data:=.seq items n,slots:=i } /\
   R (.ok (.ret (.ref (s.heap.push { cls:=.type "tuple_iterator",data:=.fields #[.ref l,.int 0 0] }).objs.size)))
    { s with heap:=(s.heap.push { cls:=.type "tuple_iterator",data:=.fields #[.ref l,.int 0 0] }).push { cls:=.type "enumerate",data:=.fields #[.none,.bool false,.ref s.heap.objs.size,rawInt 0,.none,.none] } }):=
 .of_wp λprog w A R s h=>by
  obtain ⟨j,g,d,k,m⟩:=s;obtain ⟨a,h⟩:=h;have f:=sub_enumerate;have e:Heap.IsTuple (Shared.heap ⟨j,g,d,k,m⟩) l items:=⟨_,a,rfl,n,rfl⟩
  wp_walk using AutoSeq1.wpAny_loadPart' a
  refine wpAny_stack_any λst=>Ek ?_;split
  ·rename_i c _ _ _ _ _;cases (c==Value.type "enumerate")
   ·wp_walk using AutoSeq1.wpAny_loadPart' a,GG e
    exact ⟨_,rfl,h⟩
   ·wp_walk using AutoSeq1.wpAny_loadPart' a,GG e
    exact ⟨_,rfl,h⟩
  ·wp_walk using AutoSeq1.wpAny_loadPart' a,GG e
   exact ⟨_,rfl,h⟩
section
variable {prog:Program} {w:World} {A:Around} {E:Value->Shared->Prop} {s:Shared}
theorem hW (i:s.heap.IsTuple l items)
  (h:∀ h',IsEnum h' (s.heap.objs.size+1) s.heap.objs.size 0 .none->h'.IsTupleIter s.heap.objs.size l 0->h'.objs.size=s.heap.objs.size+2 ->
   (∀ b o,s.heap.get? b=some o->h'.get? b=some o)->Q (.ref (s.heap.objs.size+1)) { s with heap:=h' }) :
  wpAny (model prog w) A (call (.type "enumerate") [.ref l]) Q E s:=by
 obtain ⟨⟨c,d,j,g⟩,k,a,n,hd⟩:=i
 replace a:c=.type "tuple":=a
 replace hd:j=.seq items n:=hd
 subst a hd;refine callType_new F.called_enumerate (by decide) (F.typeCall_enumerate_1 _) (F.newCall_enumerate_1 _) (λe=>F.args_object_init_2 e _) F.entry_enumerate_new
  (fq l items n d g) ⟨k,?_⟩
 have hz:(s.heap.push { cls:=.type "tuple_iterator",data:=.fields #[.ref l,.int 0 0] }).objs.size=s.heap.objs.size+1:=FT ..;rw [hz];have f:IsEnum ((s.heap.push { cls:=.type "tuple_iterator",data:=.fields #[.ref l,.int 0 0] }).push
   { cls:=.type "enumerate",data:=.fields #[.none,.bool false,.ref s.heap.objs.size,rawInt 0,.none,.none] }) (s.heap.objs.size+1) s.heap.objs.size 0 .none:=by
  have:=Eu (s.heap.push { cls:=.type "tuple_iterator",data:=.fields #[.ref l,.int 0 0] })
   (o:={ cls:=.type "enumerate",data:=.fields #[.none,.bool false,.ref s.heap.objs.size,rawInt 0,.none,.none] }) rfl
  rw [hz] at this;exact this
 refine ⟨⟨_,f,rfl⟩,h _ f ⟨_,El _ (Eu _ rfl),rfl,rfl⟩ (by rw [FT,hz]) λb o x=>El _ (El _ x)⟩
end
section
variable {X:Cx} {pins:List (Addr×Obj)} {σ:St} {H:Hp} {s:Shared} {h':Heap}
theorem Inv.turned2 {t':Nat} {e it:Addr} (I:Inv X pins σ H s) (k:∀ b o,b≠e->b≠it->s.heap.get? b=some o->h'.get? b=some o) (f:L0 X pins H e) (g:L0 X pins H it):Inv X pins σ H { s with heap:=h',toks:=t' }:=by
 obtain ⟨a0,a1,a2,a3,a4,a5⟩:=f;obtain ⟨b0,b1,b2,b3,b4,b5⟩:=g;have nit:∀ b u,H b=some u->b≠e/\b≠it:=λb u q=>⟨λz=>(by rw [z,a0] at q;cases q),λz=>(by rw [z,b0] at q;cases q)⟩;have kk:∀ b o,b∉[e,it]->s.heap.get? b=some o->h'.get? b=some o:=λb o hb q=>k b o (λz=>hb (by simp [z])) (λz=>hb (by simp [z])) q;refine I.step (g':=s.gens) (d':=s.drawn) (ch:=[e,it]) (λb hb=>?_) (λb o _ _ hc q _=>kk b o hc q) (λb o _ _ hc q _=>⟨o.slots,kk b o hc q⟩) (λ_ _ _ _ n=>n)
  (λb o hc q=>⟨o,kk b o hc q⟩) (λ_ _ q=>q) (λ_ _ _ q=>q) (λb ps q=>⟨#[],by rw [q];simp⟩) (λm hm=>?_) (λb u q=>?_) I.bare
 ·have z:b=e\/b=it:=by simpa using hb
  rcases z with rfl | rfl
  ·exact ⟨a3,a1,a4,a5⟩
  ·exact ⟨b3,b1,b4,b5⟩
 ·obtain ⟨o,es,ep,ho,r⟩:=hm;exact ⟨o,es,ep,k _ o (Ne.symm a1) (Ne.symm b1) ho,r⟩
 ·refine (I.hok b u q).stay (λc v hc r=>?_) (λ_ r=>r) λ_ _ r=>r;rcases hc with z | z
  ·rw [z] at r ⊢;exact k b v (nit b u q).1 (nit b u q).2 r
  ·exact k c v (nit c _ z).1 (nit c _ z).2 r
end
def O3 (a:Hp->List V->Prop):It:=
 ⟨λi H=>∃ xs x,a H xs/\xs[i]?=some x,λi H x H'=>∃ p y,x=.ref p/\H p=none/\H'=upd H p (.tup [.int (i:Int),y])/\∀ xs,a H xs->xs[i]?=some y,λi H=>∃ xs,a H xs/\xs.length=i⟩
section
variable {P:Program} {w:World} {K:PySem.W.Frag} {elts:List Expr} {x1:Nat} {tp:Pos}
theorem cr {σ:St} {H:Hp} {s:Shared} {E:Value->Shared->Prop} {e it:Addr} {G:List Addr} {n i:Nat} {A:Nat->Value->Prop} {m:Nat->Heap->Prop} {j:Value} {y:V} {J:It} {tn:Nat->Heap->Prop}
  (I:Inv X pins σ H s) (g:∀ b∈[e,it],L0 X pins H b) (D:Draws X.prog X.w X.A.in1 it G n A m) (B:IsEnum s.heap e it i j) (c:m i s.heap) (k:i<n) (v:e≠it) (f:e∉G)
  (R:∀ u,A i u->RelV y u) (S:∀ h',(∃ o,IsEnum h' e it ((i:Int)+1) o)->m (i+1) h'->tn (i+1) h') (M:∀ p,H p=none->J.yld i H (.ref p) (upd H p (.tup [.int (i:Int),y]))) :
  wpAny (model X.prog X.w) X.A (pyNext (.ref e)) (λr Z=>∃ u,r=some u /\
   wpAny (model X.prog X.w) X.A (letOwnedTupleGo (.Tuple elts x1 tp) (.ref e) u) (λ_ F=>∃ x H',Inv X pins σ H' F/\RelV x u/\J.yld i H x H'/\tn (i+1) F.heap/\∀ b∈[e,it],H' b=none) E Z) E s:=by
 refine wpAny_pyNext_enum_itemD D B c k v f λu h' d O T hs' Q hsz hk=>?_;have C:=Ew B;have w:it<s.heap.objs.size:=by obtain ⟨_,z⟩:=D.live _ _ c;exact Ew z
 refine ⟨_,rfl,wpAny_letOwnedTupleGo_enum T λh2 t a=>?_⟩;have fr:=I.hok.fresh (Es _);have I1:Inv X pins σ (upd H s.heap.objs.size (.tup [.int (i:Int),y])) { s with heap:=s.heap.push { cls:=.type "tuple",data:=.seq #[.int i d,u] },toks:=d }:=
  I.laid (λb q z=>El _ z) (Es _) ⟨by rw [Fp];show 2<=16777216;omega,[.int i d,u],.cons ⟨d,rfl⟩ (.cons (R u O) .nil),⟨_,Eu _ rfl,rfl,_,rfl,rfl⟩⟩
 have K:∀ b,L0 X pins H b->b<s.heap.objs.size->L0 X pins (upd H s.heap.objs.size (.tup [.int (i:Int),y])) b:=λb ⟨c0,Y,W,c3,U,c5⟩ N=>⟨by rw [a8 (Ex N)];exact c0,Y,W,c3,U,c5⟩;have P:=I1.turned2 (t':=d+1) (λb o h L z=>by
  have:=Heap.get?_push_cases z;rcases this with ⟨rfl,rfl⟩ | z1
  ·exact (a.2 _ h).trans Q
  ·exact (a.2 b h).trans (hk b o h L z1)) (K e (g e (by simp)) C) (K it (g it (by simp)) w)
 refine ⟨.ref s.heap.objs.size,_,P,rfl,M _ fr,S _ ⟨_,t⟩ (D.frame _ _ _ hs' λb l o z=>(a.2 b λq=>f (q▸l)).trans z),λb l=>?_⟩;have z:b=e\/b=it:=by simpa using l
 rcases z with rfl | rfl
 ·rw [a8 (Ex C)];exact (g _ (by simp)).1
 ·rw [a8 (Ex w)];exact (g _ (by simp)).1
end
section
variable {P:Program} {w:World} {K:PySem.W.Frag} {elts:List Expr} {x1:Nat} {tp:Pos}
theorem lS {h:Heap} {e it:Addr} {i:Int} {a:Value} (z:IsEnum h e it i a):∃ o,h.get? e=some o/\∀ v,o.data≠.cell v:=by grind
theorem kM {H:Hp} {p:Addr} {y:V} (h:H p=none) (k:∀ xs,Sq H xs->xs[i]?=some y):(O3 Sq).yld i H (.ref p) (upd H p (.tup [.int (i:Int),y])):=by
 show ∃ a b,V.ref p=.ref a/\H a=none/\upd H p (.tup [.int (i:Int),y])=upd H a (.tup [.int (i:Int),b])/\∀ xs,Sq H xs->xs[i]?=some b;grind
theorem iM (a e it:Addr) (hne:e≠it):Turn P w K (.Tuple elts x1 tp) (O3 λH xs=>SqL K H a xs) [e,it] e (λi h=>(∃ old,IsEnum h e it ((i:Nat):Int) old)/\h.IsListIter it a i) where
 mem:=by simp
 obj:=λi h st b hb=>by
  have z:b=e\/b=it:=by simpa using hb
  rcases z with rfl | rfl
  ·obtain ⟨old,q⟩:=st.1;exact lS q
  ·obtain ⟨o,q,c,d⟩:=st.2;exact ⟨o,q,λv z=>by rw [d] at z;cases z⟩
 keep:=λi h h' st k=>⟨(let ⟨old,q⟩:=st.1;⟨old,k e (by simp) _ q⟩),st.2.at λo q=>k it (by simp) o q⟩
 item:=by
  intro X hP hw hK hc i pins s σ H E I hf st hg;subst hP hw hK;obtain ⟨xs,x,hq,hx⟩:=hg;obtain ⟨its,rv,p,hz⟩:=I.list hq;obtain ⟨u,hu,ru⟩:=rv.get hx;obtain ⟨⟨old,he⟩,hit⟩:=st;have nit:a≠it:=λz=>by
   obtain ⟨o,q,c,_⟩:=hit;obtain ⟨o2,q2,c2,_⟩:=p.isList;rw [z,q] at q2;cases q2;rw [c] at c2;exact absurd c2 (by decide)
  have nea:e≠a:=λz=>by
   obtain ⟨o2,q2,c2,_⟩:=p.isList;rw [<- z,he] at q2;cases q2;exact absurd (show Value.type "enumerate" = Value.type "list" from c2) (by decide)
  have hlt:i<its.toArray.size:=by
   have:=(Eo.mp hu).1;simpa using this
  refine cr (y:=x) (J:=O3 λH xs=>SqL X.K H a xs) (tn:=λi h=>(∃ old,IsEnum h e it ((i:Nat):Int) old)/\h.IsListIter it a i) I hf (Draws.list (show X.A.in1.handled=none from I.ok.hd hc) it a nit its.toArray) he ⟨hit,p.isList⟩ hlt hne (by simp [hne,nea]) (λv hv=>?_) (λh' ho hs=>⟨?_,hs.1⟩) λq hq2=>kM hq2 (λys hy=>by rw [I.list_inj hy hq];exact hx)
  ·have hv':its[i]?=some v:=by simpa using hv
   rw [hu] at hv';cases hv';exact ru
  ·obtain ⟨o,q⟩:=ho;exact ⟨o,by rw [show ((i+1:Nat):Int)=(i:Int)+1 from rfl];exact q⟩
 done:=by
  intro X hP hw hK hc i pins s σ H E I hf st hg;subst hP hw hK;obtain ⟨xs,hq,hx⟩:=hg;obtain ⟨its,rv,p,hz⟩:=I.list hq;obtain ⟨⟨old,he⟩,hit⟩:=st;have hl:=rv.length;have nit:a≠it:=λz=>by
   obtain ⟨o,q,c,_⟩:=hit;obtain ⟨o2,q2,c2,_⟩:=p.isList;rw [z,q] at q2;cases q2;rw [c] at c2;exact absurd c2 (by decide)
  have en:i=its.toArray.size:=by simp;omega
  obtain ⟨f0,f1,f2,f3,f4,f5⟩:=hf it (by simp);exact wpAny_pyNext_enum_endD (Draws.list (show X.A.in1.handled=none from I.ok.hd hc) it a nit its.toArray) he ⟨en▸hit,p.isList⟩ λh' eb=>⟨rfl,I.turned (t':=s.toks) (λb o hb q=>eb b o hb q) f0 f1 f3 f4 f5⟩
 self:=λ_ _ _ _ _ st h=>by
  obtain ⟨⟨old,he⟩,_⟩:=st;exact HZ he h
theorem gx (a e it:Addr) (t:e≠it):Turn P w K (.Tuple elts x1 tp) (O3 λH xs=>SqT K H a xs) [e,it] e (λi h=>(∃ f,IsEnum h e it ((i:Nat):Int) f)/\h.IsTupleIter it a i) where
 mem:=by simp
 obj:=λi h st b J=>by
  have z:b=e\/b=it:=by simpa using J
  rcases z with rfl | rfl
  ·grind
  ·obtain ⟨o,q,c,d⟩:=st.2;exact ⟨o,q,λv z=>by rw [d] at z;cases z⟩
 keep:=λi h h' st k=>⟨(let ⟨f,q⟩:=st.1;⟨f,k e (by simp) _ q⟩),st.2.at λo q=>k it (by simp) o q⟩
 item:=by
  intro X L F O N i pins s σ H E I C st B;subst L F O;obtain ⟨xs,x,y,D⟩:=B;obtain ⟨j,G,p,hz⟩:=I.tuple y;have pt:=p;obtain ⟨u,Y,ru⟩:=G.get D;obtain ⟨⟨f,r⟩,g⟩:=st;have n:a≠it:=λz=>by
   obtain ⟨o,q,c,_⟩:=g;obtain ⟨R,l,m,_⟩:=pt;rw [z,q] at l;cases l;rw [c] at m;exact absurd m (by decide)
  have Q:e≠a:=λz=>by
   obtain ⟨R,l,m,_⟩:=pt;rw [<- z,r] at l;cases l;exact absurd (show Value.type "enumerate" = Value.type "tuple" from m) (by decide)
  have M:i<j.toArray.size:=by
   have:=(Eo.mp Y).1;simpa using this
  refine cr (tn:=λi h=>(∃ f,IsEnum h e it ((i:Nat):Int) f)/\h.IsTupleIter it a i) I C (pT (show X.A.in1.handled=none from I.ok.hd N) it a n j.toArray) r ⟨g,pt⟩ M t (by simp [t,Q]) (λv hv=>?_) (λh' ho hs=>⟨?_,hs.1⟩) λq A=>kM A (λys V=>by rw [I.tuple_inj V y];exact D)
  ·grind
  ·grind
 done:=by
  intro X L F O N i pins s σ H E I C st B;subst L F O;obtain ⟨xs,y,D⟩:=B;obtain ⟨j,G,p,hz⟩:=I.tuple y;have pt:=p;obtain ⟨⟨f,r⟩,g⟩:=st;have hl:=G.length;have n:a≠it:=λz=>by
   obtain ⟨o,q,c,_⟩:=g;obtain ⟨R,l,m,_⟩:=pt;rw [z,q] at l;cases l;rw [c] at m;exact absurd m (by decide)
  have S:i=j.toArray.size:=by simp;omega
  obtain ⟨T,U,f2,f3,f4,W⟩:=C it (by simp);exact wpAny_pyNext_enum_endD (pT (show X.A.in1.handled=none from I.ok.hd N) it a n j.toArray) r ⟨S▸g,pt⟩ λh' Z=>⟨rfl,I.turned (λb o J q=>Z b o J q) T U f3 f4 W⟩
 self:=λ_ _ _ _ _ st h=>by
  obtain ⟨⟨f,r⟩,_⟩:=st;exact HZ r h
end
section
variable {X:Cx} {elts:List Expr} {x1:Nat} {tp:Pos}
theorem kx:bootBuiltins "enumerate" = some (.type "enumerate"):=by decide +kernel
theorem vQ (u:Gl X "enumerate") (x:X.mg "enumerate" = none) (w:PA X [l] ta) (hs:starEach [l] X.env=[(false,eval l X.env)]) :
  PI X (.Tuple elts x1 tp) (.Call (.Name "enumerate" p) [l] [] pos) (λσ H R=>ta σ H λvs f=>∃ a,vs=[.ref a]/\(((∃ xs,SqL X.K f a xs)/\R (O3 λH xs=>SqL X.K H a xs) f)\/((∃ xs,SqT X.K f a xs)/\R (O3 λH xs=>SqT X.K H a xs) f))):=by
 intro pins s σ H R I h;refine Call_ (A8 I u x kx (Ga (thn (w pos pins s σ H _ I h) λus c ⟨vs,f,d,A,n⟩=>?_) hs rfl));obtain ⟨a,e,n⟩:=n;subst e;cases A with
 | cons r y=>
  cases y;cases r;have o:∀ h':Heap,h'.objs.size=c.heap.objs.size+2->∀ b∈[c.heap.objs.size+1,c.heap.objs.size],L0 X pins f b:=λh' _ b v=>by
   have z:b=c.heap.objs.size+1\/b=c.heap.objs.size:=by simpa using v
   rcases z with rfl | rfl
   ·exact d.fpOk (Gb _) (d.hok.fresh (Gb _))
   ·exact d.fpOk (Es _) (d.hok.fresh (Es _))
  rcases n with ⟨⟨xs,k⟩,q⟩ | ⟨⟨xs,k⟩,q⟩
  ·obtain ⟨m,t,p,hz⟩:=d.list k;refine call_enumerate_list p.isList λh' g j hsz i=>?_;exact HZ g ⟨_,[c.heap.objs.size+1,c.heap.objs.size],_,_,f,rfl,d.kept i,iM a _ _ (Jm _),⟨⟨_,g⟩,j⟩,o h' hsz,q⟩
  ·obtain ⟨m,t,p,hz⟩:=d.tuple k;refine hW (p) λh' g j hsz i=>?_;exact HZ g ⟨_,[c.heap.objs.size+1,c.heap.objs.size],_,_,f,rfl,d.kept i,gx a _ _ (Jm _),⟨⟨_,g⟩,j⟩,o h' hsz,q⟩
end
end L2
namespace L3
open PySem PySem.Spec PyProof.Rows L2
def A3 (ds:List D):Src:=λi _=>match ds[i]? with
 | some d=>some (some (.tup [.int (i:Int),d]))
 | none=>if i=ds.length then some none else none
def Y1 (d:D):M (Src×Nat):=match d with
 | .tup ds=>ret (A3 ds,ds.length+1)
 | .lst ds=>ret (A3 ds,ds.length+1)
 | .scr ds=>ret (A3 ds,ds.length+1)
 | _=>bad
section
variable {K:PySem.W.Frag} {cl:Nat->Addr} {μ:Mp} {H:Hp}
theorem wq {ds:List D} (j:∀ μ2 a S2,LatU μ H μ2 a->Rep K cl μ2 S2 a->Sq a xs) (r:RDs K μ H ds xs):Yl K cl (O3 Sq) μ H (A3 ds):=λi μ2 a S2 l f=>by
 have b:=j μ2 a S2 l f;have h:=r.laterU l;show bI K cl (O3 Sq) i μ2 a S2 (match ds[i]? with
  | some d=>some (some (.tup [.int (i:Int),d]))
  | none=>if i=ds.length then some none else none)
 cases e:ds[i]? with
 | none=>
  by_cases q:i=ds.length
  ·rw [if_pos q];exact ⟨xs,b,by rw [<- r.length];exact q.symm⟩
  ·rw [if_neg q];exact trivial
 | some d=>
  obtain ⟨v,c,k⟩:=h.get e;refine ⟨⟨xs,v,b,c⟩,λx m z=>?_⟩;obtain ⟨p,y,rfl,g,rfl,q⟩:=z;have:=q xs b;rw [c] at this;cases this;exact G8 f (.cons (.int _) (.cons k .nil)) g
theorem xq (h:TupAt K μ H a xs) (r:RDs K μ H ds xs):Yl K cl (O3 λH xs=>SqT K H a xs) μ H (A3 ds):=wq (λμ2 i S2 l j=>by
 rcases h with ⟨q,n1,n2⟩ | q
 ·rcases q with q | ⟨o,q⟩
  ·exact .inl (.inl (l.oth _ _ q n1 n2))
  ·exact .inl (.inr ⟨o,l.oth _ _ q n1 n2⟩)
 ·obtain ⟨o,b,n,f,g,c,d,e,_⟩:=q;exact .inr ⟨o,b,n,f,g,c,d,e⟩) r
theorem pz (h:LstAt μ H a xs\/ScrAt K μ H a xs) (r:RDs K μ H ds xs):Yl K cl (O3 λH xs=>SqL K H a xs) μ H (A3 ds):=wq (λμ2 c S2 l b=>by
 rcases h with ⟨q,n1,n2⟩ | ⟨q,n1,n2⟩ | q
 ·exact .inl (.inl (l.oth _ _ q n1 n2))
 ·rcases q with q | ⟨o,q⟩
  ·exact .inl (.inl (l.oth _ _ q n1 n2))
  ·exact .inl (.inr ⟨o,l.oth _ _ q n1 n2⟩)
 ·exact .inr q) r
end
section
variable {X:Cx} {cl:Nat->Addr} {xe:Addr->Hp->Prop} {elts:List Expr} {x1:Nat} {tp p pos:Pos}
theorem oE (hg:Gl X "enumerate") (hm:X.mg "enumerate" = none) (ha:PA X [a] (tDs X.K cl xe fs)) (hs:noStar a=true) :
  PI X (.Tuple elts x1 tp) (.Call (.Name "enumerate" p) [a] [] pos) (tIt X.K cl xe λρ=>bind (fs ρ) λds=>match ds with
   | [d]=>Y1 d
   | _=>bad):=
 PI.imp (vQ hg hm ha (c7 hs)) λσ H R ⟨μ,S,ρ,eo,rp,P⟩=>⟨μ,S,ρ,eo,rp,P.bind.imp λds S1 μ1 H1 l1 r1 p1 vs rvs=>by
  cases rvs with
  | nil=>exact False.elim p1
  | cons h t=>
   cases t with
   | cons _ _=>exact False.elim p1
   | nil=>
    cases h with
    | tup h r=>exact ⟨_,rfl,.inr ⟨⟨_,h.sq⟩,p1.ret μ1 H1 (Lat.refl _ _) r1 _ (xq h r)⟩⟩
    | lst h r=>exact ⟨_,rfl,.inl ⟨⟨_,h.sq⟩,p1.ret μ1 H1 (Lat.refl _ _) r1 _ (pz (.inl h) r)⟩⟩
    | scr h r=>exact ⟨_,rfl,.inl ⟨⟨_,h.sq⟩,p1.ret μ1 H1 (Lat.refl _ _) r1 _ (pz (.inr h) r)⟩⟩
    | _=>exact False.elim p1⟩
end
end L3
namespace L2
open PySem PySem.Spec PyProof.Rows
section
variable {prog:Program} {w:World} {A:Around} {s:Shared} {R:Result->Shared->Prop}
theorem eE {B b y:Expr} {ifs:List Expr} {p:Scope} {pos:Pos} {it C:Value} {a:PySem.Env} (I:Nat->Shared->Prop)
  (D:∀ n s,I n s->wpAny (model prog w) A (pyNext it) (λr f=>match r with
   | none=>R (.ok .next) f
   | some v=>wpAny (model prog w) A (letOwnedTupleGo b it v) (λ_ g=>wpAny (model prog w) A (assign b a v) (λ_ j=>
     wpAny (model prog w) A (forIn ifs true λc r=>if r=true then do let t <- isTrue c a (eval c a);pure (ForInStep.yield t) else pure (ForInStep.yield r)) (λt d=>
      if t=true then wpAny (model prog w) A (eval B a) (λx i=>
       wpAny (model prog w) A (call (.builtin "list.append") [C,x]) (λ_ l=>∃ m,m<n/\I m l) (notedBy (model prog w) A a λe s'=>R (.error e) s') i) (notedBy (model prog w) A a λe s'=>R (.error e) s') d
      else ∃ m,m<n/\I m d) (notedBy (model prog w) A a λe s'=>R (.error e) s') j) (notedBy (model prog w) A a λe s'=>R (.error e) s') g) (notedBy (model prog w) A a λe s'=>R (.error e) s') f) (notedBy (model prog w) A a λe s'=>R (.error e) s') s)
  (n:Nat) (h:I n s):codeAny (model prog w) A (.compLoop (.ListComp B [⟨b,y,ifs,0⟩] p pos) 0 it C a) R s:=by
 refine codeAny_loop rfl I (λn s E=>?_) n h;refine wpAny_noted ?_;rw [compTurn_list];refine Ej (HB (Ej (FI (D n s E) (λr f o=>?_) λ_ _ h'=>h')));cases r with
 | none=>exact Ek o
 | some v=>
  refine Ej (FI o (λ_ g h₀=>?_) λ_ _ h'=>h');refine Ej (FI h₀ (λ_ j u=>Ej (FI u (λt d k=>?_) λ_ _ h'=>h')) λ_ _ h'=>h');cases t with
  | false=>exact Ek ⟨rfl,k⟩
  | true=>
   exact Ej (Ej (FI k (λx i q=>Ej (FI q (λ_ l z=>Ek (Ek ⟨rfl,z⟩)) λ_ _ h'=>h')) λ_ _ h'=>h'))
end
def qG (k:Nat) (caps:List Nat) (n:TI) (f:TG) (p:TT) (te:TE):TE:=λσ H Q=>n σ H λJ g=>∀ a,g a=none->∃ W:Nat->Nat->List V->Hp->Prop,(∃ m,W 0 m [] (upd g a (.lst []))) /\
 ∀ i m ys e,W i m ys e->e a=some (.lst ys)/\((J.stop i e/\Q (.ref a) e)\/(J.go i e/\∀ x l,J.yld i e x l->f x (List.replicate k none++A6 caps σ) l λd o=>∃ c:List (Option V),c.length=k/\d=c++A6 caps σ/\p d o λb h=>
  if b=true then te d h λy j=>j a=some (.lst ys)/\ys.length<sizeLine/\∃ m',m'<m/\W (i+1) m' (ys++[y]) (upd j a (.lst (ys++[y])))
  else ∃ m',m'<m/\W (i+1) m' ys h))
theorem oy {X:Cx} {elt iter tg:Expr} {k:Nat} {tgp:TG} {ifs:List Expr} {scope:Scope} {pos:Pos} {N':List Str} {caps:List Nat} {wi:TI} {tc:TT} {te:TE}
  (T:CompText X.N X.env N' k caps scope) (hc:X.calm=true) (hg:∀ pins C fp s H,PG (c8 X pins N' scope C fp s H) tg tgp) (hi:PI X tg iter wi)
  (ht:∀ pins C fp s H,PTL (c8 X pins N' scope C fp s H) ifs tc) (he:∀ pins C fp s H,PE (c8 X pins N' scope C fp s H) elt te)
  (hs:∀ x,foldedSetIterable iter X.env x=pure x:=by intro _;rfl):PE X (.ListComp elt [⟨tg,iter,ifs,0⟩] scope pos) (qG k caps wi tgp tc te):=by
 intro pins s σ H Q I h;have fr:∀ x∈scope.names,x.2=NameKind.free->∃ c,X.env.cells.lookup x.1=some c:=λx hx hk=>I.ok.has x.1 (T.free x hx hk).2;rw [eval_ListComp];refine HD (use:=none) rfl hs (D2 fr) T.kind T.loc ?_;refine thn (hi pins s σ H _ I h) λv s1 h1=>thn h1 λitv s2 h2=>?_;obtain ⟨it,fp,tn,J,H2,rfl,I2,Tn,st2,f2,h2⟩:=h2;obtain ⟨W,⟨m0,w0⟩,turn⟩:=h2 s2.heap.objs.size (I2.hok.fresh (Es _));have hlt:∀ b∈fp,b<s2.heap.objs.size:=λb hb=>let ⟨o,e,_⟩:=Tn.obj _ _ st2 b hb;Ew e
 refine Ft (Io T.cell (by intro y hy;simp at hy) (λh₁ hns₁ hsb₁=>?_) T.kind);dsimp only at hns₁ hsb₁ ⊢;have hC:(s2.heap.push { cls:=.type "list",dict:=none,data:=.seq ([]:List Value).toArray }).objs.size=s2.heap.objs.size+1:=FT ..;rw [hC] at hns₁ hsb₁;have old:∀ b o,s2.heap.get? b=some o->h₁.get? b=some o:=λb o e=>hsb₁.extBut b o (Ex (FH (Ew e))) (El _ (El _ e));have hacc:h₁.get? s2.heap.objs.size=some { cls:=.type "list",data:=.seq #[] }:=hsb₁.extBut _ _ (Ex (FB _)) (El _ (Eu _ rfl));have hst₁:tn 0 h₁:=Tn.keep _ _ _ st2 λb _ o e=>old b o e;have I3:=P3 (t:=s2.toks+([]:List (Str×Value)).length) T I2 f2 hlt hns₁ old hacc;have stat:∀ {H':Hp},(∀ b∈fp,H' b=none)->∀ b∈fp,L0 (c8 X pins N' scope (s2.heap.objs.size+1) fp s2 H2) [] H' b:=λhn b hb=>by
  refine ⟨hn b hb,(I3.ok.exf b hb).1,I3.ok.exfs b hb,.inl hb,(I3.ok.exf b hb).2,λp hp=>?_⟩;have hp':p∈X.pn++pins:=by
   have:p∈(X.pn++pins)++[]:=hp;rwa [FM] at this
  exact (f2 b hb).2.2.2.2.2 p hp'
 have loop:∀ s3:Shared,s3={ s2 with heap:=h₁,toks:=s2.toks+([]:List (Str×Value)).length } ->
   codeAny (model X.prog X.w) X.A (.compLoop (.ListComp elt [⟨tg,iter,ifs,0⟩] scope pos) 0 (.ref it) (.ref s2.heap.objs.size) (compEnvC scope (V7 X.env.cells scope.names) (s2.heap.objs.size+1) X.env))
    (compPost (model X.prog X.w) X.A X.xe none (EP X pins σ Q) (.ref s2.heap.objs.size) (s2.heap.objs.size+1)) s3:=by
  rintro s3 rfl;refine eE (λn s'=>∃ i ys H',Inv (c8 X pins N' scope (s2.heap.objs.size+1) fp s2 H2) [] (List.replicate k none++A6 caps σ) H' s'/\tn i s'.heap/\(∀ b∈fp,H' b=none)/\W i n ys H') ?_ m0
   ⟨0,[],_,I3,hst₁,λb hb=>by rw [a8 (Ex (hlt b hb))];exact (f2 b hb).1,w0⟩
  rintro n s4 ⟨i,ys,H4,I4,st4,fr4,w4⟩;obtain ⟨hacc4,turn4⟩:=turn i n ys H4 w4;refine f6 ?_;rcases turn4 with ⟨stop,q⟩ | ⟨go,step⟩
  ·refine thn (Tn.done (c8 X pins N' scope (s2.heap.objs.size+1) fp s2 H2) rfl rfl rfl hc i [] s4 _ H4 (λ_ _=>False) I4 (stat fr4) st4 stop) λr s5 ⟨hr,I5⟩=>?_;subst hr;obtain ⟨m5,hn5,_⟩:=id I5.loc;refine ⟨m5,hn5,λh' hs'=>?_⟩;refine ⟨.ref s2.heap.objs.size,H4,?_,rfl,q⟩;refine I2.call' (ch:=fp) (s':={ s5 with heap:=h' }) I5.os (Un.sameBut I5.base hs' (Gb _)) (I5.hok.sameBut I5.free hs') I5.bare λb hb=>?_;have:=f2 b hb;exact ⟨this.2.2.2.1,this.2.1,this.2.2.2.2.1,this.2.2.2.2.2⟩
  ·refine thn (Tn.item (c8 X pins N' scope (s2.heap.objs.size+1) fp s2 H2) rfl rfl rfl hc i [] s4 _ H4 (λ_ _=>False) I4 (stat fr4) st4 go) λr s5 ⟨u,hr,h5⟩=>?_;subst hr;dsimp only;refine f6 (thn h5 λ_ s6 ⟨xv,H6,I6,r6,y6,st6,fr6⟩=>?_);have I6':=I6.pinned (stat fr6) (Tn.obj _ _ st6);refine f6 (thn (hg pins _ fp s2 H2 _ s6 _ H6 xv u _ I6' r6 (step xv _ y6)) λ_ s7 ⟨σ7,H7,I7,vals,hv,e7,q7⟩=>?_);subst e7;have back:∀ {σ8:St} {H8:Hp} {s8:Shared},Inv (c8 X pins N' scope (s2.heap.objs.size+1) fp s2 H2) ([]++D7 fp s6.heap) σ8 H8 s8->tn (i+1) s8.heap/\∀ b∈fp,H8 b=none:=λ{σ8 H8 s8} I8=>by
    refine ⟨Tn.keep _ _ _ st6 λb hb o e=>(I8.pin (b,o) (Fm _ (Fm _ (o0 hb e)))).1,λb hb=>?_⟩;obtain ⟨o,e,d⟩:=Tn.obj _ _ st6 b hb;exact (I8.pin (b,o) (Fm _ (Fm _ (o0 hb e)))).2.1
   refine f6 (thn (ht pins _ fp s2 H2 _ s7 _ _ _ I7 q7) λb s8 ⟨H8,I8,q8⟩=>?_);have wk:∀ {H9:Hp} {s9:Shared},Inv (c8 X pins N' scope (s2.heap.objs.size+1) fp s2 H2) ([]++D7 fp s6.heap) (vals++A6 caps σ) H9 s9->Inv (c8 X pins N' scope (s2.heap.objs.size+1) fp s2 H2) [] (List.replicate k none++A6 caps σ) H9 s9:=λ{H9 s9} I9=>
    I9.unpinned.weak (by simp [hv]) λj v e=>by
     by_cases hj:j<k
     ·rw [Et (by simpa using hj),HL,if_pos hj] at e;cases e
     ·rw [FF (by simpa using hj)] at e;rw [FF (by omega),hv];simpa using e
   cases b with
   | false=>
    obtain ⟨m',hm,w'⟩:=q8;exact ⟨m',hm,i+1,ys,H8,wk I8,(back I8).1,(back I8).2,w'⟩
   | true=>
    refine f6 (thn (he pins _ fp s2 H2 _ s8 _ H8 _ I8 q8) λz s9 ⟨y,H9,I9,r9,hacc9,hl9,m',hm,w'⟩=>?_);refine f6 (thn (N0 (X:=c8 X pins N' scope (s2.heap.objs.size+1) fp s2 H2) _ s9 _ H9 (.ref s2.heap.objs.size) [y] (.ref s2.heap.objs.size) [z] (λ_ H'=>H'=upd H9 s2.heap.objs.size (.lst (ys++[y]))) I9 rfl (.cons r9 .nil) ⟨_,ys,y,rfl,rfl,hacc9,hl9,rfl⟩) λ_ s10 ⟨_,H10,I10,_,e10⟩=>?_);subst e10;exact ⟨m',hm,i+1,ys++[y],_,wk I10,(back I10).1,(back I10).2,w'⟩
 have fin:=HW (loop _ rfl) (Tn.self _ 0 _ _ _ hst₁ (loop _ rfl));rw [<- hC] at fin;exact fin
end L2
namespace L3
open PySem PySem.Spec PyProof.Rows L2
def mk2 (c:Env) (d:D):Env:=match d with
 | .tup [a,b]=>some a :: some b :: c
 | _=>[]
def mn (t:Env->M Bool) (ρ:Env):M Bool:=match ρ with
 | []=>bad
 | o :: ρ=>t (o :: ρ)
def eF (caps:List Nat) (b:Env->M (Src×Nat)) (t:Env->M Bool) (f:Env->M D) (ρ:Env):M (List D):=bind (b ρ) λa=>u0 a.1 (mn t) f (mk2 (E7 caps ρ)) a.2 0 []
theorem qI {K:PySem.W.Frag} {μ:Mp} {H:Hp} {ρ:Env} {σ:L2.St} {d:D} {x:V} (a:EnvOk K μ H ρ σ) (r:RD K μ H d x):EnvOk K μ H (some d :: ρ) (some x :: σ):=by
 refine ⟨by simp [a.1],λi e b=>?_⟩;cases i with
 | zero=>grind
 | succ j=>exact a.2 j e b
def Dm:TGs:=pK (bg 0) (pK (bg 1) gNil)
theorem ee {K:PySem.W.Frag} {cl:Nat->Addr} {xe:Addr->Hp->Prop} {caps:List Nat} {fi:Env->M (Src×Nat)} {t:Env->M Bool} {f:Env->M D} {σ:L2.St} {H:Hp} {μ:Mp} {S:Sto} {ρ:Env} {Q:VK} (eo:EnvOk K μ H ρ σ) (rp:Rep K cl μ S H)
  (p:Post K cl xe μ H (eF caps fi t f ρ S) λds _ μ' H'=>∀ c ys,LstAt μ' H' c ys->RDs K μ' H' ds ys->Q (.ref c) H'):qG 2 caps (tIt K cl xe fi) (BM K 2 Dm) (tBo K cl xe t) (tD K cl xe f) σ H Q:=by
 refine ⟨μ,S,ρ,eo,rp,p.bind.imp λsm S1 u H1 l1 L p1 J yl c g=>?_⟩;obtain ⟨src,m0⟩:=sm;have W:=L.notrs g;refine ⟨λi m ys s=>∃ μ2 S2 es,HLat u H1 c μ2 s/\c∉μ2.pl/\s c=some (.lst ys)/\EnvOk K μ2 s ρ σ/\Rep K cl μ2 S2 s/\RDs K μ2 s es ys/\Post K cl xe u H1 (u0 src (mn t) f (mk2 (E7 caps ρ)) m i es S2) (λds _ μ' H'=>∀ c ys,LstAt μ' H' c ys->RDs K μ' H' ds ys->Q (.ref c) H'),⟨m0,u.hold c,S1,[],?_,L.notin g,b6,T9 L g (eo.later l1),Q1 L g,.nil,p1⟩,?_⟩
 ·refine ⟨⟨λ_ _ e=>e,λa o e _=>by rw [a8 (b8 e g)];exact e,λa m=>.inl m,λa m=>?_⟩,rfl⟩;rcases Ez.mp (m) with rfl | m
  ·exact .inr g
  ·exact .inl m
 rintro i m ys s ⟨μ2,S2,es,P,A,G,z,r2,h,k⟩;refine ⟨G,?_⟩;cases m with
 | zero=>exact k.elim
 | succ m=>
  have y:bI K cl J i μ2 s S2 (src i S2):=yl i μ2 s S2 P.r.u r2;simp only [u0] at k;cases e1:src i S2 with
  | none=>rw [e1] at k;exact k.elim
  | some o=>
   rw [e1] at k y;cases o with
   | none=>
    refine .inl ⟨y,k μ2.free s (P.lat (Lat.refl _ _)) (aS r2) c ys ⟨G,A,?_⟩ (fL h)⟩;show c∉μ2.rs.tail;rw [P.rs];exact W
   | some d=>
    obtain ⟨y1,y2⟩:=y;refine .inr ⟨y1,λx H3 hy=>?_⟩;obtain ⟨l3,r3,R⟩:=y2 x H3 hy;have h3:=P.step l3;cases R with
    | tup ht rs=>
     cases rs with
     | nil=>exact False.elim k
     | cons ra rs=>
      cases rs with
      | nil=>exact False.elim k
      | cons rb rs=>
       cases rs with
       | cons _ _=>exact False.elim k
       | nil=>
        rename_i da va db V;refine ⟨_,_,rfl,ht.sq,rfl,va,[V],rfl,V,[],rfl,rfl,[some va,some V],rfl,rfl,?_⟩;have ev:=qI (Q5 (caps:=caps) (z.later l3) rb) ra;refine ⟨μ2,S2,some da :: some db :: E7 caps ρ,ev,r3,(Post.at k h3).imp λb S5 B H5 U r5 Z=>?_⟩;have h5:=h3.step U;have l:=l3.trans U;have T:=l.oth _ _ G A;have X:=l.out G A;cases b with
        | false=>exact ⟨m,FB _,B,S5,es,h5,X,T,z.later l,r5,h.later l,Z⟩
        | true=>
         refine vb ?_;rw [if_pos rfl] at Z;refine ⟨B,S5,some da :: some db :: E7 caps ρ,ev.later U,r5,(Post.at Z h5).imp λyv S6 Y H6 N r6 I v rv=>?_⟩;have C:=h5.step N;have E:=l.trans N;have a6:=N.oth _ _ T X;have n6:=N.out T X;by_cases hz:es.length<sizeLine
         ·rw [if_pos hz] at I;have O:=C.rs;refine ⟨a6,by rw [<- h.length];exact hz,m,FB _,Y,S6,es++[yv],?_,n6,b6,?_,W9 O a6 r6,W6 O ((h.later E).append (.cons rv .nil)),I⟩
          ·refine ⟨⟨C.r.pre,λa o e n=>?_,C.r.new,C.r.rsw⟩,O⟩;rw [a8 (b8 e g)];exact C.r.oth a o e n
          ·have F:=z.later E;exact ⟨F.1,λj e he=>let ⟨w,q,r⟩:=F.2 j e he;⟨w,q,aW O r⟩⟩
         ·rw [if_neg hz] at I;exact I.elim
    | _=>exact False.elim k
section
variable {X:Cx} {cl:Nat->Addr} {xe:Addr->Hp->Prop} {elt iter:Expr} {x y:Str} {px py tp pos:Pos} {kk:Nat} {ifs:List Expr} {scope:Scope} {N':List Str} {caps:List Nat} {fi:Env->M (Src×Nat)} {t:Env->M Bool} {f:Env->M D}
theorem lU (T:CompText X.N X.env N' 2 caps scope) (h:X.calm=true) (g:N'.Nodup) (d:N'[0]?=some x) (e:N'[1]?=some y) (c:scope.names.lookup x=some .local) (a:scope.names.lookup y=some .local) (j:PI X (.Tuple [.Name x px,.Name y py] kk tp) iter (tIt X.K cl xe fi))
  (n:∀ pins C b s H,PTL (c8 X pins N' scope C b s H) ifs (tBo X.K cl xe t)) (m:∀ pins C b s H,PE (c8 X pins N' scope C b s H) elt (tD X.K cl xe f)) (i:v9 iter=true) :
  PE X (.ListComp elt [⟨.Tuple [.Name x px,.Name y py] kk tp,iter,ifs,0⟩] scope pos) (qB X.K cl xe (eF caps fi t f)):=
 PE.imp (oy T h (λpins C b s H=>nU (X:=c8 X pins N' scope C b s H) h (bG (N3 g d (.inl (Gc c)) (.inr (Gc c))) (bG (N3 g e (.inl (Gc a)) (.inr (Gc a))) jT))) j n m (A5 i)) λσ H Q ⟨μ,S,ρ,l,k,p⟩=>ee l k p
end
def h7 (d:D):M Bool:=match d with
 | .non=>ret false
 | .bl b=>ret b
 | .int i=>ret (i != 0)
 | .str x=>if x.length<=sizeLine then ret ((x.length:Int) != 0) else bad
 | .ref n=>λS=>match S[n]? with
  | some (.lst ds)=>.ok (!ds.isEmpty) S
  | some (.dct a)=>.ok (!a.isEmpty) S
  | _=>.bad
 | d=>bind (B1 d) λds=>ret (!ds.isEmpty)
section
variable {K:PySem.W.Frag} {cl:Nat->Addr} {xe:Addr->Hp->Prop} {μ:Mp} {H:Hp} {S:Sto}
theorem M9 (r:RDs K μ H ds vs):ds.isEmpty=vs.isEmpty:=by cases r <;> rfl
theorem aI (rd:RD K μ H d v) (rp:Rep K cl μ S H) (p:Post K cl xe μ H (h7 d S) G):∃ k,ko K v H k/\G k S μ H:=by
 cases rd with
 | non=>exact ⟨_,rfl,p μ H (Lat.refl _ _) rp⟩
 | bl b=>exact ⟨_,rfl,p μ H (Lat.refl _ _) rp⟩
 | int i=>exact ⟨_,rfl,p μ H (Lat.refl _ _) rp⟩
 | str x=>
  obtain ⟨hl,p⟩:=Post.guard p;exact ⟨_,⟨hl,rfl⟩,p μ H (Lat.refl _ _) rp⟩
 | tup h r=>exact ⟨_,.inr (.inl ⟨_,h.sq,by rw [<- M9 r]⟩),p μ H (Lat.refl _ _) rp⟩
 | lst h r=>exact ⟨_,.inl ⟨_,h.sq,by rw [<- M9 r]⟩,p μ H (Lat.refl _ _) rp⟩
 | scr h r=>exact ⟨_,.inl ⟨_,h.sq,by rw [<- M9 r]⟩,p μ H (Lat.refl _ _) rp⟩
 | ref h=>
  rename_i n a;simp only [h7] at p;cases q1:S[n]? with
  | none=>rw [q1] at p;exact p.elim
  | some o=>
   rw [q1] at p;cases o with
   | lst ds=>
    obtain ⟨xs,h1,h2⟩:=rp.ats n _ a q1 h;exact ⟨_,.inl ⟨xs,.inl (.inl h1),by rw [<- M9 h2]⟩,p μ H (Lat.refl _ _) rp⟩
   | dct kvs=>
    obtain ⟨ks,h1,h2⟩:=rp.ats n _ a q1 h;refine ⟨_,.inr (.inr ⟨ks,h1,rfl⟩),?_⟩;have e:kvs.isEmpty=ks.isEmpty:=by cases h2 <;> rfl
    rw [<- e];exact p μ H (Lat.refl _ _) rp
   | exc _ _=>exact p.elim
end
section
variable {X:Cx} {cl:Nat->Addr} {xe:Addr->Hp->Prop} {a b e:Expr} {es rest:List Expr} {pos:Pos} {f g:Env->M D}
theorem oG (h:PE X a (tD X.K cl xe f)) (i:D8 a=true):PT X a (tBo X.K cl xe λρ=>bind (f ρ) h7):=PT.imp (oe h (test_of i)) λσ H Q ⟨μ,S,ρ,b,k,p⟩=>
 ⟨μ,S,ρ,b,k,p.bind.imp λd S1 j l m e g v c=>aI c e g⟩
theorem yx (h:PE X a (tD X.K cl xe f)):PE X (.UnaryOp .Not a pos) (tD X.K cl xe λρ=>bind (f ρ) λd=>bind (h7 d) λk=>ret (.bl (!k))):=by
 intro pins s σ H Q I ⟨μ,S,ρ,j,t,p⟩;refine UnaryOp_ (thn (h pins s σ H (λv b=>∃ k,ko X.K v b k/\Q (.bl (!k)) b) I ⟨μ,S,ρ,j,t,p.bind.imp λd S1 e b B i r v m=>let ⟨k,g,q⟩:=aI m i r.bind;⟨k,g,q e b (Lat.refl _ _) i _ (.bl _)⟩⟩) λv z ⟨x,b,y,l,k,g,q⟩=>?_);exact not_of (thn (dD pins z σ b x v (λo H'=>o=k/\H'=b) y l ⟨k,g,rfl,rfl⟩) λc C ⟨A,w,u,n⟩=>by
  subst u n;exact ⟨.bl (!c),A,w,rfl,q⟩)
theorem oT (h:PE X a (tD X.K cl xe f)):PE X (.BoolOp op [a] pos) (tD X.K cl xe f):=yj h
theorem xA (h:PE X a (tD X.K cl xe f)) (k:PE X (.BoolOp .And (b :: rest) pos) (tD X.K cl xe g)):PE X (.BoolOp .And (a :: b :: rest) pos) (tD X.K cl xe λρ=>bind (f ρ) λd=>bind (h7 d) λq=>if q=true then g ρ else ret d):=by
 intro pins s σ H Q I ⟨μ,S,ρ,m,A,p⟩;refine BoolOp_and (thn (h pins s σ H (λv e=>∃ c,ko X.K v e c/\if c=true then tD X.K cl xe g σ e Q else Q v e) I ⟨μ,S,ρ,m,A,p.bind.imp λd S1 i e F j w v n=>?_⟩) λv z ⟨x,e,E,t,c,l,q⟩=>?_)
 ·obtain ⟨c,l,q⟩:=aI n j w.bind;refine ⟨c,l,?_⟩;cases c with
  | true=>exact ⟨i,S1,ρ,m.later F,j,q⟩
  | false=>exact q i e (Lat.refl _ _) j _ n
 ·refine thn (dD pins z σ e x v (λB H'=>B=c/\H'=e) E t ⟨c,l,rfl,rfl⟩) λC D ⟨r,o,y,u⟩=>?_;subst y u;cases C with
  | true=>exact k pins D σ r Q o q
  | false=>exact ⟨x,r,o,t,q⟩
theorem Ct (h:PE X a (tD X.K cl xe f)) (k:PE X (.BoolOp .Or (b :: rest) pos) (tD X.K cl xe g)):PE X (.BoolOp .Or (a :: b :: rest) pos) (tD X.K cl xe λρ=>bind (f ρ) λd=>bind (h7 d) λq=>if q=true then ret d else g ρ):=by
 intro pins s σ H Q I ⟨μ,S,ρ,m,A,p⟩;refine BoolOp_or (thn (h pins s σ H (λv e=>∃ c,ko X.K v e c/\if c=true then Q v e else tD X.K cl xe g σ e Q) I ⟨μ,S,ρ,m,A,p.bind.imp λd S1 i e F j w v n=>?_⟩) λv z ⟨x,e,E,t,c,l,q⟩=>?_)
 ·obtain ⟨c,l,q⟩:=aI n j w.bind;refine ⟨c,l,?_⟩;cases c with
  | true=>exact q i e (Lat.refl _ _) j _ n
  | false=>exact ⟨i,S1,ρ,m.later F,j,q⟩
 ·refine thn (dD pins z σ e x v (λB H'=>B=c/\H'=e) E t ⟨c,l,rfl,rfl⟩) λC D ⟨r,o,y,u⟩=>?_;subst y u;cases C with
  | true=>exact ⟨x,r,o,t,q⟩
  | false=>exact k pins D σ r Q o q
def tPt (K:PySem.W.Frag) (cl:Nat->Addr) (xe:Addr->Hp->Prop) (a:Env->M (Option Int)):TO:=λσ H Q=>∃ μ S ρ,EnvOk K μ H ρ σ/\Rep K cl μ S H/\Post K cl xe μ H (a ρ S) λo _ _ H'=>Q o H'
def br (d:D):M (Option Int):=match d with
 | .int i=>ret (some i)
 | _=>bad
theorem PO.imp {e:Option Expr} {t t':TO} (h:PO X e t) (k:∀ σ H Q,t' σ H Q->t σ H Q):PO X e t':=λpins s σ H Q I q=>h pins s σ H Q I (k σ H Q q)
theorem uS:PO X none (tPt X.K cl xe λ_=>ret none):=PO.imp uJ λσ H Q ⟨μ,S,ρ,b,a,p⟩=>p μ H (Lat.refl _ _) a
theorem sM (h:PE X e (tD X.K cl xe f)):PO X (some e) (tPt X.K cl xe λρ=>bind (f ρ) br):=PO.imp (su h) λσ H Q ⟨μ,S,ρ,eo,rp,p⟩=>
 ⟨μ,S,ρ,eo,rp,p.bind.imp λd S1 μ1 H1 l1 r1 p1 v rv=>by
  cases rv with
  | int i=>exact ⟨i,rfl,p1 μ1 H1 (Lat.refl _ _) r1⟩
  | _=>exact False.elim p1⟩
theorem N9 {s:Shared} {t e:Addr} {items:Array Value} {k i:Value} {lo c:Option Int} {Q:Value->Shared->Prop} (a:IsTup s.heap t items) (hs:s.heap.IsSliceOf e k i .none) (pl:IsPart k lo) (l:IsPart i c)
  (j:HT.sIx items.size 0 lo=0/\HT.sIx items.size items.size c=items.size) (h:Q (.ref t) s):wpAny (model prog w) A (getItem (.ref t) (.ref e)) Q E s:=by
 obtain ⟨m,g,d,hds⟩:=id hs;have f:s.TypeIs (.ref e) "slice":=⟨m,g,d⟩;unfold getItem;try with_reducible refine FU ?_
 first | refine Ej (Ek ?_) | skip
 refine Ej (Jb a.typeIs (by decide) ?_);refine Ej (FP a.typeIs FW
  (FS FW a.typeIs IA ?_ (IK _ _)))
 show wpAny _ _ (Builtin.Tuple.tupleItemsOf (.ref t) >>= _) _ _ s;refine Ej (Je a ?_);refine Ej (Hr f ?_);rw [if_pos (by decide)];refine Ej (HT.sliceApplied_gen hs pl l ?_);have b:(((HT.sIx items.size 0 lo:Nat):Int)==0&&(1:Int)==1&&(HT.sIx items.size items.size c-HT.sIx items.size 0 lo)==items.size)=true:=by
  rw [j.1,j.2];simp
 show wpAny _ _ (if (((HT.sIx items.size 0 lo:Nat):Int)==0&&(1:Int)==1&&(HT.sIx items.size items.size c-HT.sIx items.size 0 lo)==items.size)=true then _ else _) _ _ s;rw [if_pos b];refine Ej ?_;refine Ej (Hr a.typeIs (Ek ?_));rw [if_pos (by decide)];refine Ej (Ij ?_);exact Ek ⟨_,rfl,Ek h⟩
theorem vS:SlR X (λx lo e H Q=>∃ a xs,x=.ref a/\SqT X.K H a xs/\(HT.sIx xs.length 0 lo=0/\HT.sIx xs.length xs.length e=xs.length)/\Q (.ref a) H):=by
 intro pins s σ H x v m k lo e l Q I f hs pl j h;obtain ⟨a,xs,rfl,g,i,q⟩:=h;cases f;obtain ⟨c,r,d,hz⟩:=I.tuple g;have b:c.toArray.size=xs.length:=by rw [Ey];exact r.length.symm
 exact ⟨"tuple",_,PyProof.Rows.slot_tuple_getitem.lookup,d.typeIs,N9 d hs pl j (by rw [b];exact i) ⟨.ref a,H,I,rfl,q⟩⟩
theorem Dw:SlR X (λx lo hi H Q=>∃ μ S d,RD X.K μ H d x/\Rep X.K cl μ S H/\Post X.K cl xe μ H (slD d lo hi S) λr _ μ' H'=>∀ v,RD X.K μ' H' r v->Q v H'):=by
 intro pins s σ H x v vl vu lo hi sl Q I rx hs pl pu ⟨μ,S,d,rd,rp,p⟩;have sq:∀ {a:Addr} {xs:List V} {ds:List D},SqL X.K H a xs->RDs X.K μ H ds xs->x=.ref a->(∀ μ' H',Lat μ H μ' H'->Rep X.K cl μ' S H'->∀ w,RD X.K μ' H' (.lst (v5 ds lo hi)) w->Q w H') ->
   ∃ T id,typeLookup (.type T) "__getitem__" = pure (some (.builtin id))/\s.TypeIs v T/\wpAny (model X.prog X.w) X.A (getItem v (.ref sl)) (EP X pins σ Q) X.xe s:=λ{a xs ds} hq r2 hv q=>by
  subst hv;refine vK pins s σ H _ v vl vu lo hi sl Q I rx hs pl pu ⟨a,xs,rfl,hq,λz hz=>?_⟩;obtain ⟨l,rp2,rd2⟩:=B7 rp (ow r2 lo hi) hz;exact q μ _ l rp2 _ rd2
 cases rd with
 | tup h r=>
  rename_i a xs ds;by_cases hw:HT.sIx xs.length 0 lo=0/\HT.sIx xs.length xs.length hi=xs.length
  ·refine vS pins s σ H _ v vl vu lo hi sl Q I rx hs pl pu ⟨a,xs,rfl,h.sq,hw,?_⟩;have e:v5 ds lo hi=ds:=by
    unfold v5;rw [r.length,hw.1,hw.2,List.drop_zero,Nat.sub_zero];exact GY (by rw [r.length];exact Es _)
   exact p μ H (Lat.refl _ _) rp _ (by rw [e];exact .tup h r)
  ·refine yf pins s σ H _ v vl vu lo hi sl Q I rx hs pl pu ⟨a,xs,rfl,h.sq,hw,λz hz=>?_⟩;obtain ⟨l,rp2,rd2⟩:=G8 rp (ow r lo hi) hz;exact p μ _ l rp2 _ rd2
 | lst h r=>exact sq h.sq r rfl p
 | scr h r=>exact sq h.sq r rfl p
 | ref h=>
  rename_i n a0;have p2:=p;obtain ⟨a,xs,ds,e1,h1,h2,e2⟩:=r8 (.ref h) rp p2.bind;exact sq (.inl (.inl h1)) h2 e1 (p2.ok_bind e2)
 | _=>exact False.elim p
theorem Aj {lo k:Option Expr} {c:Pos} {j m:Env->M (Option Int)} (h:PE X e (tD X.K cl xe f)) (t:PO X lo (tPt X.K cl xe j)) (B:PO X k (tPt X.K cl xe m)) :
  PE X (.Subscript e (.Slice lo k none c) pos) (tD X.K cl xe λρ=>bind (f ρ) λd=>bind (j ρ) λl=>bind (m ρ) λu=>slD d l u):=PE.imp (mq Dw h t B) λσ H Q ⟨μ,S,ρ,a,s,p⟩=>
 ⟨μ,S,ρ,a,s,p.bind.imp λd S1 g C n o q v x=>⟨g,S1,ρ,a.later n,o,q.bind.imp λl S2 μ2 E i A c=>⟨μ2,S2,ρ,(a.later n).later i,A,c.bind.imp λu z b D y r w=>⟨b,z,d,(x.later i).later y,r,w⟩⟩⟩⟩
end
def K1 (x k v:D):M D:=match x with
 | .ref n=>λS=>match S[n]? with
  | some (.lst ds)=>match k with
   | .int i=>match ixN ds.length i with
    | some j=>.ok .non (S.set n (.lst (ds.set j v)))
    | none=>.bad
   | _=>.bad
  | some (.dct a)=>match O2 k with
   | some b=>if a.length<sizeLine then .ok .non (S.set n (.dct (mG a b v))) else .bad
   | none=>.bad
  | _=>.bad
 | _=>bad
theorem jD {K:PySem.W.Frag} {μ:Mp} {H:Hp} {k:Key}:∀ {a:List (Key×D)} {c:List (Key×V)},KvsAt K μ H a c->(a.any λb=>decide (b.1=k))=c.any λb=>decide (b.1=k)
 | _,_,.nil=>rfl
 | _,_,.cons ⟨d,e⟩ t=>by simp only [GC,d,jD t]
theorem jg {K:PySem.W.Frag} {μ:Mp} {H:Hp} {k:Key} {d:D} {v:V} (r:RD K μ H d v):∀ {c:List (Key×D)} {e:List (Key×V)},KvsAt K μ H c e->KvsAt K μ H (c.map λa=>if a.1=k then (a.1,d) else a) (e.map λa=>if a.1=k then (a.1,v) else a)
 | _,_,.nil=>.nil
 | _,_,.cons (b:=b) ⟨h1,h2⟩ t=>by
  refine .cons ?_ (jg r t);by_cases f:b.1=k
  ·grind
  ·grind
theorem Paired.app:∀ {xs a:List α} {ys b:List β},Paired P xs ys->Paired P a b->Paired P (xs++a) (ys++b)
 | _,_,_,_,.nil,s=>s
 | _,_,_,_,.cons r t,s=>.cons r (Paired.app t s)
theorem ji {K:PySem.W.Frag} {μ:Mp} {H:Hp} {k:Key} {d:D} {v:V} {a:List (Key×D)} {b:List (Key×V)} (h:KvsAt K μ H a b) (r:RD K μ H d v):KvsAt K μ H (mG a k d) (y0 b k v):=by
 unfold mG y0;rw [jD h];split
 ·exact jg r h
 ·exact Paired.app h (.cons ⟨rfl,r⟩ .nil)
theorem KvsAt.later {K:PySem.W.Frag} {μ μ':Mp} {H H':Hp} {a:List (Key×D)} {b:List (Key×V)} (h:KvsAt K μ H a b) (l:Lat μ H μ' H'):KvsAt K μ' H' a b:=Paired.mono (λ_ _ ⟨z,w⟩=>⟨z,w.later l⟩) h
section
variable {X:Cx} {cl:Nat->Addr} {xe:Addr->Hp->Prop} {a b e:Expr} {es rest:List Expr} {pos:Pos} {f g k:Env->M D}
theorem CF (hu:X.A.units+1<cLine):wz X (λo i v H Q=>∃ μ S x y z,RD X.K μ H x o/\RD X.K μ H y i/\RD X.K μ H z v/\Rep X.K cl μ S H/\Post X.K cl xe μ H (K1 x y z S) λ_ _ _ H'=>Q H'):=by
 intro pins s σ H o i v ov iv u Q I ro ri rv ⟨μ,S,x,y,z,rx,ry,rz,rp,p⟩;cases rx with
 | ref h=>
  rename_i n a;have m:=Fk h;simp only [K1] at p;cases q1:S[n]? with
  | none=>rw [q1] at p;exact p.elim
  | some ob=>
   rw [q1] at p;cases ob with
   | lst ds=>
    obtain ⟨xs,h1,h2⟩:=rp.ats n _ a q1 h;cases ry with
    | int j=>
     simp only at p;cases q2:ixN ds.length j with
     | none=>rw [q2] at p;exact p.elim
     | some t=>
      rw [q2] at p;refine nA pins s σ H _ _ v ov iv u Q I ro ri rv ⟨a,xs,j,t,rfl,rfl,h1,by rw [<- h2.length];exact q2,?_⟩;exact p μ _ (Lat.wrote m) (rp.wrote h ⟨_,b6,(h2.set rz t).later (Lat.wrote m)⟩)
    | _=>exact False.elim p
   | dct kvs=>
    obtain ⟨ks,h1,h2⟩:=rp.ats n _ a q1 h;cases q2:O2 y with
    | none=>rw [q2] at p;exact p.elim
    | some key=>
     rw [q2] at p;by_cases hl:kvs.length<sizeLine
     ·simp only [if_pos hl] at p;have hy:=bJ ry q2;subst hy;cases ro;have hl2:ks.length<sizeLine:=by rw [<- Paired.length h2];exact hl
      refine ki hu I (DPut.k h1 hl2) ri rv λs' I'=>⟨_,I',?_⟩;exact p μ _ (Lat.wrote m) (rp.wrote h ⟨_,b6,(ji h2 rz).later (Lat.wrote m)⟩)
     ·simp only [if_neg hl] at p;exact p.elim
   | exc _ _=>exact p.elim
 | _=>exact False.elim p
theorem kw (h:F8 b=true):∀ v,assign (.Subscript a b p2) env v=(do
   let c <- holding [v] (eval a env)
   let d <- holding [v,c] (eval b env)
   standAt p2
   holding [v,c,d] (setItem c d v)
   release [v,c,d] []):=by
 intro v;cases b <;> first | rfl | (exact absurd h (by simp [F8]))
theorem qY (o:X.A.units+1<cLine) (L:PE X e (tD X.K cl xe f)) (J:PE X a (tD X.K cl xe g)) (I:PE X b (tD X.K cl xe k)) (s:p7 e=true) (u:F8 b=true) :
  PS X (.Assign [.Subscript a b n] e pos) (sD X.K cl xe λρ=>bind (f ρ) λv=>bind (g ρ) λx=>bind (k ρ) λy=>bind (K1 x y v) λ_=>ret (.nx ρ)):=
 PS.imp (rC L (zu J I (CF o) (kw u)) (by unfold swapsWithSole;exact E4 s) rfl rfl) λD σ H ⟨μ,S,ρ,c,z,p⟩=>
  ⟨μ,S,ρ,c,z,p.bind.imp λv S1 j P m r t vv F=>⟨j,S1,ρ,c.later m,r,t.bind.imp λx S2 μ2 T d N n R K=>⟨μ2,S2,ρ,(c.later m).later d,N,n.bind.imp λy M i Q l w E O q=>
   ⟨i,M,x,y,v,K.later l,q,(F.later d).later l,w,E.bind.imp λ_ U h B G C A=>A.ret h B (Lat.refl _ _) C σ ((((c.later m).later d).later l).later G)⟩⟩⟩⟩
def C9 (x:D) (ds:List D):M D:=match x,ds with
 | .ref n,[d]=>λS=>match S[n]? with
  | some (.lst es)=>if es.length<sizeLine then .ok .non (S.set n (.lst (es++[d]))) else .bad
  | _=>.bad
 | _,_=>bad
def M4 (es:List Expr):Bool:=decide (es.length<30)
theorem rj (b:es.all noStar=true) (a:M4 es=true):((backTo cpos (starEach es X.env)).all (λx=>!x.1)&&(backToKw cpos (keywordEach [] X.env)).all (λx=>x.1.isSome)&&decide (es.length+([]:List Keyword).length+(if ([]:List Keyword).isEmpty then 0 else 1)<30))=true:=by
 rw [ab b];simpa [keywordEach,backToKw] using FG a
theorem mQ (ho:PE X a (tD X.K cl xe f)) (ha:PA X (e :: es) (tDs X.K cl xe fs)) (hb:A4 a=true) (hs:(e :: es).all noStar=true) (hf:M4 (e :: es)=true) (hl:(apos.endLine==cpos.line)=true) :
  PE X (.Call (.Attribute a "append" apos) (e :: es) [] cpos) (tD X.K cl xe λρ=>bind (f ρ) λx=>bind (lstOf x) λ_=>bind (fs ρ) λds=>C9 x ds):=by
 have hs2:=hs;rw [FV,Ep] at hs2;refine PE.imp (wR Jn PySem.F.slot_list_append PySem.F.type_list_append N0 ho ha (N1 hb) (rj hs hf) hl (c7 hs2.1) (j1 hs2.2)) λσ H Q ⟨μ,S,ρ,eo,rp,p⟩=>?_;refine ⟨μ,S,ρ,eo,rp,p.bind.imp λx S1 μ1 H1 l1 r1 p1 xv rx=>?_⟩;obtain ⟨a0,xs0,ds0,e0,h0,r0,q0⟩:=r8 rx r1 p1.bind;have p1:=p1.ok_bind q0;subst e0;refine ⟨.inl ⟨rfl,_,.inl (.inl h0)⟩,μ1,S1,ρ,eo.later l1,r1,p1.bind.imp λds S2 μ2 H2 l2 r2 p2 vs rvs=>?_⟩;have rx2:=rx.later l2;clear p1;cases rx2 with
 | ref h=>
  rename_i n
  match ds,rvs with
  | [],_=>exact False.elim p2
  | _ :: _ :: _,_=>exact False.elim p2
  | [d],rvs=>
   obtain ⟨v,rfl,rv⟩:=lB rvs;simp only [C9] at p2;cases q1:S2[n]? with
   | none=>rw [q1] at p2;exact p2.elim
   | some o=>
    rw [q1] at p2;cases o with
    | lst es=>
     obtain ⟨xs,h1,h2⟩:=r2.ats n _ _ q1 h;by_cases hl:es.length<sizeLine
     ·simp only [if_pos hl] at p2;have m:=Fk h;refine ⟨_,xs,v,rfl,rfl,h1,by rw [<- h2.length];exact hl,?_⟩;exact p2 μ2 _ (Lat.wrote m) (r2.wrote h ⟨_,b6,(h2.append (.cons rv .nil)).later (Lat.wrote m)⟩) _ .non
     ·simp only [if_neg hl] at p2;exact p2.elim
    | dct _=>exact p2.elim
    | exc _ _=>exact p2.elim
 | _=>exact False.elim p2
end
def D3:List ((Env->M D)×(Env->M D))->Env->M (List (D×D))
 | [],_=>ret []
 | (f,g) :: r,ρ=>bind (f ρ) λx=>bind (g ρ) λy=>bind (D3 r ρ) λps=>ret ((x,y) :: ps)
def gu (c a:List (Key×D)):List (Key×D):=a.foldl (λb d=>mG b d.1 d.2) c
def cz (p:D×D):Option (Key×D):=(O2 p.1).map λk=>(k,p.2)
def pS (ps:List (D×D)):M D:=λS=>match f7 cz ps with
 | some a=>if a.length<=15 then .ok (.ref S.length) (S++[.dct (gu [] a)]) else .bad
 | none=>.bad
section
variable {K:PySem.W.Frag} {cl:Nat->Addr} {xe:Addr->Hp->Prop} {μ:Mp} {H:Hp} {S:Sto} {β:Type}
theorem cY:∀ {d:List (Key×D)} {ms:List (Key×V)} {c:List (Key×D)} {e:List (Key×V)},KvsAt K μ H d ms->KvsAt K μ H c e->KvsAt K μ H (gu c d) (P6 e ms)
 | _,_,_,_,.nil,h=>h
 | _,_,c,e,.cons (a:=a) (b:=b) ⟨h1,h2⟩ t,h=>by
  show KvsAt K μ H (gu (mG c a.1 a.2) _) (P6 (y0 e b.1 b.2) _);rw [h1];exact cY t (ji h h2)
abbrev RPs (K:PySem.W.Frag) (μ:Mp) (H:Hp):List (D×D)->List (V×V)->Prop:=Paired λx y=>RD K μ H x.1 y.1/\RD K μ H x.2 y.2
theorem bind_assoc (m:M α) (k:α->M β) (j:β->M γ):bind (bind m k) j=bind m λa=>bind (k a) j:=by
 funext S;unfold bind;grind
theorem i8 (a:α) (k:α->M β):bind (ret a) k=k a:=rfl
theorem Y4 {ρ:Env} {σ:L2.St}:∀ {fks:List ((Env->M D)×(Env->M D))} {k:List (D×D)->M β} {G:β->Sto->Mp->Hp->Prop} {R:List (V×V)->Hp->Prop} {μ2:Mp} {c:Hp} {S2:Sto},Post K cl xe μ H (bind (D3 fks ρ) k S2) G->HLat μ H p μ2 c->p∉μ2.pl->c p=some o->EnvOk K μ2 c ρ σ->Rep K cl μ2 S2 c ->
  (∀ ps d a j ds,HLat μ H p a d->p∉a.pl->d p=some o->Rep K cl a j d->Lat μ2 c a d->RPs K a d ds ps->Post K cl xe μ H (k ds j) G->R ps d)->dA (fks.map λz=>(tD K cl xe z.1,tD K cl xe z.2)) σ c R
 | [],k,G,R,μ2,c,S2,h,l,n,e,i,s,q=>q [] c μ2 S2 [] l n e s (Lat.refl _ _) .nil h
 | (f,g) :: r,k,G,R,μ2,c,S2,h,l,n,e,i,s,q=>by
  have S:Post K cl xe μ H (bind (f ρ) (λx=>bind (g ρ) λy=>bind (D3 r ρ) λps=>k ((x,y) :: ps)) S2) G:=by
   have:bind (D3 ((f,g) :: r) ρ) k=bind (f ρ) (λx=>bind (g ρ) λy=>bind (D3 r ρ) λps=>k ((x,y) :: ps)):=by
    show bind (bind (f ρ) λx=>bind (g ρ) λy=>bind (D3 r ρ) λps=>ret ((x,y) :: ps)) k=_;simp only [bind_assoc,i8]
   rw [<- this];exact h
  refine ⟨μ2,S2,ρ,i,s,(S.at l).imp λx j a d t T C N I=>?_⟩;refine ⟨a,j,ρ,i.later t,T,(C.at (l.step t)).imp λy S4 Y Z A P L U F=>?_⟩;have b:=t.trans A;have O:=b.oth _ _ e n;refine Y4 L (l.step b) (b.out e n) O (i.later b) P λps E m B ds w W X J u v Q=>?_;exact q ((N,U) :: ps) E m B ((x,y) :: ds) w W X J (b.trans u) (.cons ⟨(I.later A).later u,F.later u⟩ v) Q
theorem hF {p:Addr} {u:HO} {ob:O} {rs:List Addr} {kz:List (Key×V)} (er:μ.rs=p :: rs) (nr:p∉rs) (hp:H p=some (.dK kz)) (rp:Rep K cl μ S H) (ho:OAt K cl ⟨μ.pl++[p],rs⟩ (upd H p u) p ob):Rep K cl ⟨μ.pl++[p],rs⟩ (S++[ob]) (upd H p u):=by
 have np:p∉μ.pl:=(rp.res p (by rw [er];exact Fe)).1;have hp':∀ (n:Nat) (a:Addr),μ.pl[n]?=some a->(μ.pl++[p])[n]?=some a:=λn a e=>by rw [Et (Eo.mp e).1];exact e
 have ho':∀ a w,H a=some w->a∉μ.pl->a∉μ.rs->upd H p u a=some w/\a∉(⟨μ.pl++[p],rs⟩:Mp).pl/\a∉(⟨μ.pl++[p],rs⟩:Mp).rs:=λa w e n1 n2=>by
  have ne:a≠p:=λz=>n2 (by rw [er,z];exact Fe);refine ⟨by rw [a8 ne];exact e,λz=>?_,λz=>n2 (by rw [er];exact Fg _ z)⟩;rcases Fo.mp z with z | z
  ·exact n1 z
  ·exact ne (Fy.mp z)
 refine ⟨by simp [rp.len],?_,λn o a e1 e2=>?_,λa m=>?_⟩
 ·show (μ.pl++[p]).Nodup;rw [HY];exact ⟨rp.nd,by simp,λa m b m2=>by rw [Fy.mp m2];rintro rfl;exact np m⟩
 ·have e2:(μ.pl++[p])[n]?=some a:=e2;by_cases hn:n<S.length
  ·rw [Et hn] at e1;rw [Et (by rw [rp.len];exact hn)] at e2;have h:=rp.ats n o a e1 e2;have ka:upd H p u a=H a:=a8 λz=>np (z▸Fk e2);cases o with
   | lst ds=>obtain ⟨xs,e,q⟩:=h;exact ⟨xs,by rw [ka];exact e,q.move hp' ho'⟩
   | dct kvs=>obtain ⟨xs,e,q⟩:=h;exact ⟨xs,by rw [ka];exact e,Paired.mono (λ_ _ ⟨z,w⟩=>⟨z,w.move hp' ho'⟩) q⟩
   | exc c fs=>
    obtain ⟨xc,gs,q,fr,h⟩:=h;refine ⟨xc,gs,Paired.mono (λ_ _ ⟨z,w⟩=>⟨z,w.move hp' ho'⟩) q,fr,?_⟩;rcases h with ⟨z,e⟩ | ⟨d,h1,h2,e,e3⟩
    ·exact .inl ⟨z,by rw [ka];exact e⟩
    ·have ne:d≠p:=jR e3 hp (by intro z;cases z);refine .inr ⟨d,h1,λz=>?_,by rw [ka];exact e,by rw [a8 ne];exact e3⟩;rcases Fo.mp z with z | z
     ·exact h2 z
     ·exact ne (Fy.mp z)
  ·have hn2:n=S.length:=by
    have:=(Eo.mp e1).1;simp at this;omega
   subst hn2;rw [<- rp.len] at e2;simp at e1 e2;subst e1;subst e2;exact ho
 ·have m:a∈rs:=m;obtain ⟨h1,w,h2⟩:=rp.res a (by rw [er];exact Fg _ m);have ne:a≠p:=λz=>nr (z▸m);refine ⟨λz=>?_,w,by rw [a8 ne];exact h2⟩;rcases Fo.mp z with z | z
  ·exact h1 z
  ·exact ne (Fy.mp z)
theorem aK:∀ {ds:List (D×D)} {ps:List (V×V)} {c:List (Key×D)},RPs K μ H ds ps->f7 cz ds=some c->∃ f:List (Key×V),KvsAt K μ H c f/\ps=f.map (λg=>(kV g.1,g.2))
 | _,_,c,.nil,e=>by cases e;exact ⟨[],.nil,rfl⟩
 | _,_,c,.cons (a:=a) (b:=b) ⟨h1,h2⟩ t,e=>by
  simp only [f7] at e;cases d:cz a with
  | none=>rw [d] at e;cases e
  | some g=>
   rename_i m q;cases h:f7 cz m with
   | none=>rw [d,h] at e;cases e
   | some j=>
    rw [d,h] at e;cases e;obtain ⟨f,o,n⟩:=aK t h;unfold cz at d;cases i:O2 a.1 with
    | none=>grind
    | some k=>
     rw [i] at d;cases d;have:=bJ h1 i;obtain ⟨p,l⟩:=b;subst this;exact ⟨(k,l) :: f,.cons ⟨rfl,h2⟩ o,by rw [n];rfl⟩
end
section
variable {X:Cx} {cl:Nat->Addr} {xe:Addr->Hp->Prop} {pos:Pos}
theorem vh (h:PPs X pos keys values (fks.map λy=>(tD X.K cl xe y.1,tD X.K cl xe y.2))) (j:keys.all (·.isSome)=true) (I:keys.length=values.length) (O:keys≠[]) (f:keys.length<=15) :
  PE X (.Dict keys values pos) (tD X.K cl xe λρ=>bind (D3 fks ρ) pS):=PE.imp (uD h j I O f) λσ H Q ⟨μ,S,ρ,M,l,P⟩=>by
 intro p i;have q:=l.notrs i;refine Y4 (μ2:=μ.hold p) P ?_ (l.notin i) b6 (T9 l i M) (Q1 l i) λps A c R ds b L C E U t g=>?_
 ·refine ⟨⟨λ_ _ e=>e,λa o e _=>by rw [a8 (b8 e i)];exact e,λa m=>.inl m,λa m=>?_⟩,rfl⟩;rcases Ez.mp (m) with rfl | m
  ·exact .inr i
  ·exact .inl m
 ·simp only [pS] at g;cases s:f7 cz ds with
  | none=>rw [s] at g;exact g.elim
  | some x=>
   rw [s] at g;by_cases f:x.length<=15
   ·simp only [if_pos f] at g;obtain ⟨K,B,G⟩:=aK t s;refine ⟨C,K,G,by rw [<- Paired.length B];exact f,?_⟩;have W:=L;have k:∀ (n:Nat) (a:Addr),c.pl[n]?=some a->(c.pl++[p])[n]?=some a:=λn a e=>by rw [Et (Eo.mp e).1];exact e
    have N:∀ {u:HO} {d:D} {v:V},RD X.K c A d v->RD X.K ⟨c.pl++[p],μ.rs⟩ (upd A p u) d v:=λr=>r.move k λa w e J F=>by
     have T:a≠p:=λz=>F (by rw [b.rs,z];exact Fe);refine ⟨by rw [a8 T];exact e,λz=>?_,λz=>F (by rw [b.rs];exact Fg _ z)⟩;rcases Fo.mp z with z | z
     ·exact J z
     ·grind
    refine g ⟨c.pl++[p],μ.rs⟩ _ ?_ (hF b.rs q C E ⟨_,b6,cY (Paired.mono (λ_ _ ⟨z,w⟩=>⟨z,N w⟩) B) .nil⟩) _ (.ref ?_)
    ·refine ⟨λn a e=>k n a (b.r.pre n a e),λa o e n=>?_,λa m=>?_,rfl⟩
     ·rw [a8 (b8 e i)];exact b.r.oth a o e n
     ·rcases Fo.mp (m) with m | m
      ·exact b.r.new a m
      ·grind
    ·show (c.pl++[p])[R.length]?=some p;rw [<- E.len];simp
   ·simp only [if_neg f] at g;exact g.elim
end
def B4 (S:Sto) (d:D):Bool:=match d9 64 S d with
 | some p=>decide (Shows p)&&decide (p.shown.length<=4000)&&(match d with
  | .str x=>decide (x.length<=4000)
  | _=>true)
 | none=>false
def P2 (c:Nat) (fs:List Str) (ds:List D):M D:=λS=>if ds.length=fs.length/\ds.all (B4 S)=true then .ok (.ref S.length) (S++[.exc c (fs.zip ds)]) else .bad
def nk (c:Nat) (ds:List D):M D:=λS=>match ds with
 | [_]=>.ok (.ref S.length) (S++[.exc c []])
 | _=>.bad
theorem gf {K:PySem.W.Frag} {cl:Nat->Addr} {μ:Mp} {H:Hp} {S:Sto} {d:D} {v:V} (rp:Rep K cl μ S H) (r:RD K μ H d v) (h:B4 S d=true):∃ p,Hn.Fmt K H v p:=by
 unfold B4 at h;cases e:d9 64 S d with
 | none=>rw [e] at h;cases h
 | some p=>
  rw [e] at h;simp at h;refine ⟨p,u7 rp 64 e r,h.1.1,h.1.2,λx ex=>?_⟩;subst ex;cases r with
  | str _=>grind
def DF (K:PySem.W.Frag) (H:Hp) (v:V):Prop:=∃ x C d,v=.ref x/\XC K C/\H x=some (P7 x C d)
def tDf (K:PySem.W.Frag) (cl:Nat->Addr) (xe:Addr->Hp->Prop) (f:Env->M D):TE:=λσ H Q=>∃ μ S ρ,EnvOk K μ H ρ σ/\Rep K cl μ S H/\Post K cl xe μ H (f ρ S) λd _ μ' H'=>∀ v,RD K μ' H' d v->DF K H' v->Q v H'
theorem PE.unf {e:Expr} {f:Env->M D} (h:PE X e (tDf X.K cl xe f)):PE X e (tD X.K cl xe f):=PE.imp h λσ H Q ⟨μ,S,ρ,g,b,P⟩=>⟨μ,S,ρ,g,b,P.imp λd S1 a k l j c v i _=>c v i⟩
section
variable {X:Cx} {cl:Nat->Addr} {xe:Addr->Hp->Prop} {e:Expr} {es:List Expr} {pos:Pos} {fs:Env->M (List D)}
theorem kK {K:PySem.W.Frag} {μ:Mp} {H H':Hp} {S:Sto} {c:Nat} {x:Addr} {gs:List (Str×V)} {ds:List (Str×D)} (b:Rep K cl μ S H) (f:H x=none) (M:XC K (cl c)) (g:Hn.Got (upd H x (P7 x (cl c) none)) x (cl c) gs H') (r:∀ {μ':Mp} {H':Hp},Lat μ H μ' H'->gi K μ' H' ds gs) :
  Lat μ H (μ.push x) H'/\Rep K cl (μ.push x) (S++[.exc c ds]) H'/\RD K (μ.push x) H' (.ref S.length) (.ref x):=by
 obtain ⟨d,hd,h,n,j,m⟩:=g;rw [a8 h] at hd;have k:∀ a u,H a=some u->H' a=some u:=λa u e=>by
  have i:=b8 e f;have o:=b8 e hd;rw [m a i o,a8 i];exact e
 have l:=Lat.pushed (μ:=μ) f k;refine ⟨l,b.pushed f k ⟨M,gs,r l,none,.inr ⟨d,h,λz=>?_,n,j⟩⟩,.ref ?_⟩
 ·rcases Fo.mp (z) with z | z
  ·exact b.notin hd z
  ·grind
 ·show (μ.pl++[x])[S.length]?=some x;rw [<- b.len];simp
theorem pJ {f:Addr} {fd:FuncData} {ps:List Str} {E:XK} {CX:CXT} {j g:Str} {p:Pos} {c:Nat} (M:XC X.K (cl c)) (z:v1 X.K (cl c) g) (N:PySem.W.findIn X.K (.ref (cl c)) "__init__" = some (some (.ref f))) (L:PySem.W.isFn X.K (.ref f)=true) (F:FnOk X.prog X.w X.K X.mg X.base CX k f fd ps (Hn.sp1 X.K g)) (J:Room CX.q (k+1) X.A) (I:Gl X j) (C:X.mg j=some (.ref (cl c))) (G:Binds X.K fd ps []) (m:y7 CX X E)
  (B:PA X (e :: es) (tDs X.K cl xe fs)) (n:(j==("__debug__" : Str))=false) (hs:(e :: es).all noStar=true):PE X (.Call (.Name j p) (e :: es) [] pos) (tDf X.K cl xe λρ=>bind (fs ρ) (P2 c [g])):=by
 rw [FV,Ep] at hs;refine PE.imp (bc M N L F J I C G m B n (c7 hs.1) (j1 hs.2)) λσ H Q ⟨μ,S,ρ,K,t,P⟩=>?_;refine ⟨μ,S,ρ,K,t,P.bind.imp λds S1 y T O r a vs h=>?_⟩;unfold P2 at a;by_cases b:ds.length=[g].length/\ds.all (B4 S1)=true
 ·rw [if_pos b] at a
  match ds,b,h,a with
  | [d],b,h,a=>
   obtain ⟨v,rfl,s⟩:=lB h;obtain ⟨q,u⟩:=gf r s (by simpa using b.2);refine ⟨by show 1<=1000;decide,λx m=>⟨x,v,cl c,q,rfl,M,z,b6,u.laid m,λH' i=>⟨rfl,?_⟩⟩⟩;obtain ⟨A,w,o⟩:=kK (ds:=[(g,d)]) r m M i λl=>.cons ⟨rfl,s.later l⟩ .nil;obtain ⟨R,_,_,D,_⟩:=id i;exact a _ _ A w _ o ⟨x,cl c,_,rfl,M,D⟩
  | [],b,_,_=>grind
  | _ :: _ :: _,b,_,_=>grind
 ·rw [if_neg b] at a;exact a.elim
theorem oX {k:Nat} {f:Addr} {fd:FuncData} {ps:List Str} {E:XK} {CX:CXT} {nm g g2:Str} {p:Pos} {c:Nat} (M:XC X.K (cl c)) (na:v1 X.K (cl c) g) (nb:v1 X.K (cl c) g2) (hi:PySem.W.findIn X.K (.ref (cl c)) "__init__" = some (some (.ref f))) (hf:PySem.W.isFn X.K (.ref f)=true) (F:FnOk X.prog X.w X.K X.mg X.base CX k f fd ps (Hn.sp2 X.K g g2)) (hr:Room CX.q (k+1) X.A) (hg:Gl X nm) (hm:X.mg nm=some (.ref (cl c))) (hb:Binds X.K fd ps []) (hx:y7 CX X E)
  (ha:PA X (e :: es) (tDs X.K cl xe fs)) (hdb:(nm==("__debug__" : Str))=false) (hs:(e :: es).all noStar=true):PE X (.Call (.Name nm p) (e :: es) [] pos) (tDf X.K cl xe λρ=>bind (fs ρ) (P2 c [g,g2])):=by
 rw [FV,Ep] at hs;refine PE.imp (bc M hi hf F hr hg hm hb hx ha hdb (c7 hs.1) (j1 hs.2)) λσ H Q ⟨μ,S,ρ,eo,rp,P⟩=>?_;refine ⟨μ,S,ρ,eo,rp,P.bind.imp λds S1 μ1 H1 l1 r1 p1 vs rvs=>?_⟩;unfold P2 at p1;by_cases hc:ds.length=[g,g2].length/\ds.all (B4 S1)=true
 ·rw [if_pos hc] at p1
  match ds,hc,rvs,p1 with
  | [d,d2],hc,rvs,p1=>
   cases rvs with
   | cons rv t=>
    obtain ⟨v2,rfl,rv2⟩:=lB t;rename_i v;have hc2:B4 S1 d=true/\B4 S1 d2=true:=by simpa using hc.2
    obtain ⟨q,ft⟩:=gf r1 rv hc2.1;obtain ⟨q2,ft2⟩:=gf r1 rv2 hc2.2;refine ⟨by show 2<=1000;decide,λx hx=>⟨x,v,v2,cl c,q,q2,rfl,M,na,nb,b6,ft.laid hx,ft2.laid hx,λH' got=>⟨rfl,?_⟩⟩⟩;obtain ⟨l2,r2,rd2⟩:=kK (c:=c) (ds:=[(g,d),(g2,d2)]) r1 hx M got λl=>.cons ⟨rfl,rv.later l⟩ (.cons ⟨rfl,rv2.later l⟩ .nil);obtain ⟨d0,_,_,g1,_⟩:=id got;exact p1 _ _ l2 r2 _ rd2 ⟨x,cl c,_,rfl,M,g1⟩
  | [],hc,_,_=>exact absurd hc.1 (by simp)
  | [_],hc,_,_=>exact absurd hc.1 (by simp)
  | _ :: _ :: _ :: _,hc,_,_=>exact absurd hc.1 (by simp)
 ·rw [if_neg hc] at p1;exact p1.elim
theorem nt {f:Addr} {fd:FuncData} {ps:List Str} {E:XK} {CX:CXT} {j:Str} {p:Pos} {c:Nat} (M:XC X.K (cl c)) (B:PySem.W.findIn X.K (.ref (cl c)) "__init__" = some (some (.ref f))) (A:PySem.W.isFn X.K (.ref f)=true) (F:FnOk X.prog X.w X.K X.mg X.base CX k f fd ps (Hn.spHE X.K)) (y:Room CX.q (k+1) X.A) (w:Gl X j) (s:X.mg j=some (.ref (cl c))) (t:Binds X.K fd ps []) (i:y7 CX X E)
  (r:PA X (e :: es) (tDs X.K cl xe fs)) (m:(j==("__debug__" : Str))=false) (hs:(e :: es).all noStar=true):PE X (.Call (.Name j p) (e :: es) [] pos) (tDf X.K cl xe λρ=>bind (fs ρ) (nk c)):=by
 rw [FV,Ep] at hs;refine PE.imp (bc M B A F y w s t i r m (c7 hs.1) (j1 hs.2)) λσ H Q ⟨μ,S,ρ,z,q,P⟩=>?_;refine ⟨μ,S,ρ,z,q,P.bind.imp λds S1 h o D n b vs g=>?_⟩
 match ds,g,b with
 | [d],g,b=>
  obtain ⟨v,rfl,C⟩:=lB g;refine ⟨by show 1<=1000;decide,λx i=>⟨x,v,cl c,none,rfl,M,b6,rfl,?_⟩⟩;have k:∀ a u,o a=some u->upd o x (P7 x (cl c) none) a=some u:=λa u e=>by rw [a8 (b8 e i)];exact e
  have l:=Lat.pushed (μ:=h) i k;refine b _ _ l (n.pushed i k ⟨M,[],.nil,none,.inl ⟨rfl,b6⟩⟩) _ (.ref ?_) ⟨x,cl c,_,rfl,M,b6⟩;show (h.pl++[x])[S1.length]?=some x;rw [<- n.len];simp
 | [],_,b=>exact b.elim
 | _ :: _ :: _,_,b=>exact b.elim
def cF (g:Str) (d:D):M D:=match d with
 | .ref n=>λS=>match S[n]? with
  | some (.exc _ fs)=>match fs.lookup g with
   | some v=>.ok v S
   | none=>.bad
  | _=>.bad
 | _=>bad
theorem cP {K:PySem.W.Frag} {μ:Mp} {H:Hp} {g:Str} {d:D}:∀ {fs:List (Str×D)} {gs:List (Str×V)},gi K μ H fs gs->fs.lookup g=some d->∃ v,gs.lookup g=some v/\RD K μ H d v
 | _,_,.nil,e=>by cases e
 | _,_,.cons (a:=a) (b:=b) ⟨c,h2⟩ t,e=>by
  obtain ⟨h,k⟩:=a;obtain ⟨i,j⟩:=b;have c:=c;subst c;rw [GT] at e ⊢;cases f:g==h with
  | true=>grind
  | false=>rw [f] at e;exact cP t e
theorem xr (hn:∀ c,XC X.K (cl c)->v1 X.K (cl c) g) (h:PE X e (tD X.K cl xe f)) (hb:A4 e=true):PE X (.Attribute e g pos) (tD X.K cl xe λρ=>bind (f ρ) (cF g)):=PE.imp (sS h (N1 hb)) λσ H Q ⟨μ,S,ρ,eo,rp,p⟩=>
 ⟨μ,S,ρ,eo,rp,p.bind.imp λd S1 μ1 H1 l1 r1 p1 v rv=>by
  cases rv with
  | ref h=>
   rename_i n a;simp only [cF] at p1;cases q1:S1[n]? with
   | none=>rw [q1] at p1;exact p1.elim
   | some o=>
    rw [q1] at p1;cases o with
    | exc c fs=>
     simp only at p1;obtain ⟨xc,gs,r,fr,h2⟩:=r1.ats n _ a q1 h;cases q2:fs.lookup g with
     | none=>rw [q2] at p1;exact p1.elim
     | some w=>
      rw [q2] at p1;obtain ⟨v,e1,r3⟩:=cP r q2;rcases h2 with ⟨z,e⟩ | ⟨d,n1,n2,e,e2⟩
      ·subst z;cases e1
      ·exact ⟨fr,a,cl c,d,gs,v,rfl,xc,hn c xc,e,e2,e1,p1 μ1 H1 (Lat.refl _ _) r1 _ r3⟩
    | lst _=>exact p1.elim
    | dct _=>exact p1.elim
  | _=>exact False.elim p1⟩
end
def tys:List String:=["NoneType","bool","int","str","tuple","list","dict"]
def subT (t T:String):Bool:=t==T||(t == "bool" && T == "int")
theorem tP (K:PySem.W.Frag):∀ t∈tys,∀ T∈tys,PySem.W.kitOne K (.type t) (.type T)=some (subT t T):=by
 intro t a T b;simp only [tys,Ez,Ge,Ia] at a b;rcases a with rfl | rfl | rfl | rfl | rfl | rfl | rfl <;> rcases b with rfl | rfl | rfl | rfl | rfl | rfl | rfl <;> kernel_rfl
def tyD (S:Sto) (d:D):Option String:=match d with
 | .non=>some "NoneType"
 | .bl _=>some "bool"
 | .int _=>some "int"
 | .str _=>some "str"
 | .tup _=>some "tuple"
 | .lst _=>some "list"
 | .scr _=>some "list"
 | .ref n=>match S[n]? with
  | some (.lst _)=>some "list"
  | some (.dct _)=>some "dict"
  | _=>none
def J2 (T:String) (sx:Nat->Bool) (d:D):M D:=λS=>match tyD S d with
 | some t=>.ok (.bl (subT t T)) S
 | none=>match d with
  | .ref n=>match S[n]? with
   | some (.exc c _)=>.ok (.bl (sx c)) S
   | _=>.bad
  | _=>.bad
def w6 (sx:Nat->Bool) (d:D):M D:=λS=>match d with
 | .ref n=>match S[n]? with
  | some (.exc c _)=>.ok (.bl (sx c)) S
  | _=>.bad
 | _=>.bad
section
variable {X:Cx} {cl:Nat->Addr} {xe:Addr->Hp->Prop} {a:Expr} {pos p q:Pos} {f:Env->M D}
theorem iw {sx:Nat->Bool} (j:Cq T=some c0) (g:∀ c,XC X.K (cl c)->PySem.W.kitOne X.K (.ref (cl c)) c0=some (sx c)) {pins:List (Addr×Obj)} {s:Shared} {σ:L2.St} {H:Hp} {us:List Value} {Q:VK} {μ:Mp} {S:Sto} {n:Nat} {b:Addr} {c:Nat} {fs:List (Str×D)} (I:L2.Inv X pins σ H s) (r:Vals [.ref b,T] us)
  (l:Rep X.K cl μ S H) (e:S[n]?=some (.exc c fs)) (h:μ.pl[n]?=some b) (q:Q (.bl (sx c)) H):wpAny (model X.prog X.w) X.A (call (.builtin "isinstance") us) (EP X pins σ Q) X.xe s:=by
 obtain ⟨a,gs,p,i,k⟩:=l.ats n _ b e h;rcases k with ⟨z,f⟩ | ⟨d,o,t,f,m⟩
 ·exact cK pins s σ H _ us Q I r ⟨i,b,cl c,none,T,c0,sx c,rfl,a,f,λ_ z=>(nomatch z),j,g c a,q⟩
 ·exact cK pins s σ H _ us Q I r ⟨i,b,cl c,some d,T,c0,sx c,rfl,a,f,λd' z=>by cases z;exact ⟨gs,m⟩,j,g c a,q⟩
theorem kX (hT:T∈tys) {pins:List (Addr×Obj)} {s:Shared} {σ:L2.St} {H:Hp} {us:List Value} {Q:VK} {μ:Mp} {S:Sto} {d:D} {v:V} {t:String} (I:L2.Inv X pins σ H s) (r:Vals [v,.ty T] us) (rd:RD X.K μ H d v) (rp:Rep X.K cl μ S H) (e:tyD S d=some t)
  (q:Q (.bl (subT t T)) H):wpAny (model X.prog X.w) X.A (call (.builtin "isinstance") us) (EP X pins σ Q) X.xe s:=by
 obtain ⟨u,u2,rfl,ru,ru2⟩:=jt r;cases (ru2);have ht:t∈tys:=by
  cases d <;> simp only [tyD] at e <;> first
   | (cases e;decide)
   | (split at e <;> first | (cases e;decide) | cases e)
 have hk:=tP X.K t ht T hT;have fin:∀ tk,EP X pins σ Q (.bool (subT t T)) { s with toks:=tk }:=λtk=>⟨.bl _,H,I.tok _,rfl,q⟩;have tupT:∀ {b:Addr} {xs:List V},SqT X.K H b xs->u=.ref b->t = "tuple"->wpAny (model X.prog X.w) X.A (call (.builtin "isinstance") [u,.type T]) (EP X pins σ Q) X.xe s:=λ{b xs} h eu et=>by
  subst eu et;obtain ⟨its,_,⟨o,h1,h2,_⟩,_⟩:=I.tuple h;exact Gw PySem.W.kitx_tuple I.kIn ⟨o,h1,h2⟩ hk (λz=>nomatch z) fin
 have lstT:∀ {b:Addr} {xs:List V},SqL X.K H b xs->u=.ref b->t = "list"->wpAny (model X.prog X.w) X.A (call (.builtin "isinstance") [u,.type T]) (EP X pins σ Q) X.xe s:=λ{b xs} h eu et=>by
  subst eu et;obtain ⟨its,_,⟨o,n,h1,h2,_⟩,_⟩:=I.list h;exact Gw PySem.W.kitx_list I.kIn ⟨o,h1,h2⟩ hk (λz=>nomatch z) fin
 cases rd with
 | non=>cases (ru);cases e;exact Gw PySem.W.kitx_none I.kIn True.intro hk (λz=>nomatch z) fin
 | bl b=>cases (ru);cases e;exact Gw PySem.W.kitx_bool I.kIn True.intro hk (λz=>nomatch z) fin
 | int i=>obtain ⟨tk,q⟩:=(ru);cases q;cases e;exact Gw PySem.W.kitx_int I.kIn True.intro hk (λz=>nomatch z) fin
 | str x=>obtain ⟨tk,q⟩:=(ru);cases q;cases e;exact Gw PySem.W.kitx_str I.kIn True.intro hk (λz=>nomatch z) fin
 | tup h r=>cases e;exact tupT h.sq ru rfl
 | lst h r=>cases e;exact lstT h.sq ru rfl
 | scr h r=>cases e;exact lstT h.sq ru rfl
 | ref h=>
  rename_i n b;simp only [tyD] at e;cases q1:S[n]? with
  | none=>rw [q1] at e;cases e
  | some o=>
   rw [q1] at e;cases o with
   | lst ds=>
    cases e;obtain ⟨xs,h1,h2⟩:=rp.ats n _ b q1 h;exact lstT (.inl (.inl h1)) ru rfl
   | dct kvs=>
    cases e;obtain ⟨ks,h1,h2⟩:=rp.ats n _ b q1 h;cases (ru);obtain ⟨_,_,vs,_,pp⟩:=(I.hok b _ h1);obtain ⟨o,es,ep,g1,g2,_⟩:=pp;exact Gw PySem.W.kitx_dict I.kIn ⟨o,g1,g2.1⟩ hk (λz=>nomatch z) fin
   | exc _ _=>cases e
theorem jV {T:String} {sx:Nat->Bool} (hT:T∈tys\/T = "ValueError") (hk:∀ c,XC X.K (cl c)->PySem.W.kitOne X.K (.ref (cl c)) (.type T)=some (sx c)) (h:PE X a (tD X.K cl xe f)) (hg:Gl X "isinstance") (hm:X.mg "isinstance" = none) (hg2:Gl X x) (hm2:X.mg x=none) (hv:bootBuiltins x=some (.type T)) (hn:x ≠ "__name__") (hd:(x==("__debug__" : Str))=false) (hs:noStar a=true) :
  PE X (.Call (.Name "isinstance" p) [a,.Name x q] [] pos) (tD X.K cl xe λρ=>bind (f ρ) λd=>if T∈tys then J2 T sx d else w6 sx d):=by
 have key:i9 X (.builtin "isinstance") (λvs H Q=>∃ μ S d v,vs=[v,.ty T]/\RD X.K μ H d v/\Rep X.K cl μ S H/\Post X.K cl xe μ H ((if T∈tys then J2 T sx d else w6 sx d) S) λr _ μ' H'=>∀ v,RD X.K μ' H' r v->Q v H'):=by
  intro pins s σ H xs us Q I r ⟨μ,S,d,v,ev,rd,rp,P⟩;subst ev;have ex:∀ {n:Nat} {b:Addr} {c:Nat} {fs:List (Str×D)},v=.ref b->S[n]?=some (.exc c fs)->μ.pl[n]?=some b->Q (.bl (sx c)) H->wpAny (model X.prog X.w) X.A (call (.builtin "isinstance") us) (EP X pins σ Q) X.xe s:=λ{n b c fs} ev e h q=>by
   subst ev;exact iw rfl hk I r rp e h q
  by_cases ht:T∈tys
  ·rw [if_pos ht] at P;unfold J2 at P;cases e:tyD S d with
   | some t=>rw [e] at P;exact kX ht I r rd rp e (P μ H (Lat.refl _ _) rp _ (.bl _))
   | none=>
    rw [e] at P;cases rd with
    | ref h=>
     rename_i n b;simp only at P;cases q1:S[n]? with
     | none=>rw [q1] at P;exact P.elim
     | some o=>
      rw [q1] at P;cases o with
      | exc c fs=>exact ex rfl q1 h (P μ H (Lat.refl _ _) rp _ (.bl _))
      | lst _=>exact P.elim
      | dct _=>exact P.elim
    | _=>exact False.elim P
  ·rw [if_neg ht] at P;unfold w6 at P;cases rd with
   | ref h=>
    rename_i n b;simp only at P;cases q1:S[n]? with
    | none=>rw [q1] at P;exact P.elim
    | some o=>
     rw [q1] at P;cases o with
     | exc c fs=>exact ex rfl q1 h (P μ H (Lat.refl _ _) rp _ (.bl _))
     | lst _=>exact P.elim
     | dct _=>exact P.elim
   | _=>exact False.elim P
 have hb:PE X (.Name x q) (tC (.ty T)):=uI hg2 hm2 hv rfl hn hd;refine PE.imp (R8 key hg hm (by rfl) (i5 h (i5 hb B0 (c7 rfl)) (c7 hs)) (by decide) (by decide) (c7 hs) (j1 rfl)) λσ H Q ⟨μ,S,ρ,eo,rp,P⟩=>?_;exact ⟨μ,S,ρ,eo,rp,P.bind.imp λd S1 μ1 H1 l1 r1 p1 v rv=>⟨μ1,S1,d,v,rfl,rv,r1,p1⟩⟩
theorem vW {c0:Nat} {sx:Nat->Bool} (hk:∀ c,XC X.K (cl c)->PySem.W.kitOne X.K (.ref (cl c)) (.ref (cl c0))=some (sx c)) (h:PE X a (tD X.K cl xe f)) (hg:Gl X "isinstance") (hm:X.mg "isinstance" = none) (hg2:Gl X x) (hm2:X.mg x=some (.ref (cl c0))) (hd:(x==("__debug__" : Str))=false) (hs:noStar a=true) :
  PE X (.Call (.Name "isinstance" p) [a,.Name x q] [] pos) (tD X.K cl xe λρ=>bind (f ρ) λd=>w6 sx d):=by
 have key:i9 X (.builtin "isinstance") (λvs H Q=>∃ μ S d v,vs=[v,.ref (cl c0)]/\RD X.K μ H d v/\Rep X.K cl μ S H/\Post X.K cl xe μ H (w6 sx d S) λr _ μ' H'=>∀ v,RD X.K μ' H' r v->Q v H'):=by
  intro pins s σ H xs us Q I r ⟨μ,S,d,v,ev,rd,rp,P⟩;subst ev;unfold w6 at P;cases rd with
  | ref h=>
   rename_i n b;simp only at P;cases q1:S[n]? with
   | none=>rw [q1] at P;exact P.elim
   | some o=>
    rw [q1] at P;cases o with
    | exc c fs=>exact iw rfl hk I r rp q1 h (P μ H (Lat.refl _ _) rp _ (.bl _))
    | lst _=>exact P.elim
    | dct _=>exact P.elim
  | _=>exact False.elim P
 have hb:PE X (.Name x q) (tC (.ref (cl c0))):=dW hg2 hm2 rfl hd;refine PE.imp (R8 key hg hm (by rfl) (i5 h (i5 hb B0 (c7 rfl)) (c7 hs)) (by decide) (by decide) (c7 hs) (j1 rfl)) λσ H Q ⟨μ,S,ρ,eo,rp,P⟩=>?_;exact ⟨μ,S,ρ,eo,rp,P.bind.imp λd S1 μ1 H1 l1 r1 p1 v rv=>⟨μ1,S1,d,v,rfl,rv,r1,p1⟩⟩
end
theorem gT (a:List Bool):(List.range a.length).map (λi=>a.getD i false)=a:=by
 apply Ik
 ·simp
 ·grind
theorem mC (a:List Bool):(List.range a.length).all (λi=>a.getD i false)=a.all id:=by
 conv=>rhs;rw [<- gT a,List.all_map]
 rfl
section
variable {X:Cx}
theorem gA {c:List Bool} {d:List Value} (r:Vals (c.map V.bl) d):TruthOf X.prog X.w A (λi v=>d.toArray[i]?=some v) (λi=>c.getD i false):=by
 intro i v s Q E e h;rw [Hh] at e;have g:i<c.length:=by
  have a:=r.length;rw [En] at a;have b:=(Eo.mp e).1;omega
 obtain ⟨u,f,j⟩:=Vals.get r (by rw [Fz,Em g];rfl);rw [e] at f;cases f;cases j;have:c.getD i false=c[i]:=by simp [g]
 exact Hi (this▸h)
theorem fT (g:X.calm=true):i9 X (.builtin "all") (λxs H Q=>∃ (p:Addr) (a:List Bool),xs=[.ref p]/\SqL X.K H p (a.map V.bl)/\Q (.bl (a.all id)) H):=by
 intro pins s σ H xs us Q I r h;obtain ⟨p,a,rfl,w,q⟩:=h;obtain ⟨u,rfl,l⟩:=K3 r;cases l;obtain ⟨c,d,pl,hz⟩:=I.list w;have t:=I.ok.hd g;have m:p<s.heap.objs.size:=by
  obtain ⟨o,v,_⟩:=pl.isList;exact Ew v
 have j:c.length=a.length:=by rw [<- d.length,En]
 refine call_all_walk (Jc pl.isList ⟨s.heap.objs.size,[s.heap.objs.size,p],[s.heap.objs.size],c.toArray.size,_,_,λi=>a.getD i false,rfl,Walks.list (A:=X.A.in1) (t) _ _ (Ex m) c.toArray,⟨?_,?_⟩,gA d,λh' x k=>?_⟩)
 ·exact ⟨_,Eu _ rfl,rfl,rfl⟩
 ·exact pl.isList.push _
 ·have e:(List.range c.toArray.size).all (λi=>a.getD i false)=a.all id:=by
   rw [Ey,j];exact mC a
  rw [e];refine ⟨.bl (a.all id),H,I.kept λb o f=>?_,rfl,q⟩;have n:=Ew f;exact k b o (by simp;exact Ex n) (El _ f)
variable {cl:Nat->Addr} {xe:Addr->Hp->Prop}
def T0:List D->Option (List Bool)
 | []=>some []
 | .bl b :: ds=>(T0 ds).map (b :: ·)
 | _=>none
theorem ph {K:PySem.W.Frag} {μ:Mp} {H:Hp}:∀ {ds:List D} {vs:List V} {a:List Bool},T0 ds=some a->RDs K μ H ds vs->vs=a.map V.bl
 | [],_,a,e,r=>by cases r;cases e;rfl
 | d :: ds,_,a,e,r=>by
  cases r with
  | cons h t=>
   cases d <;> try (simp [T0] at e;done)
   case bl b=>
    simp only [T0] at e;cases c:T0 ds with
    | none=>rw [c] at e;cases e
    | some f=>
     rw [c] at e;cases e;cases h;rw [ph c t];rfl
def lq (d:D):M D:=bind (lstOf d) λds=>match T0 ds with
 | some a=>ret (.bl (a.all id))
 | none=>bad
theorem By (c:X.calm=true):i9 X (.builtin "all") (rPs X.K cl xe (one lq)):=J6 λpins s σ H μ S d v us Q I r j b p=>by
 obtain ⟨a,xs,ds,rfl,f,g,i⟩:=r8 j b p.bind;have p:=p.ok_bind i;cases e:T0 ds with
 | none=>rw [e] at p;exact p.elim
 | some h=>
  rw [e] at p;have:=ph e g;subst this;exact fT c pins s σ H _ us Q I r ⟨a,h,rfl,.inl (.inl f),p μ H (Lat.refl _ _) b _ (.bl _)⟩
def t8:List D->Option (List Int)
 | []=>some []
 | .int i :: ds=>(t8 ds).map (i :: ·)
 | _=>none
theorem aF {K:PySem.W.Frag} {μ:Mp} {H:Hp}:∀ {ds:List D} {vs:List V} {ns:List Int},t8 ds=some ns->RDs K μ H ds vs->vs=ns.map V.int
 | [],_,ns,e,r=>by cases r;cases e;rfl
 | d :: ds,_,ns,e,r=>by
  cases r with
  | cons h t=>
   cases d <;> try (simp [t8] at e;done)
   case int i=>
    simp only [t8] at e;cases a:t8 ds with
    | none=>rw [a] at e;cases e
    | some b=>
     rw [a] at e;cases e;cases h;rw [aF a t];rfl
def lK (d:D):M D:=match d with
 | .int i=>ret (.int i)
 | .bl b=>ret (.int (if b then 1 else 0))
 | _=>bad
theorem Bq:i9 X (.type "int") (rPs X.K cl xe (one lK)):=J6 λpins s σ H μ S d v us Q I r rd rp p=>by
 cases rd with
 | int i=>exact cJ pins s σ H _ us Q I r (.inl ⟨i,rfl,p μ H (Lat.refl _ _) rp _ (.int _)⟩)
 | bl b=>exact cJ pins s σ H _ us Q I r (.inr ⟨b,rfl,p μ H (Lat.refl _ _) rp _ (.int _)⟩)
 | _=>exact False.elim p
def tf (d:D):M D:=match d with
 | .int i=>if i.natAbs.log2<1920 then ret (.str (toString i)) else bad
 | _=>bad
theorem CY:i9 X (.type "str") (rPs X.K cl xe (one tf)):=J6 λpins s σ H μ S d v us Q I r rd rp p=>by
 cases rd with
 | int i=>
  obtain ⟨h,p⟩:=Post.guard p;exact dv pins s σ H _ us Q I r ⟨i,rfl,h,p μ H (Lat.refl _ _) rp _ (.str _)⟩
 | _=>exact False.elim p
def vL (d:D):M D:=match d with
 | .int i=>ret (.int (-i))
 | _=>bad
theorem pH:UnR X (unaryOp .USub) (λx H Q=>∃ μ S d,RD X.K μ H d x/\Rep X.K cl μ S H/\Post X.K cl xe μ H (vL d S) λr _ μ' H'=>∀ v,RD X.K μ' H' r v->Q v H'):=by
 intro pins s σ H x v Q I rx ⟨μ,S,d,rd,rp,p⟩;cases rd with
 | int i=>exact yU pins s σ H _ v Q I rx ⟨i,rfl,p μ H (Lat.refl _ _) rp _ (.int _)⟩
 | _=>exact False.elim p
theorem zB (h:PE X a (tD X.K cl xe f)):PE X (.UnaryOp .USub a pos) (tD X.K cl xe λρ=>bind (f ρ) vL):=
 PE.imp (Bg pH h) λσ H Q ⟨μ,S,ρ,c,e,p⟩=>⟨μ,S,ρ,c,e,p.bind.imp λd S1 b k l i g v j=>⟨b,S1,d,j,i,g⟩⟩
def dt (h h':D->D->M D) (x y:D) (z:M D):M D:=bind (h x y) λd=>bind (asB d) λk=>if k=true then bind z λw=>h' y w else ret (.bl false)
theorem nQ {q:TE} {i:Env->M D} {ρ:Env} {σ:L2.St} {μ:Mp} {S:Sto} {H:Hp} {x y:D} {v u:V} {Q:VK} (e:q=tD X.K cl xe i) (t:EnvOk X.K μ H ρ σ) (F:RD X.K μ H x v) (l:RD X.K μ H y u) (B:Rep X.K cl μ S H)
  (p:Post X.K cl xe μ H (dt h h' x y (i ρ) S) λd _ μ' H'=>∀ v,RD X.K μ' H' d v->Q v H') :
  rP2 X.K cl xe h v u H λz c=>∃ k,z=.bl k/\(if k=true then q σ c λw' o=>rP2 X.K cl xe h' u w' o Q else Q (.bl false) c):=by
 subst e;refine ⟨μ,S,x,y,F,l,B,p.bind.imp λd j b c n m a z C=>?_⟩;cases C with
 | bl k=>
  refine ⟨k,rfl,?_⟩;have a:Post X.K cl xe b c ((if k=true then bind (i ρ) (λw=>h' y w) else ret (.bl false)) j) λd _ μ' H'=>∀ v,RD X.K μ' H' d v->Q v H':=a;cases k with
  | true=>
   rw [if_pos rfl] at a ⊢;exact ⟨b,j,ρ,t.later n,m,a.bind.imp λw s f o E r A w' g=>⟨f,s,y,w,(l.later n).later E,g,r,A⟩⟩
  | false=>
   rw [if_neg Er] at a ⊢;exact a b c (Lat.refl _ _) m _ (.bl _)
 | _=>exact False.elim a
theorem Au {op a:CmpOp} {b c:Expr} (h:behindInMarks a c=false):lastMarks [op,a] [b,c]=false:=h
theorem qJ {h h':D->D->M D} {a b c:Expr} {f g l:Env->M D} {pos:Pos} (r:PE X a (tD X.K cl xe f)) (A:PE X b (tD X.K cl xe g)) (q:PE X c (tD X.K cl xe l)) (o:OpR X (compareOp op) (rP2 X.K cl xe h)) (e:OpR X (compareOp op') (rP2 X.K cl xe h')) (z:behindInMarks op' c=false) :
  PE X (.Compare a [op,op'] [b,c] pos) (tD X.K cl xe λρ=>bind (f ρ) λx=>bind (g ρ) λy=>dt h h' x y (l ρ)):=PE.imp (qE o e r A q (Au z)) λσ H Q ⟨μ,S,ρ,i,w,p⟩=>
 ⟨μ,S,ρ,i,w,p.bind.imp λx S1 d E k B n v C=>⟨d,S1,ρ,i.later k,B,n.bind.imp λy S2 μ2 F j s m u t=>nQ rfl ((i.later k).later j) (C.later j) t s m⟩⟩
end
theorem af:∀ {xs:List V} {us:List Value},Vals xs us->Vals xs.reverse us.reverse
 | _,_,.nil=>.nil
 | _,_,.cons r t=>by
  rw [Hl,Hl];exact (af t).append (.cons r .nil)
theorem dm {K:PySem.W.Frag} {μ:Mp} {H:Hp}:∀ {ds:List D} {vs:List V},RDs K μ H ds vs->RDs K μ H ds.reverse vs.reverse
 | _,_,.nil=>.nil
 | _,_,.cons r t=>by
  rw [Hl,Hl];exact (dm t).append (.cons r .nil)
theorem fm_congr {a c:Type} {f g:a->Option c}:∀ {l:List a},(∀ x∈l,f x=g x)->l.filterMap f=l.filterMap g
 | [],_=>rfl
 | x :: l,h=>by
  rw [GQ,GQ,h x (Fe ..),fm_congr λy b=>h y (Fg _ b)]
theorem mx (a:List Value):slicePick a.toArray none none (some (-1))=a.reverse.toArray:=by
 have f:sliceBounds none none (some (-1)) a.toArray.size=((a.length:Int)-1,-1,-1):=by
  simp [sliceBounds]
 unfold slicePick;rw [f];have g:sliceRange ((a.length:Int)-1) (-1) (-1)=(List.range a.length).map λk=>a.length-1-k:=by
  have e:(if (-1:Int) > 0 then (if (a.length:Int)-1 < -1 then (-1-((a.length:Int)-1) + -1-1) / -1 else 0) else (if (a.length:Int)-1 > -1 then ((a.length:Int)-1 - -1 - -1-1) / (- -1) else 0)).toNat=a.length:=by
   rw [if_neg (by decide)];by_cases h:(a.length:Int)-1 > -1
   ·rw [if_pos h];simp
   ·rw [if_neg h];omega
  show (List.range (if (-1:Int) > 0 then (if (a.length:Int)-1 < -1 then (-1-((a.length:Int)-1) + -1-1) / -1 else 0) else (if (a.length:Int)-1 > -1 then ((a.length:Int)-1 - -1 - -1-1) / (- -1) else 0)).toNat).map (λ(k:Nat)=>((a.length:Int)-1 + -1 * (k:Int)).toNat)=_;rw [e];apply IC;intro k b;omega
 simp only [g];congr 1;rw [HI];have c:(List.range a.length).filterMap ((λx=>a.toArray[x]?) ∘ λk=>a.length-1-k)=(List.range a.length).filterMap (λk=>a.reverse.toArray[0+k]?):=by
  apply fm_congr;intro k b;have b:=Fq.mp b;simp;rw [List.getElem?_reverse b]
 rw [c];have:=pick_run a.reverse.toArray 0 a.length;rw [HI] at this;have d:((λx=>a.reverse.toArray[x]?) ∘ λx=>0+x)=λm=>a.reverse.toArray[0+m]?:=rfl;rw [d] at this;rw [this];simp;rw [GY (by simp)]
end L3
namespace HT
open PySem PySem.Spec PyProof.Rows
section
variable {prog:Program} {w:World} {A:Around} {E:Value->Shared->Prop} {s:Shared}
theorem V2 {n:Nat} {Q:Int×Int×Nat->Shared->Prop} (hs:s.heap.IsSliceOf sl .none .none (.int (-1) t))
  (h:Q ((n:Int)-1,-1,n) s):wpAny (model prog w) A (Builtin.Slice.sliceApplied (.ref sl) (pure (n:Int))) Q E s:=by
 obtain ⟨d,a,c,hds⟩:=id hs;refine Ej (Ej (Gf a hds rfl (Ej (Gf a hds rfl (Ej (Gf a hds rfl (Ek ?_)))))));refine Ej (slicePart_int ?_);rw [if_neg (by decide)];refine Ej (IJ (Ej (IJ (Ej (Ek ?_)))));show wpAny _ _ (pure ((n:Int)-1,(-1:Int),Builtin.Slice.slicePlaces ((n:Int)-1) (-1) (-1))) _ _ s;have e:Builtin.Slice.slicePlaces ((n:Int)-1) (-1) (-1)=n:=by
  unfold Builtin.Slice.slicePlaces;rw [if_neg (by decide)];by_cases b:(n:Int)-1 > -1
  ·rw [if_pos b];simp
  ·rw [if_neg b];omega
 rw [e];exact Ek h
theorem lH (xs:List Value):((List.range xs.length).filterMap λ(m:Nat)=>xs.toArray[((xs.length:Int)-1+(m:Int) * -1).toNat]?).toArray=xs.reverse.toArray:=by
 congr 1;have c:(List.range xs.length).filterMap (λ(m:Nat)=>xs.toArray[((xs.length:Int)-1+(m:Int) * -1).toNat]?)=(List.range xs.length).filterMap (λk=>xs.reverse.toArray[0+k]?):=by
  apply L3.fm_congr;intro k a;have a:=Fq.mp a;have e:((xs.length:Int)-1+(k:Int) * -1).toNat=xs.length-1-k:=by omega
  rw [e];simp;rw [List.getElem?_reverse a]
 rw [c];have:=pick_run xs.reverse.toArray 0 xs.length;rw [HI] at this;have b:((λx=>xs.reverse.toArray[x]?) ∘ λx=>0+x)=λm=>xs.reverse.toArray[0+m]?:=rfl;rw [b] at this;rw [this];simp;rw [GY (by simp)]
theorem getItem_tuple_rev {a:List Value} {i:Tok} {Q:Value->Shared->Prop} (c:IsTup s.heap t a.toArray) (hs:s.heap.IsSliceOf sl .none .none (.int (-1) i))
  (h:Q (.ref s.heap.objs.size) { s with heap:=s.heap.push { cls:=.type "tuple",data:=.seq a.reverse.toArray } })
  (hsz:a.length<=sizeLine):wpAny (model prog w) A (getItem (.ref t) (.ref sl)) Q E s:=by
 have b:sizeOk (.seq a.reverse.toArray):=by
  show a.reverse.toArray.size<=sizeLine;rw [Ey,ID];exact hsz
 obtain ⟨j,g,d,hds⟩:=id hs;have e:s.TypeIs (.ref sl) "slice":=⟨j,g,d⟩;unfold getItem;try with_reducible refine FU ?_
 first | refine Ej (Ek ?_) | skip
 refine Ej (Jb c.typeIs (by decide) ?_);refine Ej (FP c.typeIs FW
  (FS FW c.typeIs IA ?_ (IK _ _)))
 show wpAny _ _ (Builtin.Tuple.tupleItemsOf (.ref t) >>= _) _ _ s;refine Ej (Je c ?_);refine Ej (Hr e ?_);rw [if_pos (by decide)];refine Ej (V2 (n:=a.length) hs ?_);have f:¬ ((((a.length:Int)-1)==0&&(-1:Int)==1&&a.length==a.toArray.size)=true):=by
  intro q;rw [Ep,Ep] at q;exact absurd q.1.2 (by decide)
 show wpAny _ _ (if (((a.length:Int)-1)==0&&(-1:Int)==1&&a.length==a.toArray.size)=true then _ else _) _ _ s;rw [if_neg f,lH];first
  | exact Ej (Ft (Ek ⟨_,rfl,Ek h⟩) b)
  | exact Ej (Ft (Ej (Ek (Ek ⟨_,rfl,Ek h⟩))) b)
  | exact Ej (Ej (Ft (Ek (Ek ⟨_,rfl,Ek h⟩)) b))
  | exact Ej (Ej (Ft (Ek ⟨_,rfl,Ek h⟩) b))
end
end HT
namespace L3
open PySem PySem.Spec PyProof.Rows L2
section
variable {X:Cx} {e st:Expr} {te ts:TE} {pos p2:Pos} {cl:Nat->Addr} {xe:Addr->Hp->Prop}
def CT (K:PySem.W.Frag) (te d:TE):TE:=λσ H Q=>te σ H λx c=>d σ c λy b=>y=.int (-1)/\∃ a xs,x=.ref a/\((SqL K b a xs/\∀ p,b p=none->Q (.ref p) (upd b p (.lst xs.reverse)))\/(SqT K b a xs/\∀ p,b p=none->Q (.ref p) (upd b p (.tup xs.reverse))))
theorem vY (p:PE X e te) (hs:PE X st ts):PE X (.Subscript e (.Slice none none (some st) p2) pos) (CT X.K te ts):=by
 intro pins s σ H Q I h;refine Subscript_ (thn (p pins s σ H _ I h) λv l ⟨x,z,w,A,C⟩=>?_);refine wpAny_Slice ?_;rw [JF];refine Ek (Ek ?_);rw [evalPart_some];refine thn (hs pins l σ z _ w C) λu d ⟨y,B,n,m,o,a,xs,D,i⟩=>?_;subst o D;obtain ⟨t,rfl⟩:=m;cases A;have f:Inv X pins σ B { d with heap:=d.heap.push { cls:=.type "slice",data:=.fields #[.none,.none,.int (-1) t] } }:=n.kept λb ob q=>El _ q;rcases i with ⟨i,q⟩ | ⟨i,q⟩
 ·obtain ⟨j,r,g,hz⟩:=f.list i;have c:=r.length;have k:wpAny (model X.prog X.w) X.A (getItem (.ref a) (.ref d.heap.objs.size)) (EP X pins σ Q) X.xe { d with heap:=d.heap.push { cls:=.type "slice",data:=.fields #[.none,.none,.int (-1) t] } }:=by
   refine Jf g.isList (IL ..) .none .none (.int (-1) t) (by simp) ?_ (by rw [Ey] <;> omega);rw [mx];refine ⟨.ref _,_,f.laid (λb ob q=>El _ q) (Es _) ?_,rfl,q _ (f.hok.fresh (Es _))⟩;exact ⟨by rw [ID];exact hz,_,0,af r,Eu _ rfl⟩
  exact tail_any g.isList.typeIs slot_list_getitem.lookup k (by with_unfolding_all rfl)
 ·obtain ⟨j,r,g,hz⟩:=f.tuple i;have c:=r.length;have k:wpAny (model X.prog X.w) X.A (getItem (.ref a) (.ref d.heap.objs.size)) (EP X pins σ Q) X.xe { d with heap:=d.heap.push { cls:=.type "slice",data:=.fields #[.none,.none,.int (-1) t] } }:=by
   refine HT.getItem_tuple_rev g (IL ..) ?_ (by rw [<- c];exact hz);refine ⟨.ref _,_,f.laid (λb ob q=>El _ q) (Es _) ?_,rfl,q _ (f.hok.fresh (Es _))⟩;exact ⟨by rw [ID];exact hz,_,af r,TupN.new _ _⟩
  exact tail_any g.typeIs PyProof.Rows.slot_tuple_getitem.lookup k (by with_unfolding_all rfl)
def vF (d s:D):M D:=match s with
 | .int (-1)=>(match d with
  | .tup ds=>ret (.tup ds.reverse)
  | d=>bind (lstOf d) λds=>ret (.lst ds.reverse))
 | _=>bad
theorem zo (he:PE X e (tD X.K cl xe f)) (hs:PE X st (tD X.K cl xe g)):PE X (.Subscript e (.Slice none none (some st) p2) pos) (tD X.K cl xe λρ=>bind (f ρ) λx=>bind (g ρ) λy=>vF x y):=
 PE.imp (vY he hs) λσ H Q ⟨μ,S,ρ,eo,rp,p⟩=>⟨μ,S,ρ,eo,rp,p.bind.imp λx S1 μ1 H1 l1 r1 p1 v rv=>⟨μ1,S1,ρ,eo.later l1,r1,p1.bind.imp λy S2 μ2 H2 l2 r2 p2 u ru=>by
  unfold vF at p2;split at p2
  ·cases ru;refine ⟨rfl,?_⟩;have L:Post X.K cl xe μ2 H2 (bind (lstOf x) (λds=>ret (.lst ds.reverse)) S2) (λd _ μ' H'=>∀ v,RD X.K μ' H' d v->Q v H')->∃ a xs,v=.ref a/\((SqL X.K H2 a xs/\∀ p,H2 p=none->Q (.ref p) (upd H2 p (.lst xs.reverse)))\/(SqT X.K H2 a xs/\∀ p,H2 p=none->Q (.ref p) (upd H2 p (.tup xs.reverse)))):=λp2=>by
    obtain ⟨a,xs,ds,rfl,h1,h2,e2⟩:=r8 (rv.later l2) r2 p2.bind;refine ⟨a,xs,rfl,.inl ⟨.inl (.inl h1),λz hz=>?_⟩⟩;obtain ⟨l,rp2,rd2⟩:=B7 r2 (dm h2) hz;exact (p2.ok_bind e2) μ2 _ l rp2 _ rd2
   cases rv.later l2 with
   | tup h1 h2=>
    rename_i a xs ds;refine ⟨a,xs,rfl,.inr ⟨h1.sq,λz hz=>?_⟩⟩;obtain ⟨l,rp2,rd2⟩:=G8 r2 (dm h2) hz;exact p2 μ2 _ l rp2 _ rd2
   | _=>exact L p2
  ·exact p2.elim⟩⟩
end
def V8 (ns:List Int):Nat:=(firstMet (λi=>ns.getD i 0) ns.length).length
section
variable {X:Cx} {e:Expr} {te:TE} {p p2 pos pos2:Pos} {cl:Nat->Addr} {xe:Addr->Hp->Prop}
theorem E5:∀ {ns:List Int} {us:List Value},Vals (ns.map V.int) us->IntsAre us ns
 | [],_,r=>by cases r;exact .nil
 | n :: ns,_,r=>by
  cases r with
  | cons h t=>
   obtain ⟨k,rfl⟩:=(h);exact .cons n k (E5 t)
end
section
variable {X:Cx} {cl:Nat->Addr} {xe:Addr->Hp->Prop} {o e:Expr} {es:List Expr} {f:Env->M D} {fs:Env->M (List D)} {apos cpos:Pos}
def tupOf (x:D):M (List D):=match x with
 | .tup ds=>ret ds
 | _=>bad
end
end L3
namespace HT
open PySem PySem.Spec PyProof.Rows
section
variable {prog:Program} {w:World} {A:Around} {E:Value->Shared->Prop} {s:Shared}
theorem yN {ob:Obj} {k:Nat} {T:String} {Q:List Value->Shared->Prop} (f:T = "list"\/T = "tuple") (g:s.heap.get? a=some ob) (d:ob.cls=.type T) (h:ob.data=.seq us.toArray k) (hz:us.length<=sizeLine)
  (q:Q us { s with heap:=(s.heap.push (seqObj "list" #[] 0)).update s.heap.objs.size (Obj.mapSeq (·++us.toArray)) }):wpAny (model prog w) A (collect (.ref a)) Q E s:=by
 have b:(s.heap.push (seqObj "list" #[] 0)).get? a=some ob:=El _ g;have c:(s.heap.push (seqObj "list" #[] 0)).get? s.heap.objs.size=some (seqObj "list" #[] 0):=Eu _ rfl;refine Ej (IS (Gp PyProof.Rows.entry_proto_collect' (?_:wpAny _ _ (do again (.builtin "list.__iadd__" ⟨[<- newList [],.ref a],[]⟩)) _ _ s)));refine Ej (JG (Ek ⟨Code.quiet_builtin _ (by decide +kernel),Gp PyProof.Rows.entry_list_iadd' (?_:wpAny _ _ (Builtin.List.listExtendWith (.ref s.heap.objs.size) (.ref a) (.ref s.heap.objs.size)) _ _ { s with heap:=s.heap.push (seqObj "list" #[] 0) })⟩));refine Ej (Hr ⟨ob,b,d⟩ ?_);rw [if_pos (by rcases f with rfl | rfl <;> simp)];refine Ej (IU b h (Ej (IU c rfl ?_)));rw [if_neg (by simp)];refine Ej (PyProof.Rows.listUpdate_at c rfl (Ek ?_) (FJ _) (by rw [Array.size_append];show 0+us.toArray.size<=_;rw [Ey];omega));refine Ej (JH (PyProof.Rows.get?_update_seq c _) ?_);show wpAny _ _ (pure ((#[]:Array Value)++us.toArray).toList) Q E _;have e:((#[]:Array Value)++us.toArray).toList=us:=by simp
 rw [e];exact Ek q
theorem sorted_seq {ob:Obj} {k:Nat} {T:String} {ns:List Int} {Q:Value->Shared->Prop} (f:T = "list"\/T = "tuple") (g:s.heap.get? a=some ob) (c:ob.cls=.type T) (l:ob.data=.seq us.toArray k) (h:IntsAre us ns) (d:us.length<64)
  (q:∀ (out:Array Value) (ms:List Int),IntsAre out.toList ms->ms.Perm ns->ms.Pairwise (·<=·)->Q (.ref (s.heap.objs.size+1)) { s with heap:=sortedAll s.heap us out }):wpAny (model prog w) A (call (.builtin "sorted") [.ref a]) Q E s:=by
 refine IV Jh IW IY (IZ _) ?_;refine Ej (Ek (Ej (yN f g c l (by rw [Fp];omega) (Ej (JG ?_)))));have e:((s.heap.push (seqObj "list" #[] 0)).update s.heap.objs.size (Obj.mapSeq (·++us.toArray))).objs.size=s.heap.objs.size+1:=by
  rw [Heap.size_update,Jo]
 have b:(((s.heap.push (seqObj "list" #[] 0)).update s.heap.objs.size (Obj.mapSeq (·++us.toArray))).push (seqObj "list" us.toArray 0)).get? (s.heap.objs.size+1)=some (seqObj "list" us.toArray 0):=e▸Eu _ rfl;rw [e];refine Ej (FU (FS IF ⟨_,b,rfl⟩ Iw (IG b h d λout ms m i j=>⟨_,rfl,Ek ⟨_,rfl,q out ms m i j⟩⟩) (IH _)))
end
end HT
namespace L3
open PySem PySem.Spec PyProof.Rows L2
def gW (x:Int):List Int->List Int
 | []=>[x]
 | y :: ys=>if x<=y then x :: y :: ys else y :: gW x ys
def srt:List Int->List Int
 | []=>[]
 | x :: xs=>gW x (srt xs)
theorem ar (x:Int):∀ l:List Int,(gW x l).Perm (x :: l)
 | []=>.refl _
 | y :: ys=>by
  unfold gW;split
  ·exact .refl _
  ·exact ((ar x ys).cons y).trans (.swap x y ys)
theorem v7:∀ l:List Int,(srt l).Perm l
 | []=>.refl _
 | x :: xs=>(ar x (srt xs)).trans ((v7 xs).cons x)
theorem nu (x:Int):∀ l:List Int,l.Pairwise (·<=·)->(gW x l).Pairwise (·<=·)
 | [],_=>by simp [gW]
 | y :: ys,h=>by
  unfold gW;rw [GH] at h;split
  ·rename_i c;rw [GH];refine ⟨λz hz=>?_,GH.mpr h⟩;rcases Ez.mp hz with e | e
   ·omega
   ·have:=h.1 z e;omega
  ·rename_i c;rw [GH];refine ⟨λz hz=>?_,nu x ys h.2⟩;rcases Ez.mp ((ar x ys).mem_iff.mp hz) with e | e
   ·omega
   ·exact h.1 z e
theorem bQ:∀ l:List Int,(srt l).Pairwise (·<=·)
 | []=>.nil
 | x :: xs=>nu x _ (bQ xs)
theorem dk:∀ {a b:List Int},a.Perm b->a.Pairwise (·<=·)->b.Pairwise (·<=·)->a=b
 | [],b,p,_,_=>by
  have:=p.length_eq;cases b with
  | nil=>rfl
  | cons _ _=>simp at this
 | x :: a,[],p,_,_=>by have:=p.length_eq;simp at this
 | x :: a,y :: b,p,c,d=>by
  rw [GH] at c d;have f:=p.mem_iff.mp (Fe ..);have g:=p.mem_iff.mpr (Fe ..);have e:x=y:=by
   rcases Ez.mp f with e | e
   ·exact e
   ·grind
  subst e;rw [dk (List.Perm.cons_inv p) c.2 d.2]
theorem W8:∀ {us:List Value} {ns:List Int},IntsAre us ns->Vals (ns.map V.int) us
 | _,_,.nil=>.nil
 | _,_,.cons n t h=>.cons ⟨t,rfl⟩ (W8 h)
section
variable {X:Cx} {cl:Nat->Addr} {xe:Addr->Hp->Prop}
theorem dM:i9 X (.builtin "sorted") (λxs H Q=>∃ (a:Addr) (ns:List Int),xs=[.ref a]/\(SqL X.K H a (ns.map V.int)\/SqT X.K H a (ns.map V.int))/\ns.length<64/\∀ p,H p=none->Q (.ref p) (upd H p (.lst ((srt ns).map V.int)))):=by
 intro pins s σ H xs us Q I r h;obtain ⟨a,ns,rfl,hs,D,q⟩:=h;obtain ⟨u,rfl,z⟩:=K3 r;cases z;have i:∀ (ob:Obj) (k:Nat) (T:String) (f:List Value),(T = "list"\/T = "tuple")->s.heap.get? a=some ob->ob.cls=.type T->ob.data=.seq f.toArray k->Vals (ns.map V.int) f->wpAny (model X.prog X.w) X.A (call (.builtin "sorted") [.ref a]) (EP X pins σ Q) X.xe s:=λob k T f l t m A g=>by
  have j:f.length=ns.length:=by rw [<- g.length,En]
  refine HT.sorted_seq l t m A (E5 g) (by omega) λout ms C x y=>?_;have e:=dk (x.trans (v7 ns).symm) y (bQ ns);subst e;obtain ⟨v,w⟩:=sortedAll_at s.heap f out;have B:=I.hok.fresh (Gb _);refine ⟨.ref (s.heap.objs.size+1),_,I.laid (λb ob q=>sortedAll_old q) (Gb _) ?_,rfl,q _ B⟩;refine ⟨by rw [En,(v7 ns).length_eq,Fp];omega,out.toList,v,W8 C,?_⟩;rw [Array.toArray_toList];exact w
 rcases hs with hs | hs
 ·obtain ⟨f,g,⟨o,n,e,c,E,d⟩,_⟩:=I.list hs;exact i o n "list" f (.inl rfl) e c d g
 ·obtain ⟨f,g,⟨o,e,c,n,d⟩,_⟩:=I.tuple hs;exact i o n "tuple" f (.inr rfl) e c d g
def M6 (d:D):M D:=bind (B1 d) λds=>match t8 ds with
 | some ns=>if ns.length<64 then ret (.lst ((srt ns).map D.int)) else bad
 | none=>bad
theorem rL:i9 X (.builtin "sorted") (rPs X.K cl xe (one M6)):=J6 λpins s σ H μ S d v us Q I r j f p=>by
 obtain ⟨a,xs,ds,rfl,i,h,g⟩:=Q0 j f p.bind;have p:=p.ok_bind g;cases e:t8 ds with
 | none=>rw [e] at p;exact p.elim
 | some ns=>
  rw [e] at p;obtain ⟨hz,p⟩:=Post.guard p;have:=aF e h;subst this;refine dM pins s σ H _ us Q I r ⟨a,ns,rfl,i,hz,λz hz=>?_⟩;obtain ⟨l,b,c⟩:=B7 f (RDs.ints (srt ns)) hz;exact p μ _ l b _ c
end
section
variable {X:Cx} {cl:Nat->Addr} {xe:Addr->Hp->Prop} {o e:Expr} {es:List Expr} {f:Env->M D} {fs:Env->M (List D)} {apos cpos:Pos} {name:Str} {T T2 id id2:String} {r r2:V->List V->Hp->VK->Prop} {α:Type}
def Looks (K:PySem.W.Frag) (cl:Nat->Addr) (xe:Addr->Hp->Prop) (T:String) (g:D->M α):Prop:=∀ (μ:Mp) (S:Sto) (H:Hp) (x:D) (v:V) (G:α->Sto->Mp->Hp->Prop),RD K μ H x v->Rep K cl μ S H->Post K cl xe μ H (g x S) G->tyV K T v H/\∃ a,g x S=.ok a S
def xW (K:PySem.W.Frag) (cl:Nat->Addr) (xe:Addr->Hp->Prop) (r:V->List V->Hp->VK->Prop) (op:D->List D->M D):Prop:=∀ (μ:Mp) (S:Sto) (H:Hp) (x:D) (v:V) (ds:List D) (vs:List V) (Q:VK),RD K μ H x v->RDs K μ H ds vs->Rep K cl μ S H->Post K cl xe μ H (op x ds S) (λd _ μ' H'=>∀ w,RD K μ' H' d w->Q w H')->r v vs H Q
theorem jH (B:PlainAttrs T) (c:Slot T name id) (i:typeOf (.builtin id)=pure (.type "method_descriptor")) (s:MtR X id r) (t:Looks X.K cl xe T g) (hd:xW X.K cl xe r op) (F:PE X o (tD X.K cl xe f)) (v:PA X (e :: es) (tDs X.K cl xe fs))
  (G:A4 o=true) (hs:(e :: es).all noStar=true) (C:M4 (e :: es)=true) (E:(apos.endLine==cpos.line)=true) :
  PE X (.Call (.Attribute o name apos) (e :: es) [] cpos) (tD X.K cl xe λρ=>bind (f ρ) λx=>bind (g x) λ_=>bind (fs ρ) λds=>op x ds):=by
 have b:=hs;rw [FV,Ep] at b;refine PE.imp (wR B c i s F v (N1 G) (rj hs C) E (c7 b.1) (j1 b.2)) λσ H Q ⟨μ,S,ρ,l,w,p⟩=>?_;refine ⟨μ,S,ρ,l,w,p.bind.imp λx S1 d J u m h n k=>?_⟩;obtain ⟨I,a,D⟩:=t d S1 J x n _ k m h.bind;have h:=h.ok_bind D;exact ⟨I,d,S1,ρ,l.later u,m,h.bind.imp λds S2 μ2 A q y z vs j=>hd μ2 S2 A x n ds vs Q (k.later q) j y z⟩
theorem RDs.erase {K:PySem.W.Frag} {μ:Mp} {H:Hp}:∀ {ds:List D} {vs:List V} (n:Nat),RDs K μ H ds vs->RDs K μ H (ds.eraseIdx n) (vs.eraseIdx n)
 | _,_,_,.nil=>.nil
 | _,_,0,.cons h r=>r
 | _,_,n+1,.cons h r=>.cons h (RDs.erase n r)
def popD (x:D) (ds:List D):M D:=match x,ds with
 | .ref n,[.int i]=>λS=>match S[n]? with
  | some (.lst es)=>if -(2 ^ 63)<=i/\i<2 ^ 63 then (match ixN es.length i with
   | some j=>(match es[j]? with
    | some y=>.ok y (S.set n (.lst (es.eraseIdx j)))
    | none=>.bad)
   | none=>.bad) else .bad
  | _=>.bad
 | _,_=>bad
theorem iF:Looks X.K cl xe "list" lstOf:=λμ S H x v G b c p=>by
 obtain ⟨a,xs,ds,rfl,d,f,e⟩:=r8 b c p;exact ⟨.inl ⟨rfl,_,.inl (.inl d)⟩,ds,e⟩
theorem qT:xW X.K cl xe rPopAt popD:=λμ S H x v ds vs Q rx rvs rp p=>by
 unfold popD at p;split at p
 ·rename_i n i;cases rvs with
  | cons h t=>
   cases t;cases h;cases rx with
   | ref e=>
    rename_i a;cases q1:S[n]? with
    | none=>rw [q1] at p;exact p.elim
    | some o=>
     rw [q1] at p;cases o with
     | lst es=>
      obtain ⟨xs,h1,h2⟩:=rp.ats n _ a q1 e;dsimp only at p;by_cases hb:-(2 ^ 63)<=i/\i<2 ^ 63
      ·rw [if_pos hb] at p;cases q2:ixN es.length i with
       | none=>rw [q2] at p;exact p.elim
       | some j=>
        rw [q2] at p;dsimp only at p;cases q3:es[j]? with
        | none=>rw [q3] at p;exact p.elim
        | some y=>
         rw [q3] at p;obtain ⟨y',e4,r4⟩:=h2.get q3;have ml:=Fk e;refine ⟨a,xs,i,j,y',rfl,rfl,h1,hb.1,hb.2,by rw [<- h2.length];exact (dn q2).1,e4,?_⟩;have la:Lat μ H μ (upd H a (.lst (xs.eraseIdx j))):=Lat.wrote ml;exact p μ _ la (rp.wrote e ⟨_,b6,(h2.erase j).later la⟩) _ (r4.later la)
      ·rw [if_neg hb] at p;exact p.elim
     | dct _=>exact p.elim
     | exc _ _=>exact p.elim
 ·exact p.elim
end
end L3
namespace HT
open PySem PySem.Spec PyProof.Rows
def j2 (a:Bool):Obj:={ cls:=.type "set",dict:=none,data:=.set #[] 0 (.fresh 0 0 a) }
section
variable {prog:Program} {w:World} {A:Around} {E:Value->Shared->Prop} {s:Shared}
theorem ei (C:A.handled=none) (O:s.heap.IsTuple t its) (N:IntsAre its.toList ns) (c:its.size+1<scanBound) (P:Fin->Shared->Prop) (z:Value->Shared->Prop)
  (h:∀ (g:Heap) (d:Nat),g.SetOf (intKind prog w) s.heap.objs.size (λk=>(firstMet (λi=>ns.getD i 0) its.size).any (·==k)) (firstMet (λi=>ns.getD i 0) its.size).length ->
   (∀ b o,b<s.heap.objs.size->s.heap.get? b=some o->g.get? b=some o)->P (.done (.ret .none)) { s with heap:=g,toks:=d }) :
  wpAny (model prog w) A (Builtin.«set.__init__» ⟨[.ref s.heap.objs.size,.ref t],[]⟩) P z { s with heap:=s.heap.push (j2 led) }:=by
 have D:(s.heap.push (j2 led)).get? s.heap.objs.size=some (j2 led):=Eu _ rfl;obtain ⟨ob,r,H,n,E⟩:=O;obtain ⟨G,m,q,j⟩:=ob;subst H E;have x:=El (j2 led) r;have l:(s.heap.push (j2 led)).IsTuple t its:=⟨_,x,rfl,n,rfl⟩;have p:=Ew r;have T:=F.sub_tuple_set;have R:=F.sub_tuple_frozenset;have V:(Value.type "tuple" == Value.type "dict")=false:=by decide
 unfold Builtin.«set.__init__» noKeywords Builtin.Frozenset.updateFrom;generalize I:pyIter=pI
 wp_walk
 subst I;refine GG l (Ej (IS ?_));have K:t≠(s.heap.push (j2 led)).objs.size:=by rw [FT];exact Ex (FH p)
 have B:s.heap.objs.size∉[(s.heap.push (j2 led)).objs.size,t]:=by
  rw [FT];simp only [Ez,Ge,Ia,not_or];exact ⟨Ex (FB _),HR p⟩
 have f:=λi v L=>IntsAre.int_at N i v (by rw [Gq];exact L);have M:A.in1.handled=none:=by simp [C]
 refine codeAny_set_update_loopS ((Walks.tuple M _ t K its).toS) s.heap.objs.size B (λi=>ns.getD i 0) f c (its.size-0) 0 _ (by omega) (FJ _) ⟨⟨_,Eu _ rfl,rfl,rfl⟩,l.push _⟩ ?_ ?_
 ·exact SetOf_congr ((setObjOf_fresh led).setOf (El _ D) (by unfold scanBound;omega)) (λ_=>rfl) rfl
 ·rintro ⟨g,S,W,d,U⟩ a y;have u:=a.gens;have J:=a.drawn;have Q:=a.os;subst u J Q;refine Ek ?_;refine Ek (h g d y λb o c e=>a.heap b o ?_ (El _ (El _ e)));simp only [Ez,Ge,Ia,not_or];exact ⟨Ex c,by rw [FT];exact Ex (FH c)⟩
theorem call_set_tup (p:A.handled=none) (q:s.heap.IsTuple t its) (l:IntsAre its.toList ns) (m:its.size+1<scanBound)
  (h:∀ (g:Heap) (e:Nat),g.SetOf (intKind prog w) s.heap.objs.size (λk=>(firstMet (λi=>ns.getD i 0) its.size).any (·==k)) (firstMet (λi=>ns.getD i 0) its.size).length ->
   (∀ b o,b<s.heap.objs.size->s.heap.get? b=some o->g.get? b=some o)->Q (.ref s.heap.objs.size) { s with heap:=g,toks:=e }):wpAny (model prog w) A (call (.type "set") [.ref t]) Q E s:=by
 obtain ⟨c,u,F⟩:=PySem.F.called_set.mro;have m2:=PySem.F.called_set.made;have v:=PySem.F.called_set.sub;refine GV (Iu ?_);refine Ek ⟨Code.quiet_builtin _ (by decide +kernel),Gp Jp ?_⟩;rw [Around.under_plain (weight_type_call_type "set" [.ref t] []) rfl];have y:=PySem.F.called_set.notType;have B:=PySem.F.called_set.canCreate;have x:=PySem.F.typeCall_set_1 (.ref t)
 repeat (any_goals (first | assumption | wp_step))
 refine Gi (code_set_new_1 (.ref t) (E:=E) (Q₁:=λr z=>∃ d:Bool,r=.ref s.heap.objs.size/\z={ s with heap:=s.heap.push (j2 d) }) λd=>⟨d,rfl,rfl⟩) λr z a=>?_
 match r,a with
 | .error _,a=>exact a
 | .ok .next,a=>exact a.elim
 | .ok .brk,a=>exact a.elim
 | .ok .cont,a=>exact a.elim
 | .ok (.ret r),a=>
  obtain ⟨d,rfl,rfl⟩:=a;have n:Shared.TypeIs { s with heap:=s.heap.push (j2 d) } (.ref s.heap.objs.size) "set":=⟨_,Eu _ rfl,rfl⟩;have D:=PySem.F.called_set.init.lookup;have C:=PySem.F.called_set.init.bind (.ref s.heap.objs.size)
  repeat (any_goals (first | assumption | wp_step))
  refine Gi (GM (R:=wants (λr z=>r=.none/\∃ g e,z={ s with heap:=g,toks:=e }/\g.SetOf (intKind prog w) s.heap.objs.size (λk=>(firstMet (λi=>ns.getD i 0) its.size).any (·==k)) (firstMet (λi=>ns.getD i 0) its.size).length /\
   (∀ b o,b<s.heap.objs.size->s.heap.get? b=some o->g.get? b=some o)) E) PySem.F.called_set.init.plain PySem.F.entry_set_init (check_set_init_1 n ?_)) λr z a=>?_
  ·exact ei (by simp [p]) q l m _ _ λg e f j=>⟨rfl,g,e,rfl,f,j⟩
  ·match r,a with
   | .error _,a=>exact a
   | .ok .next,a=>exact a.elim
   | .ok .brk,a=>exact a.elim
   | .ok .cont,a=>exact a.elim
   | .ok (.ret r),a=>
    obtain ⟨rfl,g,e,rfl,f,j⟩:=a
    repeat (any_goals (first | assumption | wp_step))
    exact h _ _ f j
end
end HT
namespace L3
open PySem PySem.Spec PyProof.Rows L2
section
variable {X:Cx} {e:Expr} {te:TE} {p p2 pos pos2:Pos} {cl:Nat->Addr} {xe:Addr->Hp->Prop}
def rT (K:PySem.W.Frag) (te:TE):TE:=λσ H Q=>te σ H λx H1=>∃ a ns,x=.ref a/\(SqL K H1 a (ns.map V.int)\/SqT K H1 a (ns.map V.int))/\ns.length<4000/\Q (.int (V8 ns:Nat)) H1
theorem gy (hc:X.calm=true) (hl:Gl X "len") (ml:X.mg "len" = none) (hs:Gl X "set") (ms:X.mg "set" = none) (he:PE X e te) (hn:noStar e=true):PE X (.Call (.Name "len" p) [.Call (.Name "set" p2) [e] [] pos2] [] pos) (rT X.K te):=by
 intro pins s σ H Q I h;have hh:=I.ok.hd hc;refine FY (A8 I hl ml PySem.boot_len ?_ (by decide) (by decide));refine Gs ?_ rfl rfl;refine GU ?_;refine FY (A8 I hs ms (by rfl) ?_ (by decide) (by decide));refine Ga ?_ (c7 hn) rfl;rw [c7 hn];refine GU (thn (he pins s σ H _ I h) λu s1 ⟨x,H1,I1,r1,a,ns,e1,hq,hz,q⟩=>?_);subst e1;cases r1;refine Hj ?_;have fin:∀ (its:List Value) (h':Heap) (tk:Nat),its.length=ns.length->h'.SetOf (intKind X.prog X.w) s1.heap.objs.size (λk'=>(firstMet (λi=>ns.getD i 0) its.toArray.size).any (·==k')) (firstMet (λi=>ns.getD i 0) its.toArray.size).length ->
   (∀ b o,b<s1.heap.objs.size->s1.heap.get? b=some o->h'.get? b=some o)->wpAny (model X.prog X.w) X.A (spliced (backTo pos (starEach [] X.env))) (λvs s2=>wpAny (model X.prog X.w) X.A (call (.builtin "len") (.ref s1.heap.objs.size :: vs)) (EP X pins σ Q) X.xe s2) X.xe { s1 with heap:=h',toks:=tk }:=λits h' tk hlen hS hk=>by
  refine Hj ?_;obtain ⟨o,es,ep,t,ho,hex,hd,_,_,hsc,hf,hsz2⟩:=hS;have hsc':es.size<4096:=hsc;refine PySem.call_len_set ho hex hd hf (by omega) ?_;have e5:its.toArray.size=ns.length:=by rw [Ey,hlen]
  rw [e5] at hsz2;have e6:=hsz2;rw [e6];exact ⟨.int (V8 ns:Nat),H1,I1.kept λb ob eb=>hk b ob (Ew eb) eb,⟨_,rfl⟩,q⟩
 rcases hq with hq | hq
 ·obtain ⟨its,r',pl,hsz⟩:=I1.list hq;have hlen:its.length=ns.length:=by rw [<- r'.length,En]
  exact call_set_list hh pl.isList (E5 r') (by rw [Ey,hlen];show ns.length+1<4096;omega) λh' tk hS hk=>fin its h' tk hlen hS hk
 ·obtain ⟨its,r',⟨ob,o1,o2,n,o3⟩,hsz⟩:=I1.tuple hq;have hlen:its.length=ns.length:=by rw [<- r'.length,En]
  exact HT.call_set_tup hh ⟨ob,o1,o2,n,o3⟩ (E5 r') (by rw [Ey,hlen];show ns.length+1<4096;omega) λh' tk hS hk=>fin its h' tk hlen hS hk
def G5 (d:D):M D:=bind (B1 d) λds=>match t8 ds with
 | some ns=>if ns.length<4000 then ret (.int (V8 ns:Nat)) else bad
 | none=>bad
theorem gE (u:X.calm=true) (t:Gl X "len") (s:X.mg "len" = none) (hs:Gl X "set") (ms:X.mg "set" = none) (n:PE X e (tD X.K cl xe f)) (m:noStar e=true):PE X (.Call (.Name "len" p) [.Call (.Name "set" p2) [e] [] pos2] [] pos) (tD X.K cl xe λρ=>bind (f ρ) G5):=
 PE.imp (gy u t s hs ms n m) λσ H Q ⟨μ,S,ρ,q,k,p⟩=>⟨μ,S,ρ,q,k,p.bind.imp λd S1 g j w h b v o=>by
  obtain ⟨a,xs,ds,rfl,r,l,i⟩:=Q0 o h b.bind;have b:=b.ok_bind i;cases c:t8 ds with
  | none=>rw [c] at b;exact b.elim
  | some ns=>
   rw [c] at b;obtain ⟨hz,b⟩:=Post.guard b;have:=aF c l;subst this;exact ⟨a,ns,rfl,r,hz,b g j (Lat.refl _ _) h _ (.int _)⟩⟩
end
end L3
namespace HT
open PySem PySem.Spec PyProof.Rows
def Rise (xs:Array Nat):Prop:=xs.toList.Pairwise (· < ·)
theorem Rise.lt (h:Rise xs) {i j:Nat} (a:i<j) (b:j<xs.size):xs[i]<xs[j]:=by
 have:=List.pairwise_iff_getElem.mp h i j (by simp;omega) (by simpa using b) a;grind
theorem ba {xs:Array Nat} {j:Nat} (h:Rise xs):∀ (fuel lo hi:Nat),hi-lo<=fuel->lo<=hi->hi<=xs.size->(∀ i (z:i<xs.size),i<lo->xs[i]<j)->(∀ i (z:i<xs.size),hi<=i->j<=xs[i]) ->
  SetTable.below.go xs j fuel lo hi<=xs.size/\(∀ i (z:i<xs.size),i<SetTable.below.go xs j fuel lo hi->xs[i]<j)/\∀ i (z:i<xs.size),SetTable.below.go xs j fuel lo hi<=i->j<=xs[i]
 | 0,lo,hi,f,le,le2,a,b=>by
  have e:lo=hi:=by omega
  subst e;exact ⟨le2,a,b⟩
 | fuel+1,lo,hi,f,le,le2,a,b=>by
  unfold SetTable.below.go;by_cases c:lo<hi
  ·rw [if_pos c];have hm:(lo+hi) / 2<xs.size:=by omega
   have em:xs.getD ((lo+hi) / 2) j=xs[(lo+hi) / 2]:=by simp [Array.getD,hm]
   dsimp only;rw [em];by_cases d:xs[(lo+hi) / 2]<j
   ·rw [if_pos d];refine ba h fuel _ _ (by omega) (by omega) le2 (λi z w=>?_) b;rcases Nat.lt_or_ge i ((lo+hi) / 2) with u | u
    ·exact Nat.lt_trans (h.lt u hm) d
    ·have:i=(lo+hi) / 2:=by omega
     subst this;exact d
   ·rw [if_neg d];refine ba h fuel _ _ (by omega) (by omega) (by omega) a λi z w=>?_;rcases Nat.lt_or_ge ((lo+hi) / 2) i with u | u
    ·have:=h.lt u z;omega
    ·have:i=(lo+hi) / 2:=by omega
     subst this;omega
  ·rw [if_neg c];have e:lo=hi:=by omega
   subst e;exact ⟨le2,a,b⟩
theorem aP (h:Rise xs) (j:Nat):SetTable.below xs j<=xs.size/\(∀ i (z:i<xs.size),i<SetTable.below xs j->xs[i]<j)/\∀ i (z:i<xs.size),SetTable.below xs j<=i->j<=xs[i]:=
 ba h xs.size 0 xs.size (by omega) (FJ _) (Es _) (λi _ w=>absurd w (Jx _)) λi z w=>by omega
theorem hI (h:Rise xs) {i:Nat} (hi:i<xs.size):SetTable.below xs (xs[i]+1)=i+1:=by
 obtain ⟨a,b,c⟩:=aP h (xs[i]+1);generalize SetTable.below xs (xs[i]+1)=k at a b c;rcases Nat.lt_trichotomy k (i+1) with u | u | u
 ·grind
 ·exact u
 ·have z:i+1<xs.size:=by omega
  have:=b (i+1) z u;have:xs[i]<xs[i+1]:=h.lt (FB i) z;omega
theorem gr (h:Rise xs):SetTable.below xs 0=0:=by
 obtain ⟨a,b,c⟩:=aP h 0;rcases Nat.eq_zero_or_pos (SetTable.below xs 0) with u | u
 ·exact u
 ·have:=b 0 (by omega) u;omega
theorem fP (h:Rise xs) {j:Nat} (n:xs[SetTable.below xs j]?≠some j):Rise (SetTable.insertAt xs (SetTable.below xs j) j):=by
 obtain ⟨a,b,c⟩:=aP h j;unfold Rise;rw [SetTable.toList_insertAt,List.pairwise_append,GH];refine ⟨Ig (HS _ _) h,⟨λy d=>?_,Ig (Jd _ _) h⟩,λx g y d=>?_⟩
 ·obtain ⟨k,e,rfl⟩:=Ho.mp d;rw [Hq,FC] at e;have hz:SetTable.below xs j+k<xs.size:=by omega
  rw [List.getElem_drop,Iq];have l:=c _ hz (Nat.le_add_right _ _);rcases Nat.eq_zero_or_pos k with rfl | kp
  ·grind
  ·have i:SetTable.below xs j<xs.size:=by omega
   have:=c _ i (Es _);have:=h.lt (show SetTable.below xs j<SetTable.below xs j+k by omega) hz;omega
 ·have f:x<j:=by
   obtain ⟨k,e,rfl⟩:=Ho.mp g;rw [GD,FC] at e;rw [List.getElem_take,Iq];exact b _ (by omega) (by omega)
  rcases Ez.mp d with rfl | d
  ·exact f
  ·obtain ⟨k,e,rfl⟩:=Ho.mp d;rw [Hq,FC] at e;rw [List.getElem_drop,Iq];have:=c _ (show SetTable.below xs j+k<xs.size by omega) (Nat.le_add_right _ _);omega
structure TbHt (t:SetTable):Prop where
 nd:t.dummies=#[]
 up:t.plain=true->Rise t.place
theorem fD (j:Nat):SetTable.has #[] j=false:=by simp [SetTable.has]
theorem fX (h:t.dummies=#[]) (f:Nat->Int) (x:Int):∀ (n:Nat) (p:SetTable.Probe) (j:Nat) (d:Option Nat),p.dummy=none->SetTable.probe.go t f x n p=some (.empty j d)->d=none/\t.slot j=.empty
 | 0,p,j,d,_,e=>by unfold SetTable.probe.go at e;cases e
 | n+1,p,j,d,pd,e=>by
  unfold SetTable.probe.go at e;have ad:∀ q:SetTable.Probe,(t.advance q).dummy=q.dummy:=λq=>by
   unfold SetTable.advance;split <;> rfl
  cases hs:t.slot p.j with
  | empty=>
   rw [hs] at e;obtain ⟨rfl,rfl⟩:=e;exact ⟨pd,hs⟩
  | dummy=>
   unfold SetTable.slot at hs;rw [h] at hs;dsimp only at hs;split at hs
   ·cases hs
   ·rw [fD] at hs;simp at hs
  | live i=>
   rw [hs] at e;dsimp only at e;split at e
   ·cases e
   ·exact fX h f x n _ j d ((ad p).trans pd) e
theorem sA {t:SetTable} (h:t.dummies=#[]) {x:Int} {j:Nat} {b:Bool} (e:t.freeSlot x=some (j,b)):t.slot j=.empty:=by
 unfold SetTable.freeSlot SetTable.probe at e;split at e
 ·rename_i c d a;obtain ⟨rfl,q⟩:=fX h _ _ _ _ _ _ rfl a;simp at e;rw [<- e.1];exact q
 ·cases e
theorem uY {t:SetTable} {j:Nat} (h:t.slot j=.empty):t.place[SetTable.below t.place j]?≠some j:=λe=>by
 unfold SetTable.slot at h;dsimp only at h;rw [e] at h;simp at h
theorem TbHt.stand (t:SetTable) (n:Nat):TbHt (t.standIn n):=⟨rfl,λh=>by cases h⟩
theorem TbHt.put (h:TbHt t) {j:Nat} (e:t.slot j=.empty):TbHt (t.put j).1:=by
 refine ⟨?_,λp=>?_⟩
 ·unfold SetTable.put;rw [h.nd,fD];rfl
 ·exact fP (h.up p) (uY e)
theorem TbHt.lay (h:TbHt t) (es:Array (Int×Value)) (x:Int) (v:Value):TbHt (layNew t es x v).2.1/\(layNew t es x v).2.1.led=t.led:=by
 unfold layNew;split
 ·rename_i a wd e;have b:=h.put (sA h.nd e);dsimp only;unfold SetTable.orStandIn;split
  ·exact ⟨b,rfl⟩
  ·exact ⟨.stand _ _,rfl⟩
 ·exact ⟨.stand _ _,rfl⟩
theorem iQ (n:Nat) (f:Nat->Option (Nat×Nat)) (d:∀ j p,f j=some p->p.1=j):(((List.range n).filterMap f).map (·.1)).Pairwise (· < ·):=by
 rw [Ib];refine List.Pairwise.filterMap f (λa b c x e y g=>?_) List.pairwise_lt_range;grind
theorem TbHt.relay (h:TbHt t) (es:Array (Int×Value)) (m:Nat):TbHt (relayAll t es m).2.1/\(relayAll t es m).2.1.led=t.led:=by
 unfold relayAll;split
 ·rename_i t' a e;dsimp only;unfold SetTable.relaid SetTable.laid at e;simp only [Option.bind_eq_bind,Option.bind_eq_some_iff,Option.pure_def,Option.some.injEq,Prod.mk.injEq] at e;obtain ⟨b,_,rfl,_⟩:=e;split
  ·refine ⟨⟨rfl,λ_=>?_⟩,rfl⟩;refine iQ _ _ λj p q=>?_;rw [GW] at q;obtain ⟨_,_,rfl⟩:=q;rfl
  ·exact ⟨.stand _ _,rfl⟩
 ·exact ⟨.stand _ _,rfl⟩
theorem TbHt.unplain (h:TbHt t):TbHt { t with plain:=false }:=⟨h.nd,λz=>by cases z⟩
theorem TbHt.fresh (f m:Nat) (l:Bool):TbHt (SetTable.fresh f m l):=⟨rfl,λ_=>by unfold Rise SetTable.fresh;exact .nil⟩
section
variable {prog:Program} {w:World} {K:Type} [DecidableEq K] {knd:KeyKind prog w K} {A:Around} {E:Value->Shared->Prop} {s:Shared}
def j7 (w:World):Bool:=w.params.followText "set-order"
def mL (knd:KeyKind prog w K) (o:Obj) (S:K->Bool) (n:Nat) (es:Array (Int×Value)) (a:Nat) (t:SetTable):Prop:=
 o.ExactSet/\o.data=.set es a t/\ElemsOf knd es.toList/\(∀ k,S k=true↔∃ e∈es.toList,knd.is k e.2=true)/\es.size<scanBound/\t.fits es.size=true/\es.size=n/\TbHt t/\t.led=!j7 w
def SetL (knd:KeyKind prog w K) (h:Heap) (a:Addr) (S:K->Bool) (n:Nat):Prop:=∃ o es b t,h.get? a=some o/\mL knd o S n es b t
theorem SetL.cg {n b:Nat} (x:SetL knd h a S n) (e:∀ k,S k=S' k) (f:n=b):SetL knd h a S' b:=by
 have:=funext e;grind
theorem SetL.mv {a:Addr} {S:K->Bool} {n:Nat} (x:SetL knd h a S n) (e:∀ o,h.get? a=some o->h'.get? a=some o):SetL knd h' a S n:=
 let ⟨o,es,b,t,c,r⟩:=x;⟨o,es,b,t,e o c,r⟩
theorem eY {h:Heap} {a:Addr} {o:Obj} {es:Array (Int×Value)} {c:Nat} {t:SetTable} (d:h.get? a=some o) (b:o.ExactSet) (hd:o.data=.set es c t) {es':Array (Int×Value)} {t':SetTable} {S':K->Bool}
  (r:ElemsOf knd es'.toList/\(∀ k,S' k=true↔∃ e∈es'.toList,knd.is k e.2=true)/\es'.size<scanBound/\t'.fits es'.size=true/\TbHt t'/\t'.led=!j7 w) :
  ∃ o',(h.update a (Obj.putSet es' t')).get? a=some o'/\mL knd o' S' es'.size es' (c+1) t':=by
 obtain ⟨g,_⟩:=SetOf_store d b hd r.1 r.2.1 r.2.2.1 r.2.2.2.1;exact ⟨_,g,b,rfl,r.1,r.2.1,r.2.2.1,r.2.2.2.1,rfl,r.2.2.2.2⟩
theorem cS (C:s.heap.get? a=some o) (n:o.ExactSet) (hd:o.data=.set es ep t) {g:Bool->Sem Unit}
  (F:∀ (b:Bool) (u:Shared) (R:Unit->Shared->Prop),R () u->wpAny (model prog w) A (g b) R E u) {c:Array (Int×Value)} {d:SetTable} {S':K->Bool}
  (r:ElemsOf knd c.toList/\(∀ k,S' k=true↔∃ e∈c.toList,knd.is k e.2=true)/\c.size<scanBound/\d.fits c.size=true/\TbHt d/\d.led=!j7 w) {wd:Bool} {R:Option Bool->Shared->Prop}
  (q:∀ h',Heap.SameBut a s.heap h'->SetL knd h' a S' c.size->R (some true) { s with heap:=h' }) :
  wpAny (model prog w) A (storeSet a c d >>= λ_=>if (!wd&&d.tooFull)=true then (g (relayAll d c (SetTable.grown c.size)).2.2 >>= λ_=>storeSet a (relayAll d c (SetTable.grown c.size)).1 (relayAll d c (SetTable.grown c.size)).2.1 >>= λ_=>pure (some true)) else pure (some true)) R E s:=by
 refine Ej (wpAny_storeSet_of C hd ?_ (fits_of_scanBound r.2.2.1));obtain ⟨D,h,i⟩:=eY C n hd r;have y:=FZ s.heap a (Obj.putSet c d);split
 ·have p:=relayAll_perm d c (SetTable.grown c.size);have f:=relayAll_fits d c (SetTable.grown c.size);have j:=r.2.2.2.2.1.relay c (SetTable.grown c.size);generalize relayAll d c (SetTable.grown c.size)=Z at p f j ⊢;obtain ⟨v,I,J⟩:=Z;have B:v.size=c.size:=by
   have:=p.length_eq;rwa [FC,FC] at this
  have x:=B▸r.2.2.1;refine Ej (F _ _ _ (Ej (wpAny_storeSet_of h i.2.1 ?_ (fits_of_scanBound x))));obtain ⟨G,l,H⟩:=eY h i.1 i.2.1 ⟨r.1.perm p,λk=>(r.2.1 k).trans ⟨λ⟨e,m,z⟩=>⟨e,p.mem_iff.mpr m,z⟩,λ⟨e,m,z⟩=>⟨e,p.mem_iff.mp m,z⟩⟩,x,f,j.1,j.2.trans r.2.2.2.2.2⟩;exact Ek (q _ (y.trans (FZ _ a _)) (SetL.cg ⟨G,_,_,_,l,H⟩ (λ_=>rfl) B))
 ·exact Ek (q _ y ⟨D,_,_,_,h,i⟩)
theorem yw {k:K} {x:Value} {Q:Bool->Shared->Prop} (G:knd.is k x=true) (D:x.scannable=true) (X:SetL knd s.heap a S n) (I:n+1<scanBound)
  (q:∀ h',Heap.SameBut a s.heap h'->SetL knd h' a (λm=>S m||decide (m=k)) (if S k then n else n+1)->Q (!S k) { s with heap:=h' }):wpAny (model prog w) A (setAddHashed a x (knd.hash k)) Q E s:=by
 obtain ⟨o,es,W,t,i,h,hd,c,r,H,F,O,J,T⟩:=X;refine FU (Ej (GN i hd F ?_));dsimp only;rw [byScan_of D H c,if_pos rfl];refine Ej (Ej (Ij (Ej (wpAny_setScan_of G i hd F c ?_))));cases M:List.findIdx? (λe=>knd.is k e.2) es.toList with
 | some j=>
  obtain ⟨hj,B,_⟩:=List.findIdx?_eq_some_iff_getElem.mp M;have g:=(r k).mpr ⟨es.toList[j],FK hj,B⟩;refine Ek (Ek ?_);have z:=q s.heap (Heap.SameBut.refl a s.heap) (SetL.cg ⟨o,es,W,t,i,h,hd,c,r,H,F,O,J,T⟩ (λm=>by
   by_cases e:m=k
   ·subst e;rw [g];rfl
   ·simp [e]) (by rw [if_pos g]))
  rw [g] at z;exact z
 | none=>
  have Z:S k=false:=by
   cases V:S k with
   | false=>rfl
   | true=>
    obtain ⟨e,Y,B⟩:=(r k).mp V;have:=List.findIdx?_eq_none_iff.mp M e Y;rw [B] at this;cases this
  have gw:∀ (b:Bool) (u:Shared) (R:Unit->Shared->Prop),R () u->wpAny (model prog w) A (match b with | true=>rule "set.scan.the-table-gave-way" | false=>pure ()) R E u:=λb u R z=>by
   cases b
   ·exact Ek z
   ·exact Ij z
  have p:=layNew_perm t es (knd.hash k) x;have f:=layNew_fits t es (knd.hash k) x;have l:=J.lay es (knd.hash k) x;generalize layNew t es (knd.hash k) x=L at p f l ⊢;obtain ⟨C,t1,wd,U⟩:=L;dsimp only at p f l ⊢;rw [Array.toList_push] at p;have v:C.size=n+1:=by
   have:=p.length_eq;rw [FN,FC,FC,O] at this;exact this
  have d:=λh' z y=>by
   have:=q h' z;rw [Z] at this;exact this (SetL.cg y (λ_=>rfl) v)
  have N:=(c.push G D).perm p;have P:=mem_push_iff G r p;refine Ej (gw _ _ _ ?_);split
  ·rw [hashByValue_scannable 8 D];refine Ej (Ek ?_);refine cS i h hd (λb u R z=>by cases b <;> first | exact Ek z | exact Ij z) ⟨N,P,by rw [v];exact I,?_,?_,?_⟩ λh' z y=>Ek (d h' z y)
   ·split
    ·exact f
    ·exact SetTable.fits_plain_off f
   ·split
    ·exact l.1
    ·exact l.1.unplain
   ·grind
  ·refine Ej (Ek ?_);rw [if_pos rfl];exact cS i h hd (λb u R z=>by cases b <;> first | exact Ek z | exact Ij z) ⟨N,P,by rw [v];exact I,f,l.1,l.2.trans T⟩ λh' z y=>Ek (d h' z y)
end
section
variable {K:Type} [DecidableEq K]
def metKHt (f:Nat->K):Nat->List K
 | 0=>[]
 | i+1=>if f i∈metKHt f i then metKHt f i else metKHt f i++[f i]
theorem iA (f:Nat->K) (i:Nat):metKHt f (i+1)=if f i∈metKHt f i then metKHt f i else metKHt f i++[f i]:=rfl
theorem jr (f:Nat->K):∀ i,(metKHt f i).length<=i
 | 0=>Es _
 | i+1=>by
  have:=jr f i;unfold metKHt;split
  ·omega
  ·grind
theorem metK_nd (f:Nat->K):∀ i,(metKHt f i).Nodup
 | 0=>.nil
 | i+1=>by
  have:=metK_nd f i;unfold metKHt;split
  ·exact this
  ·grind
theorem metK_mem (f:Nat->K) (k:K):∀ i,k∈metKHt f i↔∃ j,j<i/\f j=k
 | 0=>by simp [metKHt]
 | i+1=>by
  have a:=metK_mem f k i;have e:k∈metKHt f (i+1)↔(k∈metKHt f i\/k=f i):=by
   rw [iA];split
   ·grind
   ·grind
  rw [e,a];constructor
  ·grind
  ·grind
end
section
variable {prog:Program} {w:World} {K:Type} [DecidableEq K] {knd:KeyKind prog w K} {A:Around} {R:Result->Shared->Prop} {I:Addr} {fp wr:List Addr} {G:Array GenState->Array GenState->Prop} {n:Nat} {P:Nat->Value->Prop} {St:Nat->Shared->Prop}
def O5 (l:List K) (k:K):Bool:=decide (k∈l)
theorem zl (W:WalksS prog w A.in1 I fp wr G n P St) (B:Addr) (E:B∉fp) (f:Nat->K) (M:∀ i v,P i v->knd.is (f i) v=true/\v.scannable=true) (a:n+1<scanBound) :
  ∀ (k i:Nat) (s:Shared),n-i=k->i<=n->St i s->SetL knd s.heap B (O5 (metKHt f i)) (metKHt f i).length ->
   (∀ z,Moved (B :: wr) G s z->SetL knd z.heap B (O5 (metKHt f n)) (metKHt f n).length->R (.ok (.ret .none)) z)->codeAny (model prog w) A (.builtin "set.update.loop" ⟨[.ref B,.ref I],[]⟩) R s:=by
 have u:=λh=>E (W.sub _ h);have D:∀ b∈wr,b∈B :: wr:=λb a=>Fg _ a;intro k;induction k with
 | zero=>
  intro i s N F st t q;obtain rfl:i=n:=by omega
  refine Gp Hz ?_;rw [GO Gz _];refine Ej (W.done s _ _ st λz m=>?_);exact Ek (q z (m.mono D) (t.mv λo=>m.heap B o u))
 | succ k O=>
  intro i s N F st t q;have C:i<n:=by omega
  refine Gp Hz ?_;rw [GO Gz _];refine Ej (W.item i s _ _ C st λv z J r m=>?_);obtain ⟨x,H⟩:=M i v J;have l:=t.mv λo=>m.heap B o u;refine Ej (FU (FU (Ej (knd.pyHash x ?_))));refine yw x H l (by have:=jr f i;omega) λg y d=>?_;have j:SetL knd g B (O5 (metKHt f (i+1))) (metKHt f (i+1)).length:=d.cg (λQ=>by
   rw [iA];unfold O5;by_cases c:f i∈metKHt f i
   ·grind
   ·rw [if_neg c];simp) (by
   rw [iA];unfold O5;by_cases c:f i∈metKHt f i
   ·grind
   ·rw [if_neg (by simpa using c),if_neg c,FN];rfl)
  refine Ek ⟨Ji Gz _,O (i+1) _ (by omega) C (W.frame _ z _ _ r (Gb _) λb a o e=>?_) j λL m2 p=>?_⟩
  ·rw [y.2 b (λh:b=B=>E (h▸a))];exact e
  ·refine q L (Moved.trans W.gtrans ((m.mono D).then_heap (Gb _) λb o a e=>?_) m2) p;rw [y.2 b (λh:b=B=>a (h▸Fe))];exact e
end
section
variable {prog:Program} {w:World} {K:Type} [DecidableEq K] {knd:KeyKind prog w K} {A:Around} {E:Value->Shared->Prop} {s:Shared}
def L1 (knd:KeyKind prog w K) (f:Nat->K) (n:Nat) (s:Shared) (g:Heap):Prop:=SetL knd g s.heap.objs.size (O5 (metKHt f n)) (metKHt f n).length/\∀ b o,b<s.heap.objs.size->s.heap.get? b=some o->g.get? b=some o
theorem iD (h:Heap):SetL knd (h.push (j2 (!j7 w))) h.objs.size (O5 (metKHt (K:=K) f 0)) 0:=
 ⟨_,#[],0,_,Eu _ rfl,⟨rfl,rfl,rfl⟩,rfl,λe a=>by simp at a,λk=>by simp [O5,metKHt],by decide,rfl,rfl,TbHt.fresh _ _ _,rfl⟩
theorem tY {a:Addr} {c:Array Value} (f:Nat->K) (Z:A.handled=none) (u:s.heap.IsTuple a c\/s.heap.IsList a c) (hf:∀ i v,c[i]?=some v->knd.is (f i) v=true/\v.scannable=true) (G:c.size+1<scanBound) (P:Fin->Shared->Prop) (Q:Value->Shared->Prop)
  (h:∀ (g:Heap) (d:Nat),L1 knd f c.size s g->P (.done (.ret .none)) { s with heap:=g,toks:=d }) :
  wpAny (model prog w) A (Builtin.«set.__init__» ⟨[.ref s.heap.objs.size,.ref a],[]⟩) P Q { s with heap:=s.heap.push (j2 (!j7 w)) }:=by
 have gS:(s.heap.push (j2 (!j7 w))).get? s.heap.objs.size=some (j2 (!j7 w)):=Eu _ rfl;have E:∀ (k:Obj) (L M:List Addr) (N:Nat->Heap->Prop) (W:Walks prog w A.in1 (s.heap.objs.size+1) L M c.size (λi v=>c[i]?=some v) N),M=[s.heap.objs.size+1]->s.heap.objs.size∉L->N 0 ((s.heap.push (j2 (!j7 w))).push k)->codeAny (model prog w) A (.builtin "set.update.loop" ⟨[.ref s.heap.objs.size,.ref (s.heap.objs.size+1)],[]⟩) (λr z=>∃ g d,r=.ok (.ret .none)/\z={ s with heap:=g,toks:=d }/\L1 knd f c.size s g) { s with heap:=(s.heap.push (j2 (!j7 w))).push k }:=λk L M N W ew nS st=>by
  subst ew;refine zl (knd:=knd) W.toS s.heap.objs.size nS f hf G (c.size-0) 0 _ (by omega) (FJ _) st ?_ ?_
  ·exact (iD (knd:=knd) (f:=f) s.heap).mv λo e=>El _ e
  ·rintro ⟨g,gn,Y,d,X⟩ H hS;have z1:gn=s.gens:=H.gens;have z2:Y=s.drawn:=H.drawn;have z3:X=s.os:=H.os;subst z1 z2 z3;refine ⟨g,d,rfl,rfl,hS,λb o G e=>H.heap b o ?_ (El _ (El _ e))⟩;simp only [Ez,Ge,Ia,not_or];exact ⟨Ex G,Ex (FH G)⟩
 have S:A.in1.handled=none:=by simp [Z]
 have I:(s.heap.push (j2 (!j7 w))).objs.size=s.heap.objs.size+1:=FT _ _;have j:∀ (k:Obj),codeAny (model prog w) A (.builtin "set.update.loop" ⟨[.ref s.heap.objs.size,.ref (s.heap.objs.size+1)],[]⟩) (λr z=>∃ g d,r=.ok (.ret .none)/\z={ s with heap:=g,toks:=d }/\L1 knd f c.size s g) { s with heap:=(s.heap.push (j2 (!j7 w))).push k } ->
   wpAny (model prog w) A (runValue (.builtin "set.update.loop" ⟨[.ref s.heap.objs.size,.ref (s.heap.objs.size+1)],[]⟩) >>= λ_=>pure ()) (λ_ z=>wpAny (model prog w) A (ret Value.none) P Q z) Q { s with heap:=(s.heap.push (j2 (!j7 w))).push k }:=λk z=>by
  refine Ej (IS (Gi z λr y ⟨g,d,C,T,e3⟩=>?_));subst C T;exact Ek (Ek (h g d e3))
 rcases u with u | u
 ·obtain ⟨ob,x,q,n,D⟩:=u;obtain ⟨J,m,t,l⟩:=ob;dsimp only at q D;subst q D;have C:=El (j2 (!j7 w)) x;have p:(s.heap.push (j2 (!j7 w))).IsTuple a c:=⟨_,C,rfl,n,rfl⟩;have B:=Ew x;have V:=F.sub_tuple_set;have U:=F.sub_tuple_frozenset;have q3:(Value.type "tuple" == Value.type "dict")=false:=by decide
  unfold Builtin.«set.__init__» noKeywords Builtin.Frozenset.updateFrom;generalize R:pyIter=pI
  wp_walk
  subst R;refine GG p ?_;show wpAny _ _ (runValue (.builtin "set.update.loop" ⟨[.ref s.heap.objs.size,.ref (s.heap.push (j2 (!j7 w))).objs.size],[]⟩) >>= λ_=>pure ()) _ _ { s with heap:=(s.heap.push (j2 (!j7 w))).push _ };rw [I];have O:a≠s.heap.objs.size+1:=Ex (FH B);refine j _ (E _ _ _ _ (Walks.tuple S _ a O c) rfl ?_ ⟨⟨_,I▸Eu _ rfl,rfl,rfl⟩,p.push _⟩);simp only [Ez,Ge,Ia,not_or];exact ⟨Ex (FB _),HR B⟩
 ·obtain ⟨ob,x,q,n,D⟩:=u;obtain ⟨J,m,t,l⟩:=ob;dsimp only at q D;subst q D;have C:=El (j2 (!j7 w)) x;have p:(s.heap.push (j2 (!j7 w))).IsList a c:=⟨_,C,rfl,n,rfl⟩;have B:=Ew x;have V:=PySem.F.sub_list_set;have U:=PySem.F.sub_list_frozenset;have q3:(Value.type "list" == Value.type "dict")=false:=by decide
  unfold Builtin.«set.__init__» noKeywords Builtin.Frozenset.updateFrom;generalize R:pyIter=pI
  wp_walk
  subst R;refine Jc p ?_;show wpAny _ _ (runValue (.builtin "set.update.loop" ⟨[.ref s.heap.objs.size,.ref (s.heap.push (j2 (!j7 w))).objs.size],[]⟩) >>= λ_=>pure ()) _ _ { s with heap:=(s.heap.push (j2 (!j7 w))).push _ };rw [I];have O:a≠s.heap.objs.size+1:=Ex (FH B);refine j _ (E _ _ _ _ (Walks.list S _ a O c) rfl ?_ ⟨⟨_,I▸Eu _ rfl,rfl,rfl⟩,p.push _⟩);simp only [Ez,Ge,Ia,not_or];exact ⟨Ex (FB _),HR B⟩
theorem zW (a:Value) {Q:Value->Shared->Prop} (h:Q (.ref s.heap.objs.size) { s with heap:=s.heap.push (j2 (!j7 w)) }):codeAny (model prog w) A (.call (.builtin "set.__new__") ⟨[.type "set",a],[]⟩) (wants Q E) s:=by
 refine Iu ?_;show wpAny _ A.in1 (checkBuiltinCall "set.__new__" ⟨[.type "set",a],[]⟩ >>= λ_=>again (.builtin "set.__new__" ⟨[.type "set",a],[]⟩)) _ _ s;refine Ej (JA (PySem.F.newCall_set_1 a) (Ek ⟨Ji PySem.F.plain_set_new _,Gp PySem.F.entry_set_new ?_⟩));rw [GO PySem.F.plain_set_new _];unfold Builtin.«set.__new__» Builtin.Frozenset.newClass;have q:=sub_set_self;obtain ⟨e,g,d,c,b⟩:=s;dsimp only
 wp_walk
 refine Il (Ek ?_);dsimp only;simp only [newObj];exact Ej (Jz (Ek (Ek h)))
theorem callLHt {a:Addr} {d:Array Value} (f:Nat->K) {Q:Value->Shared->Prop} (o:A.handled=none) (l:s.heap.IsTuple a d\/s.heap.IsList a d) (m:∀ i v,d[i]?=some v->knd.is (f i) v=true/\v.scannable=true) (k:d.size+1<scanBound)
  (h:∀ (g:Heap) (e:Nat),L1 knd f d.size s g->Q (.ref s.heap.objs.size) { s with heap:=g,toks:=e }):wpAny (model prog w) A (call (.type "set") [.ref a]) Q E s:=by
 obtain ⟨c,y,u⟩:=PySem.F.called_set.mro;have m2:=PySem.F.called_set.made;have B:=PySem.F.called_set.sub;refine GV (Iu ?_);show wpAny _ _ (callAny (.type "set") _) _ _ _;refine Ek ⟨Code.quiet_builtin _ (by decide +kernel),Gp Jp ?_⟩;rw [Around.under_plain (weight_type_call_type "set" [.ref a] []) rfl];have q:=PySem.F.called_set.notType;have C:=PySem.F.called_set.canCreate;have t:=PySem.F.typeCall_set_1 (.ref a)
 repeat (any_goals (first | assumption | wp_step))
 refine Gi (zW (.ref a) (E:=E) (Q:=λr z=>r=.ref s.heap.objs.size/\z={ s with heap:=s.heap.push (j2 (!j7 w)) }) ⟨rfl,rfl⟩) λr z b=>?_
 match r,b with
 | .error _,b=>exact b
 | .ok .next,b=>exact b.elim
 | .ok .brk,b=>exact b.elim
 | .ok .cont,b=>exact b.elim
 | .ok (.ret r),b=>
  obtain ⟨rfl,rfl⟩:=b;have n:Shared.TypeIs { s with heap:=s.heap.push (j2 (!j7 w)) } (.ref s.heap.objs.size) "set":=⟨_,Eu _ rfl,rfl⟩;have p:=PySem.F.called_set.init.lookup;have x:=PySem.F.called_set.init.bind (.ref s.heap.objs.size)
  repeat (any_goals (first | assumption | wp_step))
  refine Gi (GM (R:=wants (λr z=>r=.none/\∃ g e,z={ s with heap:=g,toks:=e }/\L1 knd f d.size s g) E) PySem.F.called_set.init.plain PySem.F.entry_set_init (check_set_init_1 n ?_)) λr z b=>?_
  ·exact tY f (by simp [o]) l m k _ _ λg e j=>⟨rfl,g,e,rfl,j⟩
  ·match r,b with
   | .error _,b=>exact b
   | .ok .next,b=>exact b.elim
   | .ok .brk,b=>exact b.elim
   | .ok .cont,b=>exact b.elim
   | .ok (.ret r),b=>
    obtain ⟨rfl,g,e,rfl,j⟩:=b
    repeat (any_goals (first | assumption | wp_step))
    exact h _ _ j
end
theorem si_slot:Slot "set_iterator" "__next__" "set_iterator.__next__":=by
 refine .of (owner:="set_iterator") (n:="__next__") ?_ (by decide +kernel) (by decide +kernel) (by decide +kernel) ?_ ?_
 ·rw [typeLookup_type,builtinLookup_eq_fast];kernel_rfl
 ·first | exact .inl (by decide +kernel) | exact .inr (by decide +kernel)
 ·rw [JB];kernel_rfl
theorem U8:entryFor table "set_iterator.__next__" = some Builtin.«set_iterator.__next__»:=entryFor_of_tree (by kernel_rfl)
theorem fo:Manifest.owners.lookup (String.ofList ['r','o','t','a','r','e','t','i','_','t','e','s'].reverse)=some Manifest.sig_set_iterator:=by kernel_rfl
theorem Z7 (a:Value):argsOk "set_iterator.__next__" ⟨[a],[]⟩:=by
 unfold argsOk;rw [signature?_of (n:=['_','_','t','x','e','n','_','_']) (by kernel_rfl) fo];kernel_rfl
theorem qH:entryFor table "set.__iter__" = some Builtin.«frozenset.__iter__»:=entryFor_alias (id':="frozenset.__iter__") (by kernel_rfl) rfl (by decide +kernel) (by kernel_rfl)
def SIt (h:Heap) (I a:Addr) (first:Value) (i n b:Nat):Prop:=∃ o,h.get? I=some o/\o.cls=.type "set_iterator"/\o.data=.fields #[first,.int i 0,.ref a,.int n 0,.int b 0]
theorem SIt.ty {s:Shared} {I a:Addr} {first:Value} {i n b:Nat} (x:SIt s.heap I a first i n b):s.TypeIs (.ref I) "set_iterator":=let ⟨o,d,c,_⟩:=x;⟨o,d,c⟩
section
variable {prog:Program} {w:World} {A:Around} {E:Value->Shared->Prop} {s:Shared}
theorem iH {f g i n c:Nat} {x:Value} {Q:Option Value->Shared->Prop} (b:SIt s.heap I a (.int (f:Nat) 0) i n c)
  (p:s.heap.get? a=some o) (hd:o.data=.set es c t) (q:t.fits es.size=true) (l:es.size=n)
  (hs:∀ (B:Around) (R:Option (Value×Nat)->Shared->Prop) (E:Value->Shared->Prop),R (some (x,g)) s->wpAny (model prog w) B (setNext a f i c) R E s)
  (r:∀ h',SIt h' I a (.int (g:Nat) 0) (i+1) n c->Heap.SameBut I s.heap h'->Q (some x) { s with heap:=h' }):wpAny (model prog w) A (pyNext (.ref I)) Q E s:=by
 obtain ⟨u,h,m,d⟩:=id b;refine Ej (HE (FP b.ty si_slot (FS si_slot b.ty U8 ?_ (Z7 _))));refine Ej (Ek (Ej (IT h d ?_)));refine Ej (GS p hd q ?_);rw [if_neg (by rw [l];simp)];refine Ej (hs _ _ _ ?_);refine Ej (Gk h d (by simp) ?_);have e:=Obj.data_mapFields d (·.setIfInBounds 0 (rawInt g));have k:=FE (Obj.mapFields (·.setIfInBounds 0 (rawInt g))) h (Obj.isFreed_of_fields e);refine Ej (Gk k e (by simp) ?_);have j:=Obj.data_mapFields e (·.setIfInBounds 1 (rawInt ((i:Int)+1)));refine Ek ⟨_,rfl,Ek (r _ ⟨_,FE _ k (Obj.isFreed_of_fields j),?_,?_⟩ ((FZ ..).trans (FZ ..)))⟩
 ·exact (Obj.cls_mapFields ..).trans ((Obj.cls_mapFields ..).trans m)
 ·rw [j];simp [rawInt]
theorem cZ {F:Value->Shared->Prop} (b:A.handled=none) (d:s.heap.get? I=some o) (a:o.data=.fields vs) (c:k<vs.size)
  (q:∀ (e:Addr) (h':Heap),Heap.ExtBut I s.heap h'->Shared.TypeIs { s with heap:=h' } (.ref e) "StopIteration"->F (.ref e) { s with heap:=h' }) :
  wpAny (model prog w) A (setField (.ref I) k u >>= λ_=>(newExc (.type "StopIteration") [] >>= λe=>raiseNew e:Sem Fin)) P F s:=by
 refine Ej (Gk d a c (Ej ?_));refine Ej (Ft ?_ (by size_fits));refine Ej (JA (by first | rfl | (simp;rfl)) (Ft ?_ (by size_fits)));refine Ej (wpAny_handled ?_);rw [b];refine Ej (Ek (wpAny_throw ?_));exact q _ _ (((FZ ..).extBut.push _).push _) ⟨_,Eu _ rfl,rfl⟩
theorem lV {f i n c:Nat} {Q:Option Value->Shared->Prop} (l:A.handled=none) (b:SIt s.heap I a (.int (f:Nat) 0) i n c)
  (j:s.heap.get? a=some o) (hd:o.data=.set es c t) (m:t.fits es.size=true) (h:es.size=n)
  (hs:∀ (B:Around) (R:Option (Value×Nat)->Shared->Prop) (E:Value->Shared->Prop),R none s->wpAny (model prog w) B (setNext a f i c) R E s)
  (p:∀ h',Heap.ExtBut I s.heap h'->Q none { s with heap:=h' }):wpAny (model prog w) A (pyNext (.ref I)) Q E s:=by
 obtain ⟨q,g,r,d⟩:=id b;refine Ej (HE (FP b.ty si_slot (FS si_slot b.ty U8 ?_ (Z7 _))));refine Ej (Ek (Ej (IT g d ?_)));refine Ej (GS j hd m ?_);rw [if_neg (by rw [h];simp)];refine Ej (hs _ _ _ ?_);refine cZ (by simp [l]) g d (by simp) λe h' x k=>?_;exact Ej (Jq k isSubtype_stop (Ek (p _ x)))
theorem hU {es:Array (Int×Value)} {t:SetTable} {ps:List Nat} {c i n f p:Nat} {z:Int} {x:Value} {Q:Option Value->Shared->Prop} (b:SIt s.heap I a (.ref tp) i n f)
  (h:s.heap.get? a=some o) (hd:o.data=.set es f t) (l:t.fits es.size=true) (r:es.size=n) (v:s.heap.get? tp=some ot) (e:ot.data=.seq (ps.map λ(k:Nat)=>rawInt (k:Int)).toArray c)
  (q:ps[i]?=some p) (u:es[p]?=some (z,x))
  (B:∀ h',SIt h' I a (.ref tp) (i+1) n f->Heap.SameBut I s.heap h'->Q (some x) { s with heap:=h' }):wpAny (model prog w) A (pyNext (.ref I)) Q E s:=by
 obtain ⟨C,g,y,d⟩:=id b;refine Ej (HE (FP b.ty si_slot (FS si_slot b.ty U8 ?_ (Z7 _))));refine Ej (Ek (Ej (IT g d ?_)));refine Ej (GS h hd l ?_);rw [if_neg (by rw [r];simp)];refine Ej (IR v e ?_);have m:(ps.map λ(k:Nat)=>rawInt (k:Int)).toArray[((i:Int).toNat:Nat)]?=some (rawInt (p:Int)):=by
  rw [Gn,Hh,Fz,q];rfl
 dsimp only;rw [m];refine Ej (Ej (GN h hd l ?_));dsimp only;rw [if_neg (by simp),Gn,u];refine Ek ?_;refine Ej (Gk g d (by simp) ?_);have j:=Obj.data_mapFields d (·.setIfInBounds 1 (rawInt ((i:Int)+1)));refine Ek ⟨_,rfl,Ek (B _ ⟨_,FE _ g (Obj.isFreed_of_fields j),?_,?_⟩ (FZ ..))⟩
 ·exact (Obj.cls_mapFields ..).trans y
 ·rw [j];simp [rawInt]
theorem kg {es:Array (Int×Value)} {t:SetTable} {ps:List Nat} {c i n l:Nat} {Q:Option Value->Shared->Prop} (y:A.handled=none) (d:SIt s.heap I a (.ref tp) i n l)
  (v:s.heap.get? a=some o) (hd:o.data=.set es l t) (F:t.fits es.size=true) (D:es.size=n) (p:s.heap.get? tp=some ot) (h:ot.data=.seq (ps.map λ(k:Nat)=>rawInt (k:Int)).toArray c)
  (C:ps[i]?=none)
  (z:∀ h',Heap.ExtBut I s.heap h'->Q none { s with heap:=h' }):wpAny (model prog w) A (pyNext (.ref I)) Q E s:=by
 obtain ⟨H,f,G,g⟩:=id d;refine Ej (HE (FP d.ty si_slot (FS si_slot d.ty U8 ?_ (Z7 _))));refine Ej (Ek (Ej (IT f g ?_)));refine Ej (GS v hd F ?_);rw [if_neg (by rw [D];simp)];refine Ej (IR p h ?_);have u:(ps.map λ(k:Nat)=>rawInt (k:Int)).toArray[((i:Int).toNat:Nat)]?=none:=by
  rw [Gn,Hh,Fz,C];rfl
 dsimp only;rw [u];refine Ej (Gk f g (by simp) ?_);have j:=Obj.data_mapFields g (·.setIfInBounds 0 (rawInt 0));have B:=FE (Obj.mapFields (·.setIfInBounds 0 (rawInt 0))) f (Obj.isFreed_of_fields j);refine cZ (by simp [y]) B j (by simp) λe h' x r=>?_;exact Ej (Jq r isSubtype_stop (Ek (z _ λb ob m q=>x b ob m ((FZ s.heap I _).extBut b ob m q))))
end
theorem iZ:Slot "set_iterator" "__iter__" "set_iterator.__iter__":=by
 refine .of (owner:="set_iterator") (n:="__iter__") ?_ (by decide +kernel) (by decide +kernel) (by decide +kernel) ?_ ?_
 ·rw [typeLookup_type,builtinLookup_eq_fast];kernel_rfl
 ·first | exact .inl (by decide +kernel) | exact .inr (by decide +kernel)
 ·rw [JB];kernel_rfl
theorem oV:entryFor table "set_iterator.__iter__" = some Builtin.«dict_keyiterator.__iter__»:=entryFor_alias (id':="dict_keyiterator.__iter__") (by kernel_rfl) rfl (by decide +kernel) (by kernel_rfl)
theorem sO (a:Value):argsOk "set_iterator.__iter__" ⟨[a],[]⟩:=by
 unfold argsOk;rw [signature?_of (n:=['_','_','r','e','t','i','_','_']) (by kernel_rfl) fo];kernel_rfl
theorem W7 {a:Type}:∀ (l:List a) (i:Nat) (h:i<l.length),(l[i] :: l.eraseIdx i).Perm l
 | [],i,h=>by cases h
 | x :: l,0,h=>.refl _
 | x :: l,i+1,h=>by
  have z:i<l.length:=Nat.lt_of_succ_lt_succ h;exact (List.Perm.swap x l[i] (l.eraseIdx i)).trans ((W7 l i z).cons x)
theorem ic (f:Nat->Nat):∀ (n k:Nat) (l:List α) (out:Array α),n=l.length->(pickOrder.go f n k l out).toList.Perm (out.toList++l)
 | 0,k,l,out,e=>by
  have:l=[]:=HN.mp e.symm;subst this;unfold pickOrder.go;simp
 | n+1,k,l,out,e=>by
  unfold pickOrder.go;have z:f k % l.length<l.length:=Nat.mod_lt _ (by omega);rw [Em z];refine (ic f n (k+1) _ _ (by rw [List.length_eraseIdx];split <;> omega)).trans ?_;rw [Array.toList_push,HV];refine List.Perm.append_left _ ?_;exact W7 l _ z
theorem lX (f:Nat->Nat) (xs:Array α):(pickOrder f xs).toList.Perm xs.toList:=by
 have:=ic f xs.size 0 xs.toList #[] (by simp);unfold pickOrder;grind
section
variable {prog:Program} {w:World} {A:Around} {E:Value->Shared->Prop} {s:Shared}
theorem AI {n:Nat} {Q:Nat->Shared->Prop} (a:n≠0) (q:∀ k d,k<n->Q k { s with drawn:=d }):wpAny (model prog w) A (choose src n) Q E s:=
 λ_ _ _=>⟨a,q _ _ (Nat.mod_lt _ (Nat.pos_of_ne_zero a))⟩
theorem cX:∀ (n:Nat) (l:List α) (s:Shared) (Q:List α->Shared->Prop),n=l.length->(∀ ys d,ys.Perm l->Q ys { s with drawn:=d })->wpAny (model prog w) A (drawOrder n l) Q E s
 | 0,l,s,Q,e,q=>by
  have:l=[]:=HN.mp e.symm;subst this;exact Ek (q [] s.drawn (.refl _))
 | n+1,[],s,Q,e,q=>by cases e
 | n+1,x :: l,s,Q,e,q=>by
  refine Ej (AI (by simp) λk d a=>?_);rw [Em a];refine Ej (cX n _ _ _ (by rw [List.length_eraseIdx,if_pos a];simp at e ⊢;omega) λys b p=>Ek ?_);exact q _ b ((p.cons _).trans (W7 (x :: l) k a))
variable {a:Addr} {o:Obj} {es:Array (Int×Value)} {t:SetTable} {ep:Nat}
theorem text_atHt (a:j7 w=true):wpAny (model prog w) A setsByText (λb z=>b=true/\s=z) E s:=Ej (Il (Ek ⟨a,rfl⟩))
theorem text_noHt (a:j7 w=false):wpAny (model prog w) A setsByText (λb z=>b=false/\s=z) E s:=Ej (Il (Ek ⟨a,rfl⟩))
theorem jZ {f i:Nat} {R:Option (Value×Nat)->Shared->Prop} (h:j7 w=true) (g:s.heap.get? a=some o) (hd:o.data=.set es ep t) (j:t.fits es.size=true)
  (q:R (((pickOrder (w.params.setOrder a ep) es)[i]?).map λe=>(e.2,f)) s):wpAny (model prog w) A (setNext a f i ep) R E s:=by
 refine Ej (GN g hd j (Ej (FI (text_atHt h) (λb z ⟨c,d⟩=>?_) λ_ _ x=>x)));subst c d;rw [if_pos rfl];rw [if_neg (by simp)];refine Ej (Ej (GN g hd j (Ej (FI (text_atHt h) (λb z ⟨c,d⟩=>?_) λ_ _ x=>x))));subst c d;rw [if_pos rfl];exact Ej (Il (Ek (Ek q)))
theorem qX {R:Option (Value×Nat)->Shared->Prop} (d:j7 w=false) (c:s.heap.get? a=some o) (hd:o.data=.set es ep t) (h:t.fits es.size=true) (k:t.led=true) (g:(!t.plain&&decide (es.size > 1))=false)
  (q:R (match es[SetTable.below t.place f]?,t.place[SetTable.below t.place f]? with | some (_,x),some j=>some (x,j+1) | _,_=>none) s):wpAny (model prog w) A (setNext a f i ep) R E s:=by
 refine Ej (GN c hd h (Ej (FI (text_noHt d) (λb z ⟨e,l⟩=>?_) λ_ _ x=>x)));subst e l;rw [if_neg Er];show wpAny _ _ (if (!t.plain&&decide (es.size > 1))=true then _ else _) _ _ _;rw [g,if_neg Er];refine Ej (?_:wpAny _ _ (if (!t.led&&!es.isEmpty)=true then _ else _) _ _ _);rw [k,if_neg (by simp)];exact Ek (Ek q)
end
section
variable {prog:Program} {w:World} {A:Around} {E:Value->Shared->Prop} {s:Shared} {K:Type} [DecidableEq K] {knd:KeyKind prog w K} {S:K->Bool} {n:Nat}
variable {a:Addr} {o:Obj} {es:Array (Int×Value)} {t:SetTable} {ep:Nat}
theorem SIt.mv {I a:Addr} {first:Value} {i n b:Nat} (x:SIt h I a first i n b) (e:∀ o,h.get? I=some o->h'.get? I=some o):SIt h' I a first i n b:=let ⟨o,c,r⟩:=x;⟨o,e o c,r⟩
theorem jS {I a:Addr} {first:Value} {i n b:Nat} {Q:Value->Shared->Prop} (x:SIt s.heap I a first i n b) (q:Q (.ref I) s):wpAny (model prog w) A (pyIter (.ref I)) Q E s:=by
 refine wpAny_pyIter_slot x.ty iZ (FS iZ x.ty oV ?_ (sO _));exact Ek ⟨_,rfl,"set_iterator",_,x.ty,si_slot.lookup,q⟩
def nN (t:SetTable):Nat->Nat
 | 0=>0
 | i+1=>t.place.getD i 0+1
theorem iB (l:A.handled=none) {I:Addr} (m:a≠I) (x:mL knd o S n es ep t) (f:Nat->Nat) (vs:List Value) (u:vs.length=n)
  (p:∀ i (B:Around) (s:Shared) (R:Option (Value×Nat)->Shared->Prop) (E:Value->Shared->Prop) v,s.heap.get? a=some o->vs[i]?=some v->R (some (v,f (i+1))) s->wpAny (model prog w) B (setNext a (f i) i ep) R E s)
  (k:∀ (B:Around) (s:Shared) (R:Option (Value×Nat)->Shared->Prop) (E:Value->Shared->Prop),s.heap.get? a=some o->R none s->wpAny (model prog w) B (setNext a (f n) n ep) R E s) :
  Walks prog w A I [I,a] [I] n (λi v=>vs[i]?=some v) (λi h=>SIt h I a (.int (f i:Nat) 0) i n ep/\h.get? a=some o) where
 sub:=λb d=>by simp at d;simp [d]
 frame:=λi h h' st g=>⟨st.1.mv λo e=>g I (by simp) o e,g a (by simp) _ st.2⟩
 item:=λi s Q E r st q=>by
  have e:vs[i]?=some vs[i]:=Em (by omega);refine iH st.1 st.2 x.2.1 x.2.2.2.2.2.1 x.2.2.2.2.2.2.1 (λB R E z=>p i B s R E _ st.2 e z) λh' y j=>q _ h' s.toks e ⟨y,?_⟩ λb ob d z=>j.extBut b ob (λc=>d (by simp [c])) z;exact j.extBut _ _ m st.2
 done:=λs Q E st q=>lV l st.1 st.2 x.2.1 x.2.2.2.2.2.1 x.2.2.2.2.2.2.1 (λB R E z=>k B s R E st.2 z) λh' y=>q h' s.toks λb ob d z=>y b ob (λc=>d (by simp [c])) z
 self:=λ_ _ _ _ st q=>jS st.1 q
theorem hG (G:A.handled=none) {I g:Addr} (F:a≠I) (B:g≠I) (x:mL knd o S n es ep t) {ot:Obj} {c:Nat} (ps:List Nat) (f:ot.data=.seq (ps.map λ(k:Nat)=>rawInt (k:Int)).toArray c) (j:ps.Perm (List.range n)) :
  Walks prog w A I [I,a,g] [I] n (λi v=>(ps.map λp=>(es.toList.map (·.2)).getD p .none)[i]?=some v) (λi h=>SIt h I a (.ref g) i n ep/\h.get? a=some o/\h.get? g=some ot) where
 sub:=λb d=>by simp at d;simp [d]
 frame:=λi h h' st l=>⟨st.1.mv λo e=>l I (by simp) o e,l a (by simp) _ st.2.1,l g (by simp) _ st.2.2⟩
 item:=λi s Q E H st q=>by
  have C:ps.length=n:=by rw [j.length_eq,Fu]
  have u:=x.2.2.2.2.2.2.1;have e:ps[i]?=some (ps[i]'(by omega)):=Em (by omega);have r:ps[i]'(by omega)<es.size:=by
   have:ps[i]'(by omega)∈List.range n:=j.mem_iff.mp (FK _);rw [u];exact Fq.mp this
  generalize ps[i]'(by omega)=p at e r;have D:=GI r;refine hU st.1 st.2.1 x.2.1 x.2.2.2.2.2.1 u st.2.2 f e D λh' y m=>q _ h' s.toks ?_ ⟨y,m.extBut _ _ F st.2.1,m.extBut _ _ B st.2.2⟩ λb ob d z=>m.extBut b ob (λc=>d (by simp [c])) z;rw [Fz,e];simp [r]
 done:=λs Q E st q=>by
  have C:ps.length=n:=by rw [j.length_eq,Fu]
  exact kg G st.1 st.2.1 x.2.1 x.2.2.2.2.2.1 x.2.2.2.2.2.2.1 st.2.2 f (FO (by omega)) λh' y=>q h' s.toks λb ob d z=>y b ob (λc=>d (by simp [c])) z
 self:=λ_ _ _ _ st q=>jS st.1 q
structure Itd (prog:Program) (w:World) (a:Addr) (es:Array (Int×Value)) (s z:Shared) (I:Addr):Prop where
 keep:∀ b ob,s.heap.get? b=some ob->z.heap.get? b=some ob
 rest:z={ s with heap:=z.heap,drawn:=z.drawn }
 new:s.heap.objs.size<=I
 walk:∃ (vs:List Value) (fp:List Addr) (St:Nat->Heap->Prop),vs.Perm (es.toList.map (·.2))/\(∀ B:Around,B.handled=none->Walks prog w B I fp [I] es.size (λi v=>vs[i]?=some v) St)/\St 0 z.heap/\∀ b∈fp,b=a\/(s.heap.objs.size<=b/\b<z.heap.objs.size)
theorem uX {Q:Value->Shared->Prop} (ho:s.heap.get? a=some o) (x:mL knd o S n es ep t) (q:∀ I z,Itd prog w a es s z I->Q (.ref I) z):wpAny (model prog w) A (pyIter (.ref a)) Q E s:=by
 have ty:s.TypeIs (.ref a) "set":=⟨o,ho,x.1.1⟩;have lt:=Ew ho;obtain ⟨x1,x2,x3,x4,x5,x6,x7,x8,x9⟩:=id x;refine wpAny_pyIter_slot ty PySem.F.slot_set_iter (FS PySem.F.slot_set_iter ty qH ?_ (PySem.F.args_set_iter_1 _));unfold Builtin.«frozenset.__iter__» Builtin.Frozenset.slot0 slotArgs;simp only [List.isEmpty_nil,Bool.not_true,GX,↓reduceIte,LawfulMonad.bind_assoc,Jv,bne_self_eq_false];unfold Builtin.Frozenset.addrOf Builtin.Frozenset.sizeOf setDrawn;refine Ej (Ek ?_);dsimp only;refine Ej (Ek ?_);refine Ej (Ej (GS ho x2 x6 (Ek ?_)));refine Ej (Ej (GN ho x2 x6 ?_));have ne:a≠s.heap.objs.size:=Ex lt;have small:es.size<4096:=x5;have int_:∀ (f:Nat->Nat) (vs:List Value),f 0=0->vs.Perm (es.toList.map (·.2)) ->
   (∀ i (B:Around) (s:Shared) (R:Option (Value×Nat)->Shared->Prop) (E:Value->Shared->Prop) v,s.heap.get? a=some o->vs[i]?=some v->R (some (v,f (i+1))) s->wpAny (model prog w) B (setNext a (f i) i ep) R E s) ->
   (∀ (B:Around) (s:Shared) (R:Option (Value×Nat)->Shared->Prop) (E:Value->Shared->Prop),s.heap.get? a=some o->R none s->wpAny (model prog w) B (setNext a (f n) n ep) R E s) ->
   wpAny (model prog w) A.in1 (setEpoch a >>= λk=>newFields "set_iterator" [rawInt 0,rawInt 0,.ref a,rawInt es.size,rawInt k] >>= λv=>ret v) (λfin z=>∃ v,fin=Fin.done (Flow.ret v)/\∃ T r,z.TypeIs v T/\typeLookup (Value.type T) (Str.ofString "__next__")=pure (some r)/\Q v z) E s:=λf vs f0 p h1 h2=>by
  have hn:vs.length=n:=by rw [p.length_eq,En,FC,x7]
  refine Ej (wpAny_setEpoch_of ho x2 x6 (Ej (Ft (Ek ⟨_,rfl,"set_iterator",_,⟨_,Eu _ rfl,rfl⟩,si_slot.lookup,q _ _ ?_⟩) (by size_fits))));refine ⟨λb ob e=>El _ e,rfl,Es _,vs,[s.heap.objs.size,a],_,p,λB hB=>x7▸iB hB ne x f vs hn h1 h2,⟨⟨_,Eu _ rfl,rfl,?_⟩,El _ ho⟩,λb hb=>?_⟩
  ·rcases Ez.mp hb with rfl | hb
   ·exact .inr ⟨Es _,by show _<(Heap.push _ _).objs.size;rw [FT];exact FB _⟩
   ·exact .inl (Fy.mp hb)
  ·rw [f0];rfl
 cases hb:j7 w with
 | true=>
  refine Ej (FI (text_atHt hb) (λb z ⟨e1,e2⟩=>?_) λ_ _ y=>y);subst e1 e2;refine Ek ?_;have p:=lX (w.params.setOrder a ep) es;refine int_ (λ_=>0) ((pickOrder (w.params.setOrder a ep) es).toList.map (·.2)) rfl (p.map _) (λi B s R E v ho hv r=>jZ hb ho x2 x6 ?_) λB s R E ho r=>jZ hb ho x2 x6 ?_
  ·rw [Fz,Gq,GW] at hv;obtain ⟨e,h1,h2⟩:=hv;rw [h1];show R (some (e.2,0)) s;rw [h2];exact r
  ·have:(pickOrder (w.params.setOrder a ep) es)[n]?=none:=by
    have:=p.length_eq;rw [FC,FC,x7] at this;exact Ic (by omega)
   rw [this];exact r
 | false=>
  refine Ej (FI (text_noHt hb) (λb z ⟨e1,e2⟩=>?_) λ_ _ y=>y);subst e1 e2;refine Ek ?_;cases hd:(!t.plain&&decide (es.size > 1)) with
  | false=>
   show wpAny _ _ (if (!false&&(!t.plain&&decide (es.size > 1)))=true then _ else _) _ _ _;rw [hd,if_neg (by simp)];have led:t.led=true:=by rw [x9,hb];rfl
   have fit:t.place.size=es.size:=by
    have:=x6;unfold SetTable.fits at this;simp only [Ep,Ih] at this;exact this.1
   have up:Rise t.place:=by
    cases pl:t.plain with
    | true=>exact x8.up pl
    | false=>
     rw [pl] at hd;have z:t.place.size<=1:=by simp at hd;omega
     unfold Rise;have:t.place.toList.length<=1:=by simpa using z
     match t.place.toList,this with
     | [],_=>exact .nil
     | [y],_=>exact .cons (λ_ h=>by cases h) .nil
   have go:∀ i,i<=n->SetTable.below t.place (nN t i)=i:=λi hi=>by
    cases i with
    | zero=>exact gr up
    | succ i=>
     have z:i<t.place.size:=by omega
     show SetTable.below t.place (t.place.getD i 0+1)=i+1;rw [show t.place.getD i 0=t.place[i] by simp [Array.getD,z]];exact hI up z
   refine int_ (nN t) (es.toList.map (·.2)) rfl (.refl _) (λi B s R E v ho hv r=>qX hb ho x2 x6 led hd ?_) λB s R E ho r=>qX hb ho x2 x6 led hd ?_
   ·rw [Fz,Gq,GW] at hv;obtain ⟨e,h1,h2⟩:=hv;have z:i<es.size:=by
     rcases Nat.lt_or_ge i es.size with u | u
     ·exact u
     ·rw [Ic u] at h1;cases h1
    have z2:i<t.place.size:=by omega
    rw [go i (by omega),h1,GI z2];obtain ⟨e1,e2⟩:=e;dsimp only at h2 ⊢;subst h2;have:nN t (i+1)=t.place[i]+1:=by show t.place.getD i 0+1=_;simp [Array.getD,z2]
    rw [this] at r;exact r
   ·rw [go n (Es _),Ic (by omega)];exact r
  | true=>
   show wpAny _ _ (if (!false&&(!t.plain&&decide (es.size > 1)))=true then _ else _) _ _ _;rw [hd,if_pos (by simp)];refine Ej (cX _ _ _ _ (by simp) λps d p=>?_);have pl:ps.length=es.size:=by rw [p.length_eq,Fu]
   refine Ej (wpAny_newTuple (Ej (wpAny_setEpoch_of (El _ ho) x2 x6 (Ej (Ft (Ek ⟨_,rfl,"set_iterator",_,⟨_,Eu _ rfl,rfl⟩,si_slot.lookup,q _ _ ?_⟩) (by size_fits))))) (by rw [En,pl,Fp];omega));have ez:(s.heap.push { cls:=.type "tuple",data:=.seq (ps.map λ(k:Nat)=>rawInt (k:Int)).toArray }).objs.size=s.heap.objs.size+1:=FT _ _;refine ⟨λb ob e=>El _ (El _ e),rfl,?g1,ps.map λp=>(es.toList.map (·.2)).getD p .none,[(s.heap.push { cls:=.type "tuple",data:=.seq (ps.map λ(k:Nat)=>rawInt (k:Int)).toArray }).objs.size,a,s.heap.objs.size],_,?g2,λB hB=>x7▸hG hB ?g3 ?g4 x (ot:={ cls:=.type "tuple",data:=.seq (ps.map λ(k:Nat)=>rawInt (k:Int)).toArray }) ps rfl (x7▸p),⟨⟨_,Eu _ rfl,rfl,?g5⟩,?g6,?g7⟩,λb hb=>?g8⟩
   case g1=>
    rw [ez];exact Gb _
   case g2=>
    refine (p.map _).trans ?_;have:(List.range es.size).map (λp=>(es.toList.map (·.2)).getD p .none)=es.toList.map (·.2):=by
     refine Ik (by simp) λi h1 h2=>?_;simp at h1 h2;simp [h1]
    rw [this]
   case g3=>
    rw [ez];exact Ex (FH lt)
   case g4=>
    rw [ez];exact Ex (FB _)
   case g5=>
    rfl
   case g6=>
    exact El _ (El _ ho)
   case g7=>
    exact El _ (Eu _ rfl)
   case g8=>
    have e2:((s.heap.push { cls:=.type "tuple",data:=.seq (ps.map λ(k:Nat)=>rawInt (k:Int)).toArray }).push { cls:=.type "set_iterator",data:=.fields [Value.ref s.heap.objs.size,rawInt 0,Value.ref a,rawInt ↑es.size,rawInt ↑ep].toArray }).objs.size=s.heap.objs.size+1+1:=(FT _ _).trans (congrArg (· + 1) ez);rcases Ez.mp hb with rfl | hb
    ·exact .inr ⟨by rw [ez];exact Gb _,by show _<(Heap.push _ _).objs.size;rw [e2,ez];exact FB _⟩
    ·rcases Ez.mp hb with rfl | hb
     ·exact .inl rfl
     ·rw [Fy.mp hb];exact .inr ⟨Es _,by show _<(Heap.push _ _).objs.size;rw [e2];exact FH (FB _)⟩
end
section
variable {prog:Program} {w:World} {A:Around} {E:Value->Shared->Prop} {s:Shared} {K:Type} [DecidableEq K] {knd:KeyKind prog w K} {S:K->Bool} {n:Nat}
variable {a:Addr} {o:Obj} {es:Array (Int×Value)} {t:SetTable} {ep:Nat}
theorem iK (Z:A.handled=none) (H:s.heap.get? a=some o) (x:mL knd o S n es ep t)
  (q:∀ z vs,(∀ b ob,s.heap.get? b=some ob->z.heap.get? b=some ob)->z={ s with heap:=z.heap,drawn:=z.drawn,toks:=z.toks }->vs.Perm (es.toList.map (·.2))->s.heap.objs.size<z.heap.objs.size->Q vs z):wpAny (model prog w) A (collect (.ref a)) Q E s:=by
 have U:=Ew H;have G:es.size<4096:=x.2.2.2.2.1;refine Ej (IS (Gp PySem.F.entry_proto_collect ?_));rw [GO PySem.F.plain_proto_collect _];refine Ej (Ft (Ek ⟨Ji Jr _,Gp PySem.F.entry_list_iadd ?_⟩));rw [GO Jr _];have k:=El ({ cls:=.type "list",data:=.seq ([]:List Value).toArray }:Obj) H;have N:Shared.TypeIs { s with heap:=s.heap.push { cls:=.type "list",data:=.seq ([]:List Value).toArray } } (.ref a) "set":=⟨o,k,x.1.1⟩;have R:(s.heap.push { cls:=.type "list",data:=.seq ([]:List Value).toArray }).get? s.heap.objs.size=some { cls:=.type "list",data:=.seq ([]:List Value).toArray }:=Eu _ rfl;have hz:(s.heap.push { cls:=.type "list",data:=.seq ([]:List Value).toArray }).objs.size=s.heap.objs.size+1:=FT _ _;show wpAny _ A.in1 (Builtin.List.listExtendWith (.ref s.heap.objs.size) (.ref a) (.ref s.heap.objs.size)) _ _ _;have T:Builtin.List.listSameRef (.ref s.heap.objs.size) (.ref a)=false:=by
  have:=HR U;simp [Builtin.List.listSameRef,this]
 refine Ej (Hr N ?_);rw [if_neg (by rw [T];decide)];refine Ej (uX k x λI z d=>Ej (FU ?_));have j:z.TypeIs (.ref a) "set":=⟨o,d.keep _ _ k,x.1.1⟩;refine Ej (wpAny_specialOf j PySem.F.slot_set_len.lookup ?_)
 wp_delta
 refine Ej (Jq (b:=true) j (by rw [JB];kernel_rfl) ?_);refine Ej (Hr j (Ek ?_));rw [if_pos (by decide)];refine Ej (Ij ?_);obtain ⟨vs,X,St,p,W,st,V⟩:=d.walk;have D:=d.keep _ _ R;refine Ej ?_;refine Ej (wpAny_updateSeq D rfl ?_);have C:=FE (Obj.mapSeq (·.push Value.none)) D rfl;refine wpAny_updateSeq C rfl ?_;have F:=FE (Obj.mapSeq (·.pop)) C rfl;have L:s.heap.objs.size∉X:=λhm=>by
  rcases V _ hm with u | u
  ·grind
  ·grind
 have B:∀ b ob,b≠s.heap.objs.size->z.heap.get? b=some ob->((z.heap.update s.heap.objs.size (Obj.mapSeq (·.push Value.none))).update s.heap.objs.size (Obj.mapSeq (·.pop))).get? b=some ob:=
  λb ob l e=>(Gj _ _ (Ne.symm l)).trans ((Gj _ _ (Ne.symm l)).trans e)
 have J:=W A.in1 Z;refine Ek ⟨Ji PySem.F.plain_extend_loop _,codeAny_extend_loopS J.toS (by rw [Fp];omega) _ L _ es.size 0 _ _ _ rfl (FJ _) (J.frame 0 _ _ st λb l ob e=>B b ob (λh=>L (h▸l)) e) F (ItemsOf.nil _) λy f c m v g=>?_⟩;refine Ej (JH v (Ek (q y f.toList (λb ob e=>?_) ?_ ?_ (Ew v))))
 ·have K:=Ew e;refine m.heap b ob (λl=>?_) (B b ob (Ex K) (d.keep b ob (El _ e)));rcases Ez.mp l with h | h
  ·grind
  ·have:=d.new;rw [<- Fy.mp h,hz] at this;exact absurd (Fn K (Nat.le_of_succ_le this)) (Hg _)
 ·have P:=m.gens;have Y:=m.os;have r:=d.rest;have r1:z.gens=s.gens:=by rw [r]
  have r2:z.os=s.os:=by rw [r]
  obtain ⟨yh,yg,yd,yt,yo⟩:=y;subst P Y;rw [r1,r2]
 ·have:f.toList=vs:=by
   have ln:vs.length=es.size:=by rw [p.length_eq,En,FC]
   refine Ik (by rw [FC,g.1,ln]) λi O M=>?_;have:vs[i]?=some f.toList[i]:=g.2 i f.toList[i] (by rw [<- Gq];exact Em O);rw [Em M,Option.some.injEq] at this;exact this.symm
  rw [this];exact p
end
section
variable {prog:Program} {w:World} {A:Around} {E:Value->Shared->Prop} {s:Shared} {S:Int->Bool} {n:Nat} {a:Addr}
theorem dU (h:ElemsOf (intKind prog w) l):∃ a,IntsAre (l.map (·.2)) a/\∀ k,k∈a↔∃ e∈l,(intKind prog w).is k e.2=true:=by
 induction l with
 | nil=>exact ⟨[],.nil,λk=>by simp⟩
 | cons e l d=>
  obtain ⟨a,g,c⟩:=d h.tail;obtain ⟨⟨k,b,_⟩,_⟩:=h.head;obtain ⟨t,f⟩:=Value.isInt_shape b;refine ⟨k :: a,?_,λj=>?_⟩
  ·rw [Fs,f];exact .cons k t g
  ·rw [Ez,c];have:(intKind prog w).is j e.2=true↔j=k:=by
    rw [KeyKind.is_eq_decide b j,Fh]
   constructor
   ·grind
   ·grind
theorem lO:∀ {us vs:List Value} {ks:List Int},us.Perm vs->IntsAre vs ks->∃ js,IntsAre us js/\js.Perm ks:=λ{us vs ks} p=>by
 induction p generalizing ks with
 | nil=>grind
 | cons x _ ih=>
  intro h;cases h with
  | cons n t h=>
   obtain ⟨js,a,b⟩:=ih h;exact ⟨n :: js,.cons n t a,b.cons n⟩
 | swap x y l=>
  intro h;cases h with
  | cons n t h=>
   cases h with
   | cons m u h=>exact ⟨_,.cons m u (.cons n t h),.swap _ _ _⟩
 | trans _ _ i1 i2=>
  intro h;obtain ⟨js,a,b⟩:=i2 h;obtain ⟨ms,c,d⟩:=i1 a;exact ⟨ms,c,d.trans b⟩
theorem perm_sub:∀ {l m:List Int},l.Nodup->(∀ x∈l,x∈m)->l.length=m.length->l.Perm m
 | [],m,_,_,e=>by
  have:m=[]:=HN.mp e.symm;subst this;exact .refl _
 | x :: l,m,a,b,e=>by
  have d:=b x Fe;rw [GK] at a;have f:=perm_sub a.2 (λy c=>(Ir (λh:y=x=>a.1 (h▸c))).mpr (b y (Fg _ c))) (by
   rw [HF d];simp at e;omega)
  exact (f.cons x).trans (List.perm_cons_erase d).symm
theorem sortLHt (v:A.handled=none) (F:SetL (intKind prog w) s.heap a (O5 ns) ns.length) (r:ns.Nodup) (D:ns.length<64)
  (q:∀ (z:Shared) (p:Addr) (out:Array Value) (ms:List Int) (c:Nat),(∀ b ob,s.heap.get? b=some ob->z.heap.get? b=some ob)->z={ s with heap:=z.heap,drawn:=z.drawn,toks:=z.toks }->s.heap.objs.size<=p->z.heap.get? p=some (seqObj "list" out c)->IntsAre out.toList ms->ms.Perm ns->ms.Pairwise (·<=·)->Q (.ref p) z) :
  wpAny (model prog w) A (call (.builtin "sorted") [.ref a]) Q E s:=by
 obtain ⟨o,es,J,t,l,x⟩:=F;obtain ⟨u,i,k2⟩:=dU x.2.2.1;have j:u.length=ns.length:=by
  rw [<- IntsAre.length i,En,FC];exact x.2.2.2.2.2.2.1
 have m:=perm_sub r (λy C=>(k2 y).mpr ((x.2.2.2.1 y).mp (by simpa [O5] using C))) j.symm;refine IV Jh IW IY (IZ _) ?_;refine Ej (Ek (Ej (iK (by simp [v]) l x λz vs f rs p I=>Ej (JG ?_ (by rw [p.length_eq,En,FC,Fp];have z:es.size<4096:=x.2.2.2.2.1;omega)))));obtain ⟨js,k,g⟩:=lO p i;have K:vs.length=ns.length:=by rw [IntsAre.length k,g.length_eq,j]
 have d:(z.heap.push (seqObj "list" vs.toArray 0)).get? z.heap.objs.size=some (seqObj "list" vs.toArray 0):=Eu _ rfl;refine Ej (FU (FS IF ⟨_,d,rfl⟩ Iw (IG d k (by omega) λout ms H n G=>⟨_,rfl,Ek ⟨_,rfl,?_⟩⟩) (IH _)));obtain ⟨c,B⟩:=sortedHeap_at d;refine q _ _ out ms c (λb ob e=>?_) ?_ (HQ I) B H (n.trans (g.trans m.symm)) G
 ·have h:=Ew (f b ob e);rw [sortedHeap_old (Ex h) (by rw [Jo];exact FH h)];exact El _ (f b ob e)
 ·grind
end
end HT
namespace L2
open PySem PySem.Spec PyProof.Rows
theorem cW:∀ {cs:List Addr} {us:List Value},Vals (cs.map V.ref) us->us=cs.map Value.ref
 | [],_,h=>by cases h;rfl
 | c :: cs,_,h=>by
  cases h with
  | cons r t=>
   have e:=cW t;subst e;cases (r);rfl
theorem ao:i9 X (.builtin "isinstance") (λxs H Q=>∃ f x C d a,∃ (cs:List Addr) (b:Bool),xs=[.ref x,.ref a]/\XC X.K C/\H x=some (O0 f x C d)/\(∀ d',d=some d'->∃ fs,H d'=some (J1 d' fs))/\H a=some (.tup (cs.map V.ref))/\PySem.W.kitAny X.K (.ref C) (cs.map Value.ref)=some b/\Q (.bl b) H):=by
 intro pins s σ H xs us Q I r h;obtain ⟨f,x,C,d,a,cs,b,rfl,M,g,hd,v,j,q⟩:=h;obtain ⟨u,F,rfl,D,c⟩:=jt r;cases (D);cases (c);have J:∃ ox od,PySem.W.InstAt s.heap x ox C od:=by
  cases d with
  | none=>obtain ⟨ox,J⟩:=(I.isX g).inst0;exact ⟨ox,_,J⟩
  | some d'=>
   obtain ⟨fs,k⟩:=hd d' rfl;obtain ⟨mA,i,_⟩:=I.isD k;obtain ⟨od,e,_⟩:=N2 i;obtain ⟨ox,J⟩:=(I.isX g).inst1 e;exact ⟨ox,_,J⟩
 obtain ⟨_,p,A,o,t,y,n,hs,l⟩:=I.hok a _ v;have B:=cW A;subst B;obtain ⟨E,od,m,w⟩:=o;cases (y);cases (hs);exact PySem.W.kia_tup (BU M.xc) I.kIn J t j (λz=>nomatch z) λG=>⟨.bl b,H,I.tok _,rfl,q⟩
end L2
namespace L3
open PySem PySem.Spec PyProof.Rows L2
inductive NamesC (X:Cx) (cl:Nat->Addr):List Expr->List Nat->Prop where
 | nil:NamesC X cl [] []
 | cons {x:Str} {p:Pos} {c:Nat} {es:List Expr} {cs:List Nat}:Gl X x->X.mg x=some (.ref (cl c))->(x==("__debug__" : Str))=false->NamesC X cl es cs->NamesC X cl (.Name x p :: es) (c :: cs)
section
variable {X:Cx} {cl:Nat->Addr} {xe:Addr->Hp->Prop} {a:Expr} {f:Env->M D} {pos p q:Pos}
theorem qQ {es:List Expr} {cs:List Nat} (h:NamesC X cl es cs):PA X es λ_ H Q=>Q (cs.map λc=>V.ref (cl c)) H:=by
 induction h with
 | nil=>exact B0
 | @cons x p c es cs h1 h2 h3 _ ih=>exact i5 (te:=tC (.ref (cl c))) (t:=λ_ H Q=>Q (cs.map λc=>V.ref (cl c)) H) (dW h1 h2 rfl h3) ih rfl
theorem jn {K:PySem.W.Frag} {t:Value} {g:Nat->Value} {s:Nat->Bool}:∀ {cs:List Nat},(∀ c∈cs,PySem.W.kitOne K t (g c)=some (s c))->PySem.W.kitAny K t (cs.map g)=some (cs.any s)
 | [],_=>rfl
 | c :: cs,h=>by
  have a:=h c (by simp);show (match PySem.W.kitOne K t (g c) with
   | some true=>some true
   | some false=>PySem.W.kitAny K t (cs.map g)
   | none=>none)=_
  rw [a,GC];cases s c with
  | true=>rfl
  | false=>exact jn λc b=>h c (by simp [b])
theorem lm {cs:List Nat} {k:Nat} {sub:Nat->Nat->Bool} (hk:∀ c0∈cs,∀ c,XC X.K (cl c)->PySem.W.kitOne X.K (.ref (cl c)) (.ref (cl c0))=some (sub c c0)) (hl:cs.length<=1000) (h:PE X a (tD X.K cl xe f)) (hg:Gl X "isinstance") (hm:X.mg "isinstance" = none) (hn:NamesC X cl ys cs) (hs:noStar a=true) :
  PE X (.Call (.Name "isinstance" p) [a,.Tuple ys k q] [] pos) (tD X.K cl xe λρ=>bind (f ρ) λd=>w6 (λc=>cs.any λc0=>sub c c0) d):=by
 have key:i9 X (.builtin "isinstance") (λvs H Q=>∃ μ S d v tp,vs=[v,.ref tp]/\H tp=some (.tup (cs.map λc=>V.ref (cl c)))/\RD X.K μ H d v/\Rep X.K cl μ S H/\Post X.K cl xe μ H (w6 (λc=>cs.any λc0=>sub c c0) d S) λr _ μ' H'=>∀ v,RD X.K μ' H' r v->Q v H'):=by
  intro pins s σ H xs us Q I r ⟨μ,S,d,v,tp,ev,et,rd,rp,P⟩;subst ev;unfold w6 at P;cases rd with
  | ref h=>
   rename_i n b;simp only at P;cases q1:S[n]? with
   | none=>rw [q1] at P;exact P.elim
   | some o=>
    rw [q1] at P;cases o with
    | exc c fs=>
     have q:=P μ H (Lat.refl _ _) rp _ (.bl _);obtain ⟨xc,gs,r2,fr,h2⟩:=rp.ats n _ b q1 h;have kk:=jn λc0 hc=>hk c0 hc c xc;have et':H tp=some (.tup ((cs.map cl).map V.ref)):=by rw [GA];exact et
     have kk':PySem.W.kitAny X.K (.ref (cl c)) ((cs.map cl).map Value.ref)=some (cs.any λc0=>sub c c0):=by rw [GA];exact kk
     rcases h2 with ⟨z,e2⟩ | ⟨d,n1,n2,e2,e3⟩
     ·exact ao pins s σ H _ us Q I r ⟨fr,b,cl c,none,tp,cs.map cl,_,rfl,xc,e2,λ_ z=>(nomatch z),et',kk',q⟩
     ·exact ao pins s σ H _ us Q I r ⟨fr,b,cl c,some d,tp,cs.map cl,_,rfl,xc,e2,λd' z=>by cases z;exact ⟨gs,e3⟩,et',kk',q⟩
    | lst _=>exact P.elim
    | dct _=>exact P.elim
  | _=>exact False.elim P
 refine PE.imp (R8 key hg hm (by rfl) (i5 h (i5 (ny (qQ hn)) B0 (c7 rfl)) (c7 hs)) (by decide) (by decide) (c7 hs) (j1 rfl)) λσ H Q ⟨μ,S,ρ,eo,rp,P⟩=>?_;refine ⟨μ,S,ρ,eo,rp,P.bind.imp λd S1 μ1 H1 l1 r1 p1 v rv=>⟨by rw [En];rw [Fp];omega,λz hz=>?_⟩⟩;have l:=Lat.laid (μ:=μ1) (o:=.tup (cs.map λc=>V.ref (cl c))) hz;exact ⟨μ1,S1,d,v,z,rfl,b6,rv.later l,r1.laid hz,p1.later l⟩
end
section
variable {X:Cx} {cl:Nat->Addr} {xe:Addr->Hp->Prop}
theorem lA:Looks X.K cl xe "tuple" tupOf:=λμ S H x v G rx rp p=>by
 cases rx with
 | tup h0 r0=>
  refine ⟨?_,_,rfl⟩;rcases h0 with ⟨q,_,_⟩ | ⟨o,its,n,c1,c2,c3,c4,c5,c6⟩
  ·exact .inr (.inr (.inr (.inr ⟨rfl,_,q⟩)))
  ·exact .inr (.inl ⟨rfl,o,c1,c2,c6⟩)
 | _=>exact False.elim p
end
def CXr (P:Program) (w:World) (K:PySem.W.Frag):List PySem.Env->Hp->Shared->XK->Value->Shared->Prop:=λb H s E e s'=>
 ∃ a C d c H',e=.ref a/\s'.os=s.os/\AllBare s'.gens/\Un (frs b) [] H H' s.heap s'.heap/\HOk P w H' s'.heap/\Fx K H' a C d c/\E e none H'
abbrev CXd (P:Program) (w:World) (K:PySem.W.Frag):CXT:=⟨CXr P w K,false⟩
section
variable {K:PySem.W.Frag} {cl:Nat->Addr} {xe xe':Addr->Hp->Prop} {α β:Type} {μ:Mp} {H H':Hp} {S:Sto} {a C:Addr} {d tb:Option Addr} {P:Program} {w:World} {h:Heap}
theorem Post.ximp {G:α->Sto->Mp->Hp->Prop} (p:Post K cl xe μ H r G) (k:∀ n S μ' H' a,r=.exn n S->Lat μ H μ' H'->Rep K cl μ' S H'->μ'.pl[n]?=some a->xe a H'->xe' a H'):Post K cl xe' μ H r G:=by
 cases r with
 | ok a S=>exact p
 | exn n S=>exact λμ' H' a l r e=>k n S μ' H' a rfl l r e (p μ' H' a l r e)
 | bad=>exact p
def nx (m:M α):M α:=λS=>match m S with
 | .exn _ _=>.bad
 | r=>r
theorem Post.nx {G:α->Sto->Mp->Hp->Prop} (p:Post K cl xe μ H (nx m S) G):Post K cl xe' μ H (m S) G:=by
 unfold L3.nx at p;cases e:m S with
 | ok a S1=>rw [e] at p;exact p
 | exn n S1=>rw [e] at p;exact p.elim
 | bad=>rw [e] at p;exact p
theorem oP (f:HOk P w H h) (o:OAt K cl μ H a (.exc c fs)) (e:H a=some (O0 tb a C d)) (j:∀ T,tb=some T->T≠a/\H T=some (TbO T)):C=cl c/\Fx K H a C d tb:=by
 obtain ⟨k,gs,q,p,o⟩:=o;obtain ⟨vs,l,_⟩:=(f a _ e).1;rcases o with ⟨z,g⟩ | ⟨d',n,r,g,m⟩
 ·obtain ⟨i,b,_⟩:=(f a _ g).1;rw [l] at b;cases b;exact ⟨rfl,k,e,λd' z=>(nomatch z),j⟩
 ·obtain ⟨i,b,_⟩:=(f a _ g).1;rw [l] at b;cases b;exact ⟨rfl,k,e,λs z=>by cases z;exact ⟨n,gs,m⟩,j⟩
theorem Rep.mv {n:Nat} (r:Rep K cl μ S H) (hk:HOk P w H h) (e:μ.pl[n]?=some a) (fx:H a=some (O0 tb a C d)) (m:Mv H a C d H'):Lat μ H μ H'/\Rep K cl μ S H':=by
 have am:=Fk e;have l:Lat μ H μ H':=⟨λ_ _ h=>h,λb o q nb=>m.1 b o (λz=>nb (z▸am)) q,λ_ h=>.inl h,rfl⟩;refine ⟨l,r.len,r.nd,λi o b e1 e2=>?_,λb mb=>let ⟨h1,u,h2⟩:=r.res b mb;⟨h1,u,l.oth _ _ h2 h1⟩⟩;have ho:=r.ats i o b e1 e2;by_cases hb:b=a
 ·subst hb;cases o with
  | lst ds=>obtain ⟨xs,q,_⟩:=ho;rw [fx] at q;simp [O0] at q
  | dct kvs=>obtain ⟨xs,q,_⟩:=ho;rw [fx] at q;simp [O0] at q
  | exc c fs=>
   obtain ⟨xc,gs,q,fr,o⟩:=ho;obtain ⟨tb',m2⟩:=m.2;obtain ⟨vs,q1,_⟩:=(hk b _ fx).1;rcases o with ⟨z,e2⟩ | ⟨d',h1,h2,e2,e3⟩
   ·obtain ⟨vs2,q2,_⟩:=(hk b _ e2).1;rw [q1] at q2;cases q2;exact ⟨xc,gs,Paired.mono (λ_ _ ⟨z,w⟩=>⟨z,w.later l⟩) q,tb',.inl ⟨z,m2⟩⟩
   ·obtain ⟨vs2,q2,_⟩:=(hk b _ e2).1;rw [q1] at q2;cases q2;exact ⟨xc,gs,Paired.mono (λ_ _ ⟨z,w⟩=>⟨z,w.later l⟩) q,tb',.inr ⟨d',h1,h2,m2,m.1 d' _ h1 e3⟩⟩
 ·obtain ⟨u,q⟩:=ho.some;exact ho.later l (by rw [q];exact m.1 b u hb q)
end
def xOf (X:Cx) (a:Addr) (H:Hp):Prop:=∀ (pins:List (Addr×Obj)) (σ:L2.St) (s:Shared) (C:Addr) (d b:Option Addr),L2.Inv X pins σ H s->Fx X.K H a C d b->X.xe (.ref a) s
def wn (X:Cx) (pins:List (Addr×Obj)) (σ:L2.St) (F:Addr->Hp->Prop) (c:Value) (s:Shared):Prop:=∃ a H C d b,c=.ref a/\L2.Inv X pins σ H s/\Fx X.K H a C d b/\F a H
def PX (X:Cx) (cl:Nat->Addr) (e:Expr) (f:Env->M D):Prop:=∀ (pins:List (Addr×Obj)) (s:Shared) (σ:L2.St) (H:Hp) (Q:VK) (F:Addr->Hp->Prop),L2.Inv X pins σ H s->tD X.K cl F f σ H Q ->
 wpAny (model X.prog X.w) X.A (eval e X.env) (EP X pins σ Q) (wn X pins σ F) s
def spX (K:PySem.W.Frag) (cl:Nat->Addr) (n:Nat) (a:List D->M D):Sp:=λvs H Q E=>vs.length=n/\∃ μ S ds,RDs K μ H ds vs/\Rep K cl μ S H/\Post K cl (gX E) μ H (a ds S) λd _ μ' H'=>∀ v,RD K μ' H' d v->Q v H'
section
variable {X:Cx} {cl:Nat->Addr} {e:Expr} {es:List Expr} {f:Env->M D} {pos p:Pos}
theorem PX.of (h:PE X.nox e (tD X.K cl x0 f)):PX X cl e λρ=>nx (f ρ):=λpins s σ H Q F I ⟨μ,S,ρ,a,b,p⟩=>
 FI (h pins s σ H Q (I.wish _) ⟨μ,S,ρ,a,b,p.nx⟩) (λ_ _ ⟨v,H',c,r,q⟩=>⟨v,H',c.unwish,r,q⟩) λ_ _ z=>False.elim z
theorem tZ {k n:Nat} {a:Addr} {fd:FuncData} {ps:List Str} {x:Str} {fs:Env->M (List D)} {run:List D->M D} (hn:ps.length=n) (F:FnOk X.prog X.w X.K X.mg X.base (CXd X.prog X.w X.K) k a fd ps (spX X.K cl n run)) (hr:Room false k X.A) (hg:Gl X x) (hm:X.mg x=some (.ref a)) (hk:PySem.W.keepIn X.K (.ref a)=true) (hb:Binds X.K fd ps [])
  (ha:PA X.nox (e :: es) (tDs X.K cl x0 fs)) (hdb:(x==("__debug__" : Str))=false) (hs:(e :: es).all noStar=true) :
  PX X cl (.Call (.Name x p) (e :: es) [] pos) λρ=>bind (nx (fs ρ)) λds=>if ds.length=n then run ds else bad:=by
 rw [FV,Ep] at hs;intro pins s σ H Q F0 I ⟨μ,S,ρ,eo,rp,p⟩;refine FY (G7 I hg hm ?_ hdb);refine HH I.ok.mod.kin hk (FI (ha pos pins s σ H (λvs H1=>∃ μ1 S1 ds,RDs X.K μ1 H1 ds vs/\Rep X.K cl μ1 S1 H1/\Post X.K cl F0 μ1 H1 ((if ds.length=n then run ds else bad) S1) λd _ μ' H'=>∀ v,RD X.K μ' H' d v->Q v H') (I.wish _) ⟨μ,S,ρ,eo,rp,p.bind.nx.imp λds S1 μ1 H1 l1 r1 p1 vs rvs=>⟨μ1,S1,ds,rvs,r1,p1⟩⟩)
  (λus s1 ⟨vs,H1,I1,r,μ1,S1,ds,rvs,r1,p1⟩=>⟨I1.unwish.kIn,?_⟩) λ_ _ z=>False.elim z) (c7 hs.1) (j1 hs.2)
 have I1:=I1.unwish;by_cases hd:ds.length=n
 ·rw [if_pos hd] at p1;have hl:us.length=ps.length:=by rw [<- r.length,<- rvs.length,hd,hn]
  have hb2:=hb s1 us I1.kIn (by rw [FM];exact hl);rw [FM] at hb2;refine GV (Gi (F.run X.A X.stack s1 H1 ⟨us,[]⟩ us vs Q (λev _ H=>∀ a,ev=.ref a->F0 a H) hr I1.env0 hb2 r ⟨by rw [<- rvs.length];exact hd,μ1,S1,ds,rvs,r1,p1.ximp λ_ _ _ _ a _ _ _ _ h a' z=>by cases z;exact h⟩) λres s' hq=>?_);cases res with
  | error ev=>
   obtain ⟨a',C,d,tb,H',he,os,bare,un,hok,fx,q⟩:=hq;exact ⟨a',H',C,d,tb,he,I1.call' os un hok bare (λb z=>absurd z (by simp)),fx,q a' he⟩
  | ok fl=>
   cases fl with
   | ret u=>exact I1.after hq
   | next=>exact False.elim hq
   | brk=>exact False.elim hq
   | cont=>exact False.elim hq
 ·rw [if_neg hd] at p1;exact p1.elim
def D4 (d:D):M Fl:=match d with
 | .ref n=>λS=>match S[n]? with
  | some (.exc _ _)=>.exn n S
  | _=>.bad
 | _=>bad
theorem nF (hc:X.calm=true) (h:PE X e (tDf X.K cl (xOf X) f)):PS X (.Raise (some e) none pos) (sD X.K cl (xOf X) λρ=>bind (f ρ) D4):=by
 intro pins s σ H D I ⟨μ,S,ρ,eo,rp,p⟩;refine Ej (HB (dw (K:=X.K) (I.ok.hd hc) (Ej (FI (h pins s σ H (λv H1=>∃ (x C:Addr) (d:Option Addr) (μ1:Mp) (S1:Sto) (n c:Nat) (fs:List (Str×L3.D)),v=.ref x/\XC X.K C/\H1 x=some (P7 x C d)/\Rep X.K cl μ1 S1 H1/\S1[n]?=some (O.exc c fs)/\μ1.pl[n]?=some x/\xOf X x H1) I ⟨μ,S,ρ,eo,rp,p.bind.imp λd S1 μ1 H1 l1 r1 p1 v rv fr=>?_⟩)
  (λu s1 ⟨v,H1,I1,ru,x,C,d,μ1,S1,n,c,fs,ev,xc,ex,r1,e1,e2,xo⟩=>Ej (HB (Ek ?_))) λ_ _ z=>z))))
 ·cases rv with
  | ref hp=>
   rename_i n a;obtain ⟨x,C,d,ev,xc,ex⟩:=fr;cases ev;simp only [D4] at p1;cases q:S1[n]? with
   | none=>rw [q] at p1;exact p1.elim
   | some o=>
    rw [q] at p1;cases o with
    | exc c fs=>exact ⟨_,C,d,μ1,S1,n,c,fs,rfl,xc,ex,r1,q,hp,p1 μ1 H1 _ (Lat.refl _ _) r1 hp⟩
    | lst _=>exact p1.elim
    | dct _=>exact p1.elim
  | _=>exact False.elim p1
 ·subst ev;obtain rfl:u=Value.ref x:=ru;have fx:=(oP I1.hok (r1.ats n _ x e1 e2) ex λT z=>(nomatch z)).2;exact ⟨x,C,d,rfl,I1.kIn,xc,I1.isX ex,xo pins σ s1 C d none I1 fx⟩
end
section
variable {K:PySem.W.Frag} {cl:Nat->Addr} {xe xe':Addr->Hp->Prop} {α:Type} {μ:Mp} {H:Hp}
theorem Post.up {G:α->Sto->Mp->Hp->Prop} (p:Post K cl xe μ H r G) (k:∀ a H',xe a H'->xe' a H'):Post K cl xe' μ H r G:=p.ximp λ_ _ _ H' a _ _ _ _ h=>k a H' h
theorem Post.x0 {G:α->Sto->Mp->Hp->Prop} (p:Post K cl (gX E0) μ H r G):Post K cl xe μ H r G:=p.up λ_ _ z=>False.elim z
end
abbrev x0:Addr->Hp->Prop:=gX E0
section
variable {X:Cx} {cl:Nat->Addr} {xe:Addr->Hp->Prop} {e tg:Expr} {es:List Expr}
theorem PE.x0 (h:PE X e (tD X.K cl xe f)):PE X e (tD X.K cl x0 f):=PE.imp h λσ H Q ⟨μ,S,ρ,a,b,p⟩=>⟨μ,S,ρ,a,b,p.x0⟩
theorem PTL.x0 (h:PTL X es (tBo X.K cl xe f)):PTL X es (tBo X.K cl x0 f):=λpins s σ H Q I ⟨μ,S,ρ,a,b,p⟩=>h pins s σ H Q I ⟨μ,S,ρ,a,b,p.x0⟩
theorem PA.x0 (h:PA X es (tDs X.K cl xe f)):PA X es (tDs X.K cl x0 f):=PA.imp h λσ H Q ⟨μ,S,ρ,a,b,p⟩=>⟨μ,S,ρ,a,b,p.x0⟩
theorem PI.x0 (h:PI X tg e (tIt X.K cl xe f)):PI X tg e (tIt X.K cl x0 f):=PI.imp h λσ H Q ⟨μ,S,ρ,a,b,p⟩=>⟨μ,S,ρ,a,b,p.x0⟩
theorem PSs.x0 (h:PSs X sts (sD X.K cl xe f)):PSs X sts (sD X.K cl x0 f):=PSs.imp h λD σ H ⟨μ,S,ρ,a,b,p⟩=>⟨μ,S,ρ,a,b,p.x0⟩
theorem ij (h:PE X e (qB X.K cl x0 fs)):PE X e (tD X.K cl xe λρ=>bind (nx (fs ρ)) λds=>ret (.lst ds)):=PE.imp h λσ H Q ⟨μ,S,ρ,f,j,p⟩=>
 ⟨μ,S,ρ,f,j,p.bind.nx.imp λds S1 b d l g i c ys k a=>i.ret b d (Lat.refl _ _) g _ (.lst k a)⟩
theorem wS:y7 (CXd X.prog X.w X.K) X (λl _ H=>∀ a,l=.ref a->xOf X a H):=λpins σ H s e s' I ⟨a,C,d,i,H',k,g,c,j,f,h,q⟩=>by
 subst k;exact q a rfl pins σ s' C d i (I.call' g j f c λb z=>absurd z (by simp)) h
theorem nX {a:Addr} {fd:FuncData} {ps:List Str} {x:Str} {p pos:Pos} {fs:Env->M (List D)} {b:List D->M D} (F:FnOk X.prog X.w X.K X.mg X.base (CXd X.prog X.w X.K) k a fd ps (spX X.K cl n b)) (l:Room false k X.A) (j:Gl X x) (o:X.mg x=some (.ref a)) (i:PySem.W.keepIn X.K (.ref a)=true) (t:Binds X.K fd ps [])
  (s:PA X (e :: es) (tDs X.K cl (xOf X) fs)) (g:(x==("__debug__" : Str))=false) (hs:(e :: es).all noStar=true) :
  PE X (.Call (.Name x p) (e :: es) [] pos) (tD X.K cl (xOf X) λρ=>bind (fs ρ) λds=>if ds.length=n then b ds else bad):=by
 rw [FV,Ep] at hs;exact PE.imp (jG F l j o i t .nil wS s g (c7 hs.1) (j1 hs.2)) λσ H Q ⟨μ,S,ρ,m,r,p⟩=>
  ⟨μ,S,ρ,m,r,p.bind.imp λds S1 f u w q d vs c=>by
   by_cases hd:ds.length=n
   ·rw [if_pos hd] at d;exact ⟨by rw [FM,<- c.length];exact hd,f,S1,ds,by rw [FM];exact c,q,d.up λa H' h v z=>by cases z;exact h⟩
   ·rw [if_neg hd] at d;exact d.elim⟩
theorem mW {b:List D->M D} (F:FnOk X.prog X.w X.K X.mg X.base (CXd X.prog X.w X.K) k a fd ps (spX X.K cl 0 b)) (f:Room false k X.A) (e:Gl X x) (g:X.mg x=some (.ref a)) (d:PySem.W.keepIn X.K (.ref a)=true) (j:Binds X.K fd ps [])
  (c:(x==("__debug__" : Str))=false):PE X (.Call (.Name x p) [] [] pos) (tD X.K cl (xOf X) λρ=>b []):=PE.imp (pc F f e g d j .nil wS c) λσ H Q ⟨μ,S,ρ,l,i,p⟩=>⟨rfl,μ,S,[],.nil,i,p.up λa H' h m z=>by cases z;exact h⟩
end
inductive G where
 | val (d:D) | fn (i n:Nat) | err (c:Nat) (fs:List Str) | dct (kvs:List (Str×D))
structure Gm where
 gl:List (Str×G)
 sub:Nat->Nat->Bool
 flds:List Str
 qs:List Nat:=[]
structure Lc where
 N:List Str
 sc:Scope
 fr:Bool
 mu:List Str
def quiet (a:Lc):Bool:=a.mu.contains ("~" : Str)
structure Ev where
 e:Lc->Expr->Env->M D
 t:Lc->Expr->Env->M Bool
 s:Lc->Stmt->Env->M Fl
 i:Lc->Expr->Expr->Env->M (Src×Nat)
structure EvK where
 e:Lc->Expr->Env->∀ {α:Type},(D->M α)->M α
 t:Lc->Expr->Env->∀ {α:Type},(Bool->M α)->M α
 s:Lc->Stmt->Env->∀ {α:Type},(Fl->M α)->M α
 i:Lc->Expr->Expr->Env->∀ {α:Type},(Src×Nat->M α)->M α
structure EqK (r:Ev) (q:EvK):Prop where
 e:∀ lc e ρ {α:Type} (k:D->M α),q.e lc e ρ k=bind (r.e lc e ρ) k
 t:∀ lc e ρ {α:Type} (k:Bool->M α),q.t lc e ρ k=bind (r.t lc e ρ) k
 s:∀ lc e ρ {α:Type} (k:Fl->M α),q.s lc e ρ k=bind (r.s lc e ρ) k
 i:∀ lc g e ρ {α:Type} (k:Src×Nat->M α),q.i lc g e ρ k=bind (r.i lc g e ρ) k
theorem bE (k:α->M β):bind bad k=bad:=rfl
theorem p0 {c:Prop} [Decidable c] (a b:M α) (k:α->M β):bind (if c then a else b) k=if c then bind a k else bind b k:=by split <;> rfl
theorem A1 (m:M α):bind m ret=m:=by
 funext S;unfold bind ret;cases m S <;> rfl
def f8:List Str->Str->Option Nat
 | [],_=>none
 | y :: ys,x=>if y=x then some 0 else (f8 ys x).map (· + 1)
theorem s0:∀ {N:List Str} {x:Str} {i:Nat},f8 N x=some i->N[i]?=some x
 | [],_,_,e=>by cases e
 | y :: ys,x,i,e=>by
  unfold f8 at e;split at e
  ·grind
  ·cases q:f8 ys x with
   | none=>rw [q] at e;cases e
   | some j=>rw [q] at e;cases e;simpa using s0 q
def pV (a:Scope) (x:Str):Bool:=decide (a.names.lookup x=some .local)||decide (a.names.lookup x=some .cell)||decide (a.names.lookup x=some .free)
def cG (a:Scope) (x:Str):Bool:=decide (a.names.lookup x=some .local)||decide (a.names.lookup x=some .cell)
def glB (a:Scope) (x:Str):Bool:=decide (a.names.lookup x=some .globalImplicit)
def n9 (x:Str):Bool:=!(x==("__debug__" : Str))&&!(x==("__classdict__" : Str))&&!(x==("__name__" : Str))
theorem sN (h:pV sc x=true):Vis sc x:=by
 simpa [pV,Vis,or_assoc] using h
theorem F9 (h:cG sc x=true):L2.Loc sc x:=by
 simpa [cG,L2.Loc] using h
theorem p9 (h:n9 x=true):(x==("__debug__" : Str))=false/\(x==("__classdict__" : Str))=false/\x ≠ "__name__":=by
 simpa [n9,and_assoc] using h
structure Tx where
 P:Program
 w:World
 K:PySem.W.Frag
 mg:Str->Option Value
 base:Heap
 cl:Nat->Addr
def bnames:List Str:=["len","tuple","list","repr","isinstance","range","int","bool","str","dict","ValueError","all","any","sum","max","min","sorted","set","enumerate","abs","zip"]
abbrev CXq (q:Bool):CXT:=⟨λ_ _ _ _ _ _=>False,q⟩
theorem Aq:y7 (CXq q) X E0:=λ_ _ _ _ _ _ _ h=>False.elim h
structure FnX (T:Tx) (k i n:Nat) (x:Str) (run:List D->M D):Prop where
 ex:∃ (a:Addr) (fd:FuncData) (ps:List Str),ps.length=n/\FnOk T.P T.w T.K T.mg T.base (CXd T.P T.w T.K) k a fd ps (spX T.K T.cl n run)/\T.mg x=some (.ref a)/\PySem.W.keepIn T.K (.ref a)=true/\Binds T.K fd ps []
structure FnAt (T:Tx) (k i n:Nat) (x:Str) (run:List D->M D):Prop where
 ex:∃ (a:Addr) (fd:FuncData) (ps:List Str),ps.length=n/\FnOk T.P T.w T.K T.mg T.base (CXq true) k a fd ps (spD T.K T.cl n run)/\T.mg x=some (.ref a)/\PySem.W.keepIn T.K (.ref a)=true/\Binds T.K fd ps []
structure ErrAt (T:Tx) (x:Str) (c:Nat) (fs:List Str):Prop where
 xc:XC T.K (T.cl c)
 mg_:T.mg x=some (.ref (T.cl c))
 ex:∃ (f:Addr) (fd:FuncData) (ps:List Str),PySem.W.findIn T.K (.ref (T.cl c)) "__init__" = some (some (.ref f))/\PySem.W.isFn T.K (.ref f)=true/\Binds T.K fd ps [] /\
  match fs with
  | []=>FnOk T.P T.w T.K T.mg T.base CX0 2 f fd ps (Hn.spHE T.K)
  | [g]=>FnOk T.P T.w T.K T.mg T.base CX0 2 f fd ps (Hn.sp1 T.K g)
  | [g,g2]=>FnOk T.P T.w T.K T.mg T.base CX0 2 f fd ps (Hn.sp2 T.K g g2)
  | _=>False
def nH (T:Tx) (x:Str) (b:List (Str×D)):Prop:=∃ (a:Addr) (es:Array DictEntry) (n:Nat),T.mg x=some (.ref a)/\T.K.lookup a=some ⟨.type "dict",none,.dict es n,#[]⟩/\PySem.W.KeysLit T.w.params es.toList/\∀ k d,b.lookup k=some d->∃ u v,PySem.W.nsIn T.K a k=some (some u)/\RelV v u/\∀ μ H,RD T.K μ H d v
structure TxOk (T:Tx) (Γ:Gm) (k:Nat) (C:Nat->List D->M D):Prop where
 blt:∀ x∈bnames,Γ.gl.lookup x=none->T.mg x=none
 val:∀ x d,Γ.gl.lookup x=some (.val d)->∃ u v,T.mg x=some u/\RelV v u/\∀ μ H,RD T.K μ H d v
 fn:∀ x i n,Γ.gl.lookup x=some (.fn i n)->i∉Γ.qs->FnX T k i n x (C i)
 fnq:∀ x i n,Γ.gl.lookup x=some (.fn i n)->i∈Γ.qs->FnAt T k i n x (C i)
 err:∀ x c fs,Γ.gl.lookup x=some (.err c fs)->ErrAt T x c fs/\(∀ g∈fs,v1 T.K (T.cl c) g)
 sub:∀ x c c0 fs,Γ.gl.lookup x=some (.err c0 fs)->XC T.K (T.cl c)->PySem.W.kitOne T.K (.ref (T.cl c)) (.ref (T.cl c0))=some (Γ.sub c c0)
 subV:∀ c,XC T.K (T.cl c)->PySem.W.kitOne T.K (.ref (T.cl c)) (.type "ValueError")=some true
 subT:∀ c,XC T.K (T.cl c)->∀ t∈tys,PySem.W.kitOne T.K (.ref (T.cl c)) (.type t)=some false
 fld:∀ g∈Γ.flds,∀ c,XC T.K (T.cl c)->v1 T.K (T.cl c) g
 dct:∀ x kvs,Γ.gl.lookup x=some (.dct kvs)->nH T x kvs
 k3:3<=k
structure CxOk (T:Tx) (k:Nat) (lc:Lc) (X:Cx):Prop where
 prog:X.prog=T.P
 w:X.w=T.w
 K:X.K=T.K
 mg:X.mg=T.mg
 base:X.base=T.base
 N:X.N=lc.N
 nd:lc.N.Nodup
 sc:X.env.scope=lc.sc
 calm:quiet lc=false->X.calm=true
 room:Room (quiet lc) k X.A
 po:PassesOwn (model X.prog X.w) X.A X.env X.xe
 fn:X.fn=λ_=>lc.fr
 kd:lc.sc.kind=.function
 own:lc.fr=true->quiet lc=false->X.stack=X.env :: X.outer/\X.env.frame=some X.env.locals
structure EvOk (T:Tx) (k:Nat) (r:Ev):Prop where
 e:∀ lc X,CxOk T k lc X->∀ e,PE X e (tD T.K T.cl (xOf X) (r.e lc e))
 t:∀ lc X,CxOk T k lc X->∀ e,PT X e (tBo T.K T.cl (xOf X) (r.t lc e))
 s:∀ lc X,CxOk T k lc X->lc.fr=true->∀ st,PS X st (sD T.K T.cl (xOf X) (r.s lc st))
 i:∀ lc X,CxOk T k lc X->∀ g e,PI X g e (tIt T.K T.cl (xOf X) (r.i lc g e))
section
variable {T:Tx} {k:Nat} {r:Ev} {Γ:Gm} {C:Nat->List D->M D} {lc:Lc} {X:Cx} {pos:Pos}
theorem EvOk.ex (R:EvOk T k r) (h:CxOk T k lc X) (e:Expr):PE X e (tD X.K T.cl (xOf X) (r.e lc e)):=by rw [h.K];exact R.e lc X h e
theorem EvOk.tx (R:EvOk T k r) (h:CxOk T k lc X) (e:Expr):PT X e (tBo X.K T.cl (xOf X) (r.t lc e)):=by rw [h.K];exact R.t lc X h e
theorem EvOk.ix (R:EvOk T k r) (h:CxOk T k lc X) (g e:Expr):PI X g e (tIt X.K T.cl (xOf X) (r.i lc g e)):=by rw [h.K];exact R.i lc X h g e
theorem EvOk.sx (R:EvOk T k r) (h:CxOk T k lc X) (a:lc.fr=true) (st:Stmt):PS X st (sD X.K T.cl (xOf X) (r.s lc st)):=by rw [h.K];exact R.s lc X h a st
theorem CxOk.u64 (h:CxOk T k lc X):X.A.units+64<cLine:=h.room.units
theorem CxOk.u80 (h:CxOk T k lc X):X.A.units+80<cLine:=by have:=h.room.un;omega
theorem CxOk.u1 (h:CxOk T k lc X):X.A.units+1<cLine:=AL h.room
theorem CxOk.gl (h:CxOk T k lc X) {x:Str} (a:glB lc.sc x=true):Gl X x:=by
 show X.env.kindOf x=_;unfold PySem.Env.kindOf;rw [h.sc];exact FG a
theorem TxOk.none (a:TxOk T Γ k C) (h:CxOk T k lc X) {x:Str} (b:x∈bnames) (e:Γ.gl.lookup x=none):X.mg x=none:=by rw [h.mg];exact a.blt x b e
theorem CxOk.nd' (h:CxOk T k lc X):X.N.Nodup:=by rw [h.N];exact h.nd
theorem CxOk.fn1 (h:CxOk T k lc X) (a:lc.fr=true) {x:Str}:X.fn x=true:=by rw [h.fn];exact a
theorem CxOk.room0 (h:CxOk T k lc X) (a:quiet lc=false):Room false k X.A:=by have:=h.room;rw [a] at this;exact this
theorem CxOk.nox (h:CxOk T k lc X):CxOk T k lc X.nox:=⟨h.prog,h.w,h.K,h.mg,h.base,h.N,h.nd,h.sc,h.calm,h.room,PassesOwn.never,h.fn,h.kd,h.own⟩
end
abbrev Cf:=Nat->List D->M D
structure RuE:Type 1 where
 is:Gm->Lc->Expr->Bool
 run:Ev->Gm->Cf->Lc->Expr->Env->M D
 ok:∀ {T:Tx} {k:Nat} {r:Ev} {Γ:Gm} {C:Cf} {lc:Lc} {X:Cx} (e:Expr),EvOk T k r->TxOk T Γ k C->CxOk T k lc X->is Γ lc e=true->PE X e (tD X.K T.cl (xOf X) (run r Γ C lc e))
 runK:EvK->Gm->Cf->Lc->Expr->Env->∀ {α:Type},(D->M α)->M α
 eq:∀ {r:Ev} {q:EvK} {Γ:Gm} {C:Cf} {lc:Lc} (e:Expr) (ρ:Env) {α:Type} (k:D->M α),EqK r q->runK q Γ C lc e ρ k=bind (run r Γ C lc e ρ) k
structure RuT:Type 1 where
 is:Gm->Lc->Expr->Bool
 run:Ev->Gm->Cf->Lc->Expr->Env->M Bool
 ok:∀ {T:Tx} {k:Nat} {r:Ev} {Γ:Gm} {C:Cf} {lc:Lc} {X:Cx} (e:Expr),EvOk T k r->TxOk T Γ k C->CxOk T k lc X->is Γ lc e=true->PT X e (tBo X.K T.cl (xOf X) (run r Γ C lc e))
 runK:EvK->Gm->Cf->Lc->Expr->Env->∀ {α:Type},(Bool->M α)->M α
 eq:∀ {r:Ev} {q:EvK} {Γ:Gm} {C:Cf} {lc:Lc} (e:Expr) (ρ:Env) {α:Type} (k:Bool->M α),EqK r q->runK q Γ C lc e ρ k=bind (run r Γ C lc e ρ) k
structure RuS:Type 1 where
 is:Gm->Lc->Stmt->Bool
 run:Ev->Gm->Cf->Lc->Stmt->Env->M Fl
 ok:∀ {T:Tx} {k:Nat} {r:Ev} {Γ:Gm} {C:Cf} {lc:Lc} {X:Cx} (e:Stmt),EvOk T k r->TxOk T Γ k C->CxOk T k lc X->lc.fr=true->is Γ lc e=true->PS X e (sD X.K T.cl (xOf X) (run r Γ C lc e))
 runK:EvK->Gm->Cf->Lc->Stmt->Env->∀ {α:Type},(Fl->M α)->M α
 eq:∀ {r:Ev} {q:EvK} {Γ:Gm} {C:Cf} {lc:Lc} (e:Stmt) (ρ:Env) {α:Type} (k:Fl->M α),EqK r q->runK q Γ C lc e ρ k=bind (run r Γ C lc e ρ) k
structure RuI:Type 1 where
 is:Gm->Lc->Expr->Expr->Bool
 run:Ev->Gm->Cf->Lc->Expr->Env->M (Src×Nat)
 ok:∀ {T:Tx} {k:Nat} {r:Ev} {Γ:Gm} {C:Cf} {lc:Lc} {X:Cx} (g e:Expr),EvOk T k r->TxOk T Γ k C->CxOk T k lc X->is Γ lc g e=true->PI X g e (tIt X.K T.cl (xOf X) (run r Γ C lc e))
 runK:EvK->Gm->Cf->Lc->Expr->Env->∀ {α:Type},(Src×Nat->M α)->M α
 eq:∀ {r:Ev} {q:EvK} {Γ:Gm} {C:Cf} {lc:Lc} (e:Expr) (ρ:Env) {α:Type} (k:Src×Nat->M α),EqK r q->runK q Γ C lc e ρ k=bind (run r Γ C lc e ρ) k
structure Rules:Type 1 where
 es:List RuE
 ts:List RuT
 ss:List RuS
 is:List RuI
section
variable (Rs:Rules) (Γ:Gm) (C:Cf)
def step (r:Ev):Ev:=
 ⟨λa e=>match Rs.es.find? (λR=>R.is Γ a e) with
  | some R=>R.run r Γ C a e
  | none=>λ_=>bad,
 λa e=>match Rs.ts.find? (λR=>R.is Γ a e) with
  | some R=>R.run r Γ C a e
  | none=>λ_=>bad,
 λa e=>match Rs.ss.find? (λR=>R.is Γ a e) with
  | some R=>R.run r Γ C a e
  | none=>λ_=>bad,
 λa g e=>match Rs.is.find? (λR=>R.is Γ a g e) with
  | some R=>R.run r Γ C a e
  | none=>λ_=>bad⟩
def badEv:Ev:=⟨λ_ _ _=>bad,λ_ _ _=>bad,λ_ _ _=>bad,λ_ _ _ _=>bad⟩
def ev:Nat->Ev
 | 0=>badEv
 | n+1=>step Rs Γ C (ev n)
def wa (q:EvK):EvK:=
 ⟨λa e ρ _ k=>match Rs.es.find? (λR=>R.is Γ a e) with
  | some R=>R.runK q Γ C a e ρ k
  | none=>bad,
 λa e ρ _ k=>match Rs.ts.find? (λR=>R.is Γ a e) with
  | some R=>R.runK q Γ C a e ρ k
  | none=>bad,
 λa e ρ _ k=>match Rs.ss.find? (λR=>R.is Γ a e) with
  | some R=>R.runK q Γ C a e ρ k
  | none=>bad,
 λa g e ρ _ k=>match Rs.is.find? (λR=>R.is Γ a g e) with
  | some R=>R.runK q Γ C a e ρ k
  | none=>bad⟩
def DQ:EvK:=⟨λ_ _ _ _ _=>bad,λ_ _ _ _ _=>bad,λ_ _ _ _ _=>bad,λ_ _ _ _ _ _=>bad⟩
def evK:Nat->EvK
 | 0=>DQ
 | n+1=>wa Rs Γ C (evK n)
end
section
variable {Rs:Rules} {T:Tx} {k:Nat} {r:Ev} {q:EvK} {Γ:Gm} {C:Cf} {lc:Lc} {X:Cx}
theorem vH (d:TxOk T Γ k C) (R:EvOk T k r):EvOk T k (step Rs Γ C r):=by
 refine ⟨λa X h e=>?_,λa X h e=>?_,λa X h c e=>?_,λa X h g e=>?_⟩
 ·rw [<- h.K];show PE X e (tD X.K T.cl (xOf X) (match Rs.es.find? (λR=>R.is Γ a e) with
   | some R=>R.run r Γ C a e
   | none=>λ_=>bad))
  cases c:Rs.es.find? (λR=>R.is Γ a e) with
  | none=>exact d8
  | some b=>exact b.ok e R d h (by have:=Ix c;exact this)
 ·rw [<- h.K];show PT X e (tBo X.K T.cl (xOf X) (match Rs.ts.find? (λR=>R.is Γ a e) with
   | some R=>R.run r Γ C a e
   | none=>λ_=>bad))
  cases c:Rs.ts.find? (λR=>R.is Γ a e) with
  | none=>exact iJ
  | some b=>exact b.ok e R d h (by have:=Ix c;exact this)
 ·rw [<- h.K];show PS X e (sD X.K T.cl (xOf X) (match Rs.ss.find? (λR=>R.is Γ a e) with
   | some R=>R.run r Γ C a e
   | none=>λ_=>bad))
  cases f:Rs.ss.find? (λR=>R.is Γ a e) with
  | none=>exact P0
  | some b=>exact b.ok e R d h c (by have:=Ix f;exact this)
 ·rw [<- h.K];show PI X g e (tIt X.K T.cl (xOf X) (match Rs.is.find? (λR=>R.is Γ a g e) with
   | some R=>R.run r Γ C a e
   | none=>λ_=>bad))
  cases c:Rs.is.find? (λR=>R.is Γ a g e) with
  | none=>exact jc
  | some b=>exact b.ok g e R d h (by have:=Ix c;exact this)
theorem mw:EvOk T k badEv:=⟨λa X h e=>by rw [<- h.K];exact d8,λa X h e=>by rw [<- h.K];exact iJ,λa X h _ st=>by rw [<- h.K];exact P0,λa X h g e=>by rw [<- h.K];exact jc⟩
theorem pR (a:TxOk T Γ k C):∀ n,EvOk T k (ev Rs Γ C n)
 | 0=>mw
 | n+1=>vH a (pR a n)
theorem tH (h:EqK r q):EqK (step Rs Γ C r) (wa Rs Γ C q):=by
 refine ⟨λa e ρ _ k=>?_,λa e ρ _ k=>?_,λa e ρ _ k=>?_,λa g e ρ _ k=>?_⟩
 ·show (match Rs.es.find? (λR=>R.is Γ a e) with
   | some R=>R.runK q Γ C a e ρ k
   | none=>bad)=bind ((match Rs.es.find? (λ(R:RuE)=>R.is Γ a e) with
   | some R=>R.run r Γ C a e
   | none=>λ_=>bad) ρ) k
  cases Rs.es.find? (λR=>R.is Γ a e) with
  | none=>rfl
  | some b=>exact b.eq e ρ k h
 ·show (match Rs.ts.find? (λR=>R.is Γ a e) with
   | some R=>R.runK q Γ C a e ρ k
   | none=>bad)=bind ((match Rs.ts.find? (λ(R:RuT)=>R.is Γ a e) with
   | some R=>R.run r Γ C a e
   | none=>λ_=>bad) ρ) k
  cases Rs.ts.find? (λR=>R.is Γ a e) with
  | none=>rfl
  | some b=>exact b.eq e ρ k h
 ·show (match Rs.ss.find? (λR=>R.is Γ a e) with
   | some R=>R.runK q Γ C a e ρ k
   | none=>bad)=bind ((match Rs.ss.find? (λ(R:RuS)=>R.is Γ a e) with
   | some R=>R.run r Γ C a e
   | none=>λ_=>bad) ρ) k
  cases Rs.ss.find? (λR=>R.is Γ a e) with
  | none=>rfl
  | some b=>exact b.eq e ρ k h
 ·show (match Rs.is.find? (λR=>R.is Γ a g e) with
   | some R=>R.runK q Γ C a e ρ k
   | none=>bad)=bind ((match Rs.is.find? (λ(R:RuI)=>R.is Γ a g e) with
   | some R=>R.run r Γ C a e
   | none=>λ_=>bad) ρ) k
  cases Rs.is.find? (λR=>R.is Γ a g e) with
  | none=>rfl
  | some b=>exact b.eq e ρ k h
theorem we:∀ n,EqK (ev Rs Γ C n) (evK Rs Γ C n)
 | 0=>⟨λ_ _ _ _ _=>rfl,λ_ _ _ _ _=>rfl,λ_ _ _ _ _=>rfl,λ_ _ _ _ _ _=>rfl⟩
 | n+1=>tH (we n)
end
section
variable (r:Ev) (q:EvK) (lc:Lc)
def u5:List Expr->Env->M (List D)
 | [],_=>ret []
 | e :: es,ρ=>bind (r.e lc e ρ) λd=>bind (u5 es ρ) λds=>ret (d :: ds)
def y9 {a:Type}:List Expr->Env->(List D->M a)->M a
 | [],_,k=>k []
 | e :: es,ρ,k=>q.e lc e ρ λd=>y9 es ρ λds=>k (d :: ds)
def O8:List Stmt->Env->M Fl
 | [],ρ=>ret (.nx ρ)
 | st :: a,ρ=>BA (r.s lc st) (O8 a) ρ
def j6 {d:Type}:List Stmt->Env->(Fl->M d)->M d
 | [],ρ,k=>k (.nx ρ)
 | st :: a,ρ,k=>q.s lc st ρ λb=>match b with
  | .nx c=>j6 a c k
  | b=>k b
end
section
variable {T:Tx} {k:Nat} {r:Ev} {q:EvK} {Γ:Gm} {C:Cf} {lc:Lc} {X:Cx} {pos:Pos}
theorem n8 (h:EqK r q):∀ (es:List Expr) (ρ:Env) {a:Type} (k:List D->M a),y9 q lc es ρ k=bind (u5 r lc es ρ) k
 | [],_,_,_=>rfl
 | e :: es,ρ,_,k=>by
  show q.e lc e ρ (λd=>y9 q lc es ρ λds=>k (d :: ds))=bind (bind (r.e lc e ρ) λd=>bind (u5 r lc es ρ) λds=>ret (d :: ds)) k;rw [h.e,bind_assoc];congr;funext d;rw [n8 h,bind_assoc];rfl
theorem W0 (h:EqK r q):∀ (sts:List Stmt) (ρ:Env) {α:Type} (k:Fl->M α),j6 q lc sts ρ k=bind (O8 r lc sts ρ) k
 | [],_,_,_=>rfl
 | st :: sts,ρ,_,k=>by
  show (q.s lc st ρ λfl=>match fl with
   | .nx ρ'=>j6 q lc sts ρ' k
   | fl=>k fl)=bind (bind (r.s lc st ρ) λfl=>match fl with
   | .nx ρ'=>O8 r lc sts ρ'
   | fl=>ret fl) k
  rw [h.s,bind_assoc];congr;funext fl;cases fl with
  | nx ρ'=>exact W0 h sts ρ' k
  | bk ρ'=>rfl
  | ct ρ'=>rfl
  | rt d=>rfl
theorem n4 (R:EvOk T k r) (h:CxOk T k lc X):∀ {es:List Expr},es.all noStar=true->PA X es (tDs X.K T.cl (xOf X) (u5 r lc es))
 | [],_=>sL
 | e :: es,hs=>by
  rw [FV,Ep] at hs;exact nq (R.ex h e) (n4 R h hs.2) hs.1
theorem K2 (R:EvOk T k r) (h:CxOk T k lc X) (b:lc.fr=true):∀ {a:List Stmt},PSs X a (sD X.K T.cl (xOf X) (O8 r lc a))
 | []=>ng
 | st :: a=>sK (R.sx h b st) (K2 R h b)
end
def xU (c:Const):M D:=match c with
 | .int i=>ret (.int i)
 | .bool b=>ret (.bl b)
 | .none=>ret .non
 | .str x=>ret (.str x)
 | _=>bad
def zb {a:Type} (c:Const) (k:D->M a):M a:=match c with
 | .int i=>k (.int i)
 | .bool b=>k (.bl b)
 | .none=>k .non
 | .str x=>k (.str x)
 | _=>bad
def zU:RuE where
 is _ _ e:=match e with
  | .Constant _ _ _=>true
  | _=>false
 run _ _ _ _ e _:=match e with
  | .Constant c _ _=>xU c
  | _=>bad
 ok e R TX h hi:=by
  cases e with
  | Constant c n p=>
   cases c <;> first
    | exact K4 xj λ_ _=>.int _
    | exact K4 CO λ_ _=>.bl _
    | exact K4 AD λ_ _=>.non
    | exact K4 yO λ_ _=>.str _
    | exact d8
  | _=>exact d8
 runK _ _ _ _ e _ _ k:=match e with
  | .Constant c _ _=>zb c k
  | _=>bad
 eq e ρ _ k h:=by
  cases e with
  | Constant c n p=>cases c <;> rfl
  | _=>rfl
def fI (Γ:Gm) (a:Lc) (x:Str) (ρ:Env):M D:=match f8 a.N x with
 | some i=>if pV a.sc x=true then getD i ρ else bad
 | none=>if glB a.sc x=true then (match Γ.gl.lookup x with
  | some (.val d)=>ret d
  | _=>bad) else bad
def Bc {a:Type} (i:Nat) (ρ:Env) (k:D->M a):M a:=match ρ[i]? with
 | some (some d)=>k d
 | _=>bad
def ol {b:Type} (Γ:Gm) (a:Lc) (x:Str) (ρ:Env) (k:D->M b):M b:=match f8 a.N x with
 | some i=>if pV a.sc x=true then Bc i ρ k else bad
 | none=>if glB a.sc x=true then (match Γ.gl.lookup x with
  | some (.val d)=>k d
  | _=>bad) else bad
theorem vJ {Γ:Gm} {C:Cf} {lc:Lc} {X:Cx} {pos:Pos} (TX:TxOk T Γ k C) (h:CxOk T k lc X) {x:Str} (hn:n9 x=true):PE X (.Name x pos) (tD X.K T.cl (xOf X) (fI Γ lc x)):=by
 unfold fI;obtain ⟨n1,n2,n3⟩:=p9 hn;cases e:f8 lc.N x with
 | some i=>
  by_cases hv:pV lc.sc x=true
  ·simp only [if_pos hv];exact xt (oC (by rw [h.N];exact s0 e) (by rw [h.sc];exact sN hv) n1 n2)
  ·simp only [if_neg hv];exact d8
 | none=>
  by_cases hv:glB lc.sc x=true
  ·simp only [if_pos hv];cases e2:Γ.gl.lookup x with
   | none=>exact d8
   | some g=>
    cases g with
    | val d=>
     obtain ⟨u,v,e3,rv,rd⟩:=TX.val x d e2;exact K4 (dW (h.gl hv) (by rw [h.mg];exact e3) rv n1) λμ H=>by rw [h.K];exact rd μ H
    | fn i n=>exact d8
    | err c fs=>exact d8
    | dct kvs=>exact d8
  ·simp only [if_neg hv];exact d8
theorem sf (Γ:Gm) (a:Lc) (x:Str) (ρ:Env) {b:Type} (k:D->M b):ol Γ a x ρ k=bind (fI Γ a x ρ) k:=by
 unfold ol fI;cases f8 a.N x with
 | some i=>
  simp only [];split
  ·unfold Bc getD;cases ρ[i]? with
   | none=>rfl
   | some o=>cases o <;> rfl
  ·rfl
 | none=>
  simp only [];split
  ·cases Γ.gl.lookup x with
   | none=>rfl
   | some g=>cases g <;> rfl
  ·rfl
def Bf:RuE where
 is _ _ e:=match e with
  | .Name x _=>n9 x
  | _=>false
 run _ Γ _ lc e ρ:=match e with
  | .Name x _=>fI Γ lc x ρ
  | _=>bad
 ok e R TX h hi:=by
  cases e with
  | Name x p=>exact vJ TX h hi
  | _=>exact d8
 runK _ Γ _ lc e ρ _ k:=match e with
  | .Name x _=>ol Γ lc x ρ k
  | _=>bad
 eq e ρ _ k h:=by
  cases e with
  | Name x p=>exact sf _ _ x ρ k
  | _=>rfl
def xB (op:Operator):D->D->M D:=match op with
 | .Add=>i7
 | .Sub=>P1
 | .Mult=>cE
 | .Mod=>G3
 | .FloorDiv=>X4
 | .Pow=>uT
 | _=>λ_ _=>bad
def a9 (op:CmpOp):D->D->M D:=match op with
 | .Eq=>eqD false
 | .NotEq=>eqD true
 | .Lt=>oz λi j=>decide (i<j)
 | .LtE=>oz λi j=>decide (i<=j)
 | .Gt=>oz λi j=>decide (j<i)
 | .GtE=>oz λi j=>decide (j<=i)
 | .In=>inD false
 | .NotIn=>inD true
 | .Is=>isD false
 | .IsNot=>isD true
theorem zd (op:Operator):OpR X (binaryOp op) (rP2 X.K cl xe (xB op)):=by
 cases op <;> first
  | exact Ch
  | exact Ce
  | exact BV
  | exact Av
  | exact zT
  | exact CJ
  | exact λpins s σ H x y v u Q I a c ⟨μ,S,d,e,f,b,g,p⟩=>p.elim
theorem dH (h:CxOk T k lc X) (op:CmpOp):OpR X (compareOp op) (rP2 X.K cl xe (a9 op)):=by
 cases op
 case Eq=>exact Dy h.u64
 case NotEq=>exact DV h.u64
 case Lt=>exact jK CK
 case LtE=>exact jK Aa
 case Gt=>exact jK Al
 case GtE=>exact jK BX
 case In=>exact AQ false h.u80
 case NotIn=>exact AQ true h.u80
 case Is=>exact zG false
 case IsNot=>exact zG true
def EW:RuE where
 is _ _ e:=match e with
  | .BinOp _ _ _ _=>true
  | _=>false
 run r _ _ lc e ρ:=match e with
  | .BinOp a op b _=>bind (r.e lc a ρ) λx=>bind (r.e lc b ρ) λy=>xB op x y
  | _=>bad
 ok e R TX h hi:=by
  cases e with
  | BinOp a op b p=>exact zP (R.ex h _) (R.ex h _) (zd _)
  | _=>exact d8
 runK q _ _ lc e ρ _ k:=match e with
  | .BinOp a op b _=>q.e lc a ρ λx=>q.e lc b ρ λy=>bind (xB op x y) k
  | _=>bad
 eq e ρ _ k h:=by
  cases e with
  | BinOp a op b p=>simp only [h.e,bind_assoc]
  | _=>rfl
def Dv:RuE where
 is _ _ e:=match e with
  | .UnaryOp .Not _ _=>true
  | _=>false
 run r _ _ lc e ρ:=match e with
  | .UnaryOp .Not a _=>bind (r.e lc a ρ) λd=>bind (h7 d) λk=>ret (.bl (!k))
  | _=>bad
 ok e R TX h hi:=by
  split at hi
  ·exact yx (R.ex h _)
  ·cases hi
 runK q _ _ lc e ρ _ k:=match e with
  | .UnaryOp .Not a _=>q.e lc a ρ λd=>bind (h7 d) λc=>k (.bl (!c))
  | _=>bad
 eq e ρ _ k h:=by
  split
  ·simp only [h.e,bind_assoc,i8]
  ·first
   | rfl
   | (rename_i b;split;exact (b _ _ rfl).elim;rfl)
def De:RuE where
 is _ _ e:=match e with
  | .UnaryOp .USub _ _=>true
  | _=>false
 run r _ _ lc e ρ:=match e with
  | .UnaryOp .USub a _=>bind (r.e lc a ρ) vL
  | _=>bad
 ok e R TX h hi:=by
  split at hi
  ·exact zB (R.ex h _)
  ·cases hi
 runK q _ _ lc e ρ _ k:=match e with
  | .UnaryOp .USub a _=>q.e lc a ρ λd=>bind (vL d) k
  | _=>bad
 eq e ρ _ k h:=by
  split
  ·simp only [h.e,bind_assoc]
  ·first
   | rfl
   | (rename_i b;split;exact (b _ _ rfl).elim;rfl)
section
variable (r:Ev) (q:EvK) (lc:Lc)
def pe:List Expr->Env->M D
 | [],_=>bad
 | [a],ρ=>r.e lc a ρ
 | a :: b :: es,ρ=>bind (r.e lc a ρ) λd=>bind (h7 d) λq=>if q=true then pe (b :: es) ρ else ret d
def orE:List Expr->Env->M D
 | [],_=>bad
 | [a],ρ=>r.e lc a ρ
 | a :: b :: es,ρ=>bind (r.e lc a ρ) λd=>bind (h7 d) λq=>if q=true then ret d else orE (b :: es) ρ
def vP {e:Type}:List Expr->Env->(D->M e)->M e
 | [],_,_=>bad
 | [a],ρ,k=>q.e lc a ρ k
 | a :: b :: es,ρ,k=>q.e lc a ρ λd=>bind (h7 d) λc=>if c=true then vP (b :: es) ρ k else k d
def orK {e:Type}:List Expr->Env->(D->M e)->M e
 | [],_,_=>bad
 | [a],ρ,k=>q.e lc a ρ k
 | a :: b :: es,ρ,k=>q.e lc a ρ λd=>bind (h7 d) λc=>if c=true then k d else orK (b :: es) ρ k
def qM:List Expr->Env->M Bool
 | [],_=>bad
 | [a],ρ=>r.t lc a ρ
 | a :: b :: es,ρ=>bind (r.t lc a ρ) λq=>if q=true then qM (b :: es) ρ else ret false
def orB:List Expr->Env->M Bool
 | [],_=>bad
 | [a],ρ=>r.t lc a ρ
 | a :: b :: es,ρ=>bind (r.t lc a ρ) λq=>if q=true then ret true else orB (b :: es) ρ
def jh {d:Type}:List Expr->Env->(Bool->M d)->M d
 | [],_,_=>bad
 | [a],ρ,k=>q.t lc a ρ k
 | a :: b :: es,ρ,k=>q.t lc a ρ λc=>if c=true then jh (b :: es) ρ k else k false
def vU {d:Type}:List Expr->Env->(Bool->M d)->M d
 | [],_,_=>bad
 | [a],ρ,k=>q.t lc a ρ k
 | a :: b :: es,ρ,k=>q.t lc a ρ λc=>if c=true then k true else vU (b :: es) ρ k
end
section
variable {T:Tx} {k:Nat} {r:Ev} {q:EvK} {Γ:Gm} {C:Cf} {lc:Lc} {X:Cx} {pos:Pos}
theorem pB (R:EvOk T k r) (h:CxOk T k lc X):∀ {es:List Expr},PE X (.BoolOp .And es pos) (tD X.K T.cl (xOf X) (pe r lc es))
 | []=>d8
 | [a]=>oT (R.ex h a)
 | a :: b :: es=>xA (R.ex h a) (pB R h)
theorem wB (R:EvOk T k r) (h:CxOk T k lc X):∀ {es:List Expr},PE X (.BoolOp .Or es pos) (tD X.K T.cl (xOf X) (orE r lc es))
 | []=>d8
 | [a]=>oT (R.ex h a)
 | a :: b :: es=>Ct (R.ex h a) (wB R h)
theorem kE (R:EvOk T k r) (h:CxOk T k lc X):∀ {es:List Expr},PW X (.BoolOp .And es pos) (tBo X.K T.cl (xOf X) (qM r lc es))
 | []=>pw_bad
 | [a]=>uE (R.tx h a)
 | a :: b :: es=>yy (R.tx h a) (kE R h)
theorem nP (R:EvOk T k r) (h:CxOk T k lc X):∀ {es:List Expr},PW X (.BoolOp .Or es pos) (tBo X.K T.cl (xOf X) (orB r lc es))
 | []=>pw_bad
 | [a]=>yi (R.tx h a)
 | a :: b :: es=>BJ (R.tx h a) (nP R h)
theorem qR (h:EqK r q):∀ (es:List Expr) (ρ:Env) {c:Type} (k:D->M c),vP q lc es ρ k=bind (pe r lc es ρ) k
 | [],_,_,_=>rfl
 | [a],ρ,_,k=>h.e lc a ρ k
 | a :: b :: es,ρ,_,k=>by simp only [vP,pe,h.e,bind_assoc,p0,qR h (b :: es),i8]
theorem wC (h:EqK r q):∀ (es:List Expr) (ρ:Env) {c:Type} (k:D->M c),orK q lc es ρ k=bind (orE r lc es ρ) k
 | [],_,_,_=>rfl
 | [a],ρ,_,k=>h.e lc a ρ k
 | a :: b :: es,ρ,_,k=>by simp only [orK,orE,h.e,bind_assoc,p0,wC h (b :: es),i8]
theorem kP (h:EqK r q):∀ (es:List Expr) (ρ:Env) {c:Type} (k:Bool->M c),jh q lc es ρ k=bind (qM r lc es ρ) k
 | [],_,_,_=>rfl
 | [a],ρ,_,k=>h.t lc a ρ k
 | a :: b :: es,ρ,_,k=>by simp only [jh,qM,h.t,bind_assoc,p0,kP h (b :: es),i8]
theorem oZ (h:EqK r q):∀ (es:List Expr) (ρ:Env) {c:Type} (k:Bool->M c),vU q lc es ρ k=bind (orB r lc es ρ) k
 | [],_,_,_=>rfl
 | [a],ρ,_,k=>h.t lc a ρ k
 | a :: b :: es,ρ,_,k=>by simp only [vU,orB,h.t,bind_assoc,p0,oZ h (b :: es),i8]
end
def BN:RuE where
 is _ _ e:=match e with
  | .BoolOp _ _ _=>true
  | _=>false
 run r _ _ lc e ρ:=match e with
  | .BoolOp .And es _=>pe r lc es ρ
  | .BoolOp .Or es _=>orE r lc es ρ
  | _=>bad
 ok e R TX h hi:=by
  cases e with
  | BoolOp op es p=>cases op;exact pB R h;exact wB R h
  | _=>exact d8
 runK q _ _ lc e ρ _ k:=match e with
  | .BoolOp .And es _=>vP q lc es ρ k
  | .BoolOp .Or es _=>orK q lc es ρ k
  | _=>bad
 eq e ρ _ k h:=by
  cases e with
  | BoolOp op es p=>cases op;exact qR h es ρ k;exact wC h es ρ k
  | _=>rfl
def DN:RuE where
 is _ _ e:=match e with
  | .Compare _ [_] [b] _=>v9 b
  | _=>false
 run r _ _ lc e ρ:=match e with
  | .Compare a [op] [b] _=>bind (r.e lc a ρ) λx=>bind (r.e lc b ρ) λy=>a9 op x y
  | _=>bad
 ok e R TX h hi:=by
  split at hi
  ·exact yb (R.ex h _) (R.ex h _) (dH h _) (X1 hi)
  ·cases hi
 runK q _ _ lc e ρ _ k:=match e with
  | .Compare a [op] [b] _=>q.e lc a ρ λx=>q.e lc b ρ λy=>bind (a9 op x y) k
  | _=>bad
 eq e ρ _ k h:=by
  split
  ·simp only [h.e,bind_assoc]
  ·first
   | rfl
   | (rename_i c;split;exact (c _ _ _ _ rfl).elim;rfl)
def rIf:RuE where
 is _ _ e:=match e with
  | .IfExp _ _ _ _=>true
  | _=>false
 run r _ _ lc e ρ:=match e with
  | .IfExp c a b _=>bind (r.t lc c ρ) λq=>if q=true then r.e lc a ρ else r.e lc b ρ
  | _=>bad
 ok e R TX h hi:=by
  cases e with
  | IfExp c a b p=>exact AH (R.tx h _) (R.ex h _) (R.ex h _)
  | _=>exact d8
 runK q _ _ lc e ρ _ k:=match e with
  | .IfExp c a b _=>q.t lc c ρ λz=>if z=true then q.e lc a ρ k else q.e lc b ρ k
  | _=>bad
 eq e ρ _ k h:=by
  cases e with
  | IfExp c a b p=>simp only [h.e,h.t,bind_assoc,p0]
  | _=>rfl
def Dx:RuE where
 is _ _ e:=match e with
  | .Tuple es _ _=>es.all noStar
  | _=>false
 run r _ _ lc e ρ:=match e with
  | .Tuple es _ _=>bind (u5 r lc es ρ) yB
  | _=>bad
 ok e R TX h hi:=by
  cases e with
  | Tuple es n p=>exact yR (n4 R h hi)
  | _=>exact d8
 runK q _ _ lc e ρ _ k:=match e with
  | .Tuple es _ _=>y9 q lc es ρ λds=>bind (yB ds) k
  | _=>bad
 eq e ρ _ k h:=by
  cases e with
  | Tuple es n p=>simp only [n8 h,bind_assoc]
  | _=>rfl
def DZ:RuE where
 is _ _ e:=match e with
  | .List es _=>es.all noStar
  | _=>false
 run r _ _ lc e ρ:=match e with
  | .List es _=>bind (u5 r lc es ρ) zJ
  | _=>bad
 ok e R TX h hi:=by
  cases e with
  | List es p=>exact zM (n4 R h hi)
  | _=>exact d8
 runK q _ _ lc e ρ _ k:=match e with
  | .List es _=>y9 q lc es ρ λds=>bind (zJ ds) k
  | _=>bad
 eq e ρ _ k h:=by
  cases e with
  | List es p=>simp only [n8 h,bind_assoc]
  | _=>rfl
def ah (r:Ev) (a:Lc):List (Option Expr)->List Expr->List ((Env->M D)×(Env->M D))
 | some k :: b,v :: vs=>(r.e a k,r.e a v) :: ah r a b vs
 | _,_=>[]
def dC (q:EvK) (c:Lc) {d:Type}:List (Option Expr)->List Expr->Env->(List (D×D)->M d)->M d
 | some x :: e,v :: vs,ρ,k=>q.e c x ρ λa=>q.e c v ρ λb=>dC q c e vs ρ λps=>k ((a,b) :: ps)
 | _,_,_,k=>k []
theorem ff (R:EvOk T k r) (h:CxOk T k lc X):∀ {b:List (Option Expr)} {vs:List Expr},b.all (·.isSome)=true->b.length=vs.length->PPs X pos b vs ((ah r lc b vs).map λd=>(tD X.K T.cl (xOf X) d.1,tD X.K T.cl (xOf X) d.2))
 | [],[],_,_=>sZ
 | [],_ :: _,_,a=>by simp at a
 | _ :: _,[],_,a=>by simp at a
 | none :: _,_ :: _,c,_=>by simp at c
 | some k :: b,v :: vs,c,a=>rV (R.ex h k) (R.ex h v) (ff R h (by simpa using c) (by simpa using a))
theorem fG (h:EqK r q):∀ (c:List (Option Expr)) (vs:List Expr) (ρ:Env) {d:Type} (k:List (D×D)->M d),dC q lc c vs ρ k=bind (D3 (ah r lc c vs) ρ) k
 | [],_,_,_,_=>rfl
 | none :: _,_,_,_,_=>rfl
 | some _ :: _,[],_,_,_=>rfl
 | some x :: c,v :: vs,ρ,_,k=>by
  simp only [dC,ah,D3,h.e,bind_assoc];congr;funext a;congr;funext b;rw [fG h c vs ρ];rfl
def Dh:RuE where
 is _ _ e:=match e with
  | .Dict ks vs _=>ks.all (·.isSome)&&decide (ks.length=vs.length)&&decide (0<ks.length)&&decide (ks.length<=15)
  | _=>false
 run r _ _ lc e ρ:=match e with
  | .Dict ks vs _=>bind (D3 (ah r lc ks vs) ρ) pS
  | _=>bad
 ok e R TX h hi:=by
  cases e with
  | Dict ks vs p=>
   simp only [Ep,Fh] at hi;exact vh (ff R h hi.1.1.1 hi.1.1.2) hi.1.1.1 hi.1.1.2 (by intro z;rw [z] at hi;simp at hi) hi.2
  | _=>exact d8
 runK q _ _ lc e ρ _ k:=match e with
  | .Dict ks vs _=>dC q lc ks vs ρ λps=>bind (pS ps) k
  | _=>bad
 eq e ρ _ k h:=by
  cases e with
  | Dict ks vs p=>simp only [fG h,bind_assoc]
  | _=>rfl
def rIx:RuE where
 is _ _ e:=match e with
  | .Subscript _ i _=>F8 i
  | _=>false
 run r _ _ lc e ρ:=match e with
  | .Subscript a i _=>bind (r.e lc a ρ) λx=>bind (r.e lc i ρ) λy=>ixD x y
  | _=>bad
 ok e R TX h hi:=by
  cases e with
  | Subscript a i p=>exact Ax (R.ex h _) (R.ex h _) (Dd h.u1) (iE hi)
  | _=>exact d8
 runK q _ _ lc e ρ _ k:=match e with
  | .Subscript a i _=>q.e lc a ρ λx=>q.e lc i ρ λy=>bind (ixD x y) k
  | _=>bad
 eq e ρ _ k h:=by
  cases e with
  | Subscript a i p=>simp only [h.e,bind_assoc]
  | _=>rfl
def el (r:Ev) (a:Lc) (o:Option Expr) (ρ:Env):M (Option Int):=match o with
 | none=>ret none
 | some e=>bind (r.e a e ρ) br
def jI (q:EvK) (b:Lc) {a:Type} (o:Option Expr) (ρ:Env) (k:Option Int->M a):M a:=match o with
 | none=>k none
 | some e=>q.e b e ρ λd=>bind (br d) k
theorem uF (h:EqK r q) (o:Option Expr) (ρ:Env) {a:Type} (k:Option Int->M a):jI q lc o ρ k=bind (el r lc o ρ) k:=by
 cases o with
 | none=>rfl
 | some e=>simp only [jI,el,h.e,bind_assoc]
theorem ia (R:EvOk T k r) (h:CxOk T k lc X) {o:Option Expr}:PO X o (tPt X.K T.cl (xOf X) (el r lc o)):=by
 cases o with
 | none=>exact uS
 | some e=>exact sM (R.ex h e)
def rSl:RuE where
 is _ _ e:=match e with
  | .Subscript _ (.Slice _ _ none _) _=>true
  | _=>false
 run r _ _ lc e ρ:=match e with
  | .Subscript a (.Slice lo b none _) _=>bind (r.e lc a ρ) λd=>bind (el r lc lo ρ) λl=>bind (el r lc b ρ) λu=>slD d l u
  | _=>bad
 ok e R TX h b:=by
  split at b
  ·exact Aj (R.ex h _) (ia R h) (ia R h)
  ·cases b
 runK q _ _ lc e ρ _ k:=match e with
  | .Subscript a (.Slice lo b none _) _=>q.e lc a ρ λd=>jI q lc lo ρ λl=>jI q lc b ρ λu=>bind (slD d l u) k
  | _=>bad
 eq e ρ _ k h:=by
  split
  ·simp only [h.e,uF h,bind_assoc]
  ·first
   | rfl
   | (rename_i c;split;exact (c _ _ _ _ _ rfl).elim;rfl)
def EJ:RuE where
 is _ _ e:=match e with
  | .Subscript _ (.Slice none none (some _) _) _=>true
  | _=>false
 run r _ _ lc e ρ:=match e with
  | .Subscript a (.Slice none none (some st) _) _=>bind (r.e lc a ρ) λx=>bind (r.e lc st ρ) λy=>vF x y
  | _=>bad
 ok e R TX h hi:=by
  split at hi
  ·exact zo (R.ex h _) (R.ex h _)
  ·cases hi
 runK q _ _ lc e ρ _ k:=match e with
  | .Subscript a (.Slice none none (some st) _) _=>q.e lc a ρ λx=>q.e lc st ρ λy=>bind (vF x y) k
  | _=>bad
 eq e ρ _ k h:=by
  split
  ·simp only [h.e,bind_assoc]
  ·first
   | rfl
   | (rename_i b;split;exact (b _ _ _ _ rfl).elim;rfl)
def Dp:RuE where
 is Γ _ e:=match e with
  | .Attribute a g _=>A4 a&&decide (g∈Γ.flds)
  | _=>false
 run r _ _ lc e ρ:=match e with
  | .Attribute a g _=>bind (r.e lc a ρ) (cF g)
  | _=>bad
 ok e R TX h hi:=by
  cases e with
  | Attribute a g p=>
   simp at hi;exact xr (λc xc=>by rw [h.K] at xc ⊢;exact TX.fld g hi.2 c xc) (R.ex h _) hi.1
  | _=>exact d8
 runK q _ _ lc e ρ _ k:=match e with
  | .Attribute a g _=>q.e lc a ρ λd=>bind (cF g d) k
  | _=>bad
 eq e ρ _ k h:=by
  cases e with
  | Attribute a g p=>simp only [h.e,bind_assoc]
  | _=>rfl
def zv:RuE where
 is _ _ e:=match e with
  | .Compare _ [_,_] [_,c] _=>v9 c
  | _=>false
 run r _ _ lc e ρ:=match e with
  | .Compare a [op,f] [b,c] _=>bind (r.e lc a ρ) λx=>bind (r.e lc b ρ) λy=>dt (a9 op) (a9 f) x y (r.e lc c ρ)
  | _=>bad
 ok e R TX h hi:=by
  split at hi
  ·exact qJ (R.ex h _) (R.ex h _) (R.ex h _) (dH h _) (dH h _) (X1 hi)
  ·cases hi
 runK q _ _ lc e ρ _ k:=match e with
  | .Compare a [op,f] [b,c] _=>q.e lc a ρ λx=>q.e lc b ρ λy=>bind (a9 op x y) λd=>bind (asB d) λz=>if z=true then q.e lc c ρ λw=>bind (a9 f y w) k else k (.bl false)
  | _=>bad
 eq e ρ _ k h:=by
  split
  ·simp only [h.e,dt,bind_assoc,p0,i8]
  ·first
   | rfl
   | (rename_i g;split;exact (g _ _ _ _ _ _ rfl).elim;rfl)
def xS:RuT where
 is _ _ e:=match e with
  | .UnaryOp .Not _ _=>true
  | _=>false
 run r _ _ lc e ρ:=match e with
  | .UnaryOp .Not a _=>bind (r.t lc a ρ) λq=>ret (!q)
  | _=>bad
 ok e R TX h hi:=by
  split at hi
  ·exact zQ (R.tx h _)
  ·cases hi
 runK q _ _ lc e ρ _ k:=match e with
  | .UnaryOp .Not a _=>q.t lc a ρ λc=>k (!c)
  | _=>bad
 eq e ρ _ k h:=by
  split
  ·simp only [h.t,bind_assoc,i8]
  ·first
   | rfl
   | (rename_i b;split;exact (b _ _ rfl).elim;rfl)
def CS:RuT where
 is _ _ e:=match e with
  | .BoolOp _ _ _=>true
  | _=>false
 run r _ _ lc e ρ:=match e with
  | .BoolOp .And es _=>qM r lc es ρ
  | .BoolOp .Or es _=>orB r lc es ρ
  | _=>bad
 ok e R TX h hi:=by
  cases e with
  | BoolOp op es p=>cases op;exact (kE R h).pt;exact (nP R h).pt
  | _=>exact iJ
 runK q _ _ lc e ρ _ k:=match e with
  | .BoolOp .And es _=>jh q lc es ρ k
  | .BoolOp .Or es _=>vU q lc es ρ k
  | _=>bad
 eq e ρ _ k h:=by
  cases e with
  | BoolOp op es p=>cases op;exact kP h es ρ k;exact oZ h es ρ k
  | _=>rfl
def DK:RuT where
 is _ _ e:=match e with
  | .Compare _ [_] [b] _=>v9 b
  | _=>false
 run r _ _ lc e ρ:=match e with
  | .Compare a [op] [b] _=>bind (r.e lc a ρ) λx=>bind (r.e lc b ρ) λy=>bind (a9 op x y) asB
  | _=>bad
 ok e R TX h hi:=by
  split at hi
  ·exact yL (R.ex h _) (R.ex h _) (dH h _) (X1 hi)
  ·cases hi
 runK q _ _ lc e ρ _ k:=match e with
  | .Compare a [op] [b] _=>q.e lc a ρ λx=>q.e lc b ρ λy=>bind (a9 op x y) λd=>bind (asB d) k
  | _=>bad
 eq e ρ _ k h:=by
  split
  ·simp only [h.e,bind_assoc]
  ·first
   | rfl
   | (rename_i c;split;exact (c _ _ _ _ rfl).elim;rfl)
def zw:RuT where
 is _ _ e:=D8 e
 run r _ _ lc e ρ:=bind (r.e lc e ρ) h7
 ok e R TX h hi:=oG (R.ex h _) hi
 runK q _ _ lc e ρ _ k:=q.e lc e ρ λd=>bind (h7 d) k
 eq e ρ _ k h:=by simp only [h.e,bind_assoc]
def nZ (Γ:Gm) (x:Str) (p:Nat->Nat->Bool):Bool:=match Γ.gl.lookup x with
 | some (.fn i n)=>p i n
 | _=>false
theorem df (h:nZ Γ x p=true):∃ i n,Γ.gl.lookup x=some (.fn i n)/\p i n=true:=by
 unfold nZ at h;grind
def rFn:RuE where
 is Γ lc e:=match e with
  | .Call (.Name x _) es [] _=>n9 x&&glB lc.sc x&&es.all noStar&&!quiet lc&&nZ Γ x λi n=>decide (es.length=n)&&decide (i∉Γ.qs)
  | _=>false
 run r Γ C lc e ρ:=match e with
  | .Call (.Name x _) es [] _=>(match Γ.gl.lookup x with
   | some (.fn i n)=>bind (u5 r lc es ρ) λds=>if ds.length=n then C i ds else bad
   | _=>bad)
  | _=>bad
 ok {T k r Γ C lc X} e R TX h hi:=by
  split at hi
  ·rename_i x p es pos;simp only [Ep,Gg] at hi;obtain ⟨⟨⟨⟨w,m⟩,c⟩,f⟩,v⟩:=hi;obtain ⟨s,E,D⟩:=p9 w;obtain ⟨i,n,l,b⟩:=df v;simp at b;obtain ⟨a,fd,ps,B,A,y,z,u⟩:=(TX.fn x i n l b.2).ex;have F:FnOk X.prog X.w X.K X.mg X.base (CXd X.prog X.w X.K) k a fd ps (spX X.K T.cl n (C i)):=by rw [h.prog,h.w,h.K,h.mg,h.base];exact A
   have d:PySem.W.keepIn X.K (.ref a)=true:=by rw [h.K];exact z
   have j:Binds X.K fd ps []:=by rw [h.K];exact u
   have o:X.mg x=some (.ref a):=by rw [h.mg];exact y
   show PE X _ (tD X.K T.cl (xOf X) λρ=>(match Γ.gl.lookup x with
    | some (.fn i n)=>bind (u5 r lc es ρ) λds=>if ds.length=n then C i ds else bad
    | _=>bad))
   rw [l]
   match es,c,b with
   | [],_,b=>
    have:=b.1.symm;subst this;exact mW F (h.room0 f) (h.gl m) o d j s
   | e :: es,c,_=>exact nX F (h.room0 f) (h.gl m) o d j (n4 R h c) s c
  ·cases hi
 runK q Γ C lc e ρ _ k:=match e with
  | .Call (.Name x _) es [] _=>(match Γ.gl.lookup x with
   | some (.fn i n)=>y9 q lc es ρ λds=>if ds.length=n then bind (C i ds) k else bad
   | _=>bad)
  | _=>bad
 eq {r q Γ C lc} e ρ _ k h:=by
  split
  ·rename_i x p es pos;cases Γ.gl.lookup x with
   | none=>rfl
   | some g=>cases g <;> first | rfl | simp only [n8 h,bind_assoc,p0,bE]
  ·first
   | rfl
   | (rename_i t;split;exact (t _ _ _ _ rfl).elim;rfl)
def DO:RuE where
 is Γ lc e:=match e with
  | .Call (.Name x _) (a :: es) [] _=>n9 x&&glB lc.sc x&&(a :: es).all noStar&&nZ Γ x λi n=>decide ((a :: es).length=n)&&decide (i∈Γ.qs)
  | _=>false
 run r Γ C lc e ρ:=match e with
  | .Call (.Name x _) es [] _=>(match Γ.gl.lookup x with
   | some (.fn i n)=>nx (bind (u5 r lc es ρ) λds=>if ds.length=n then C i ds else bad)
   | _=>bad)
  | _=>bad
 ok {T k r Γ C lc X} e R TX h hi:=by
  split at hi
  ·rename_i x p j es pos;simp only [Ep] at hi;obtain ⟨⟨⟨G,D⟩,m⟩,B⟩:=hi;obtain ⟨N,P,O⟩:=p9 G;obtain ⟨i,n,o,l⟩:=df B;simp at l;obtain ⟨a,fd,ps,u,M,J,K,w⟩:=(TX.fnq x i n o l.2).ex;have d:FnOk X.prog X.w X.K X.mg X.base (CXq true) k a fd ps (spD X.K T.cl n (C i)):=by rw [h.prog,h.w,h.K,h.mg,h.base];exact M
   have F:FnOk X.prog X.w X.K X.mg X.base (CXq (quiet lc)) k a fd ps (spD X.K T.cl n (C i)):=by
    cases quiet lc with
    | true=>exact d
    | false=>exact ⟨d.len,λA b s H c us vs Q E y j f r h=>d.run A b s H c us vs Q E y.any j f r h⟩
   have v:PySem.W.keepIn X.K (.ref a)=true:=by rw [h.K];exact K
   have f:Binds X.K fd ps []:=by rw [h.K];exact w
   have I:X.mg x=some (.ref a):=by rw [h.mg];exact J
   show PE X _ (tD X.K T.cl (xOf X) λρ=>(match Γ.gl.lookup x with
    | some (.fn i n)=>nx (bind (u5 r lc (j :: es) ρ) λds=>if ds.length=n then C i ds else bad)
    | _=>bad))
   rw [o];have:=wA (p:=p) (pos:=pos) u F h.room (h.gl D) I v f Aq (PA.x0 (n4 R h m)) N m l.1;exact PE.imp this λσ H Q ⟨μ,S,ρ,L,z,p⟩=>⟨μ,S,ρ,L,z,p.nx⟩
  ·cases hi
 runK q Γ C lc e ρ _ k:=match e with
  | .Call (.Name x _) es [] _=>(match Γ.gl.lookup x with
   | some (.fn i n)=>bind (nx (y9 q lc es ρ λds=>if ds.length=n then C i ds else bad)) k
   | _=>bad)
  | _=>bad
 eq {r q Γ C lc} e ρ _ k h:=by
  split
  ·rename_i x p es pos;cases Γ.gl.lookup x with
   | none=>rfl
   | some g=>cases g <;> first | rfl | simp only [n8 h]
  ·first
   | rfl
   | (rename_i t;split;exact (t _ _ _ _ rfl).elim;rfl)
def kZ (r:Ev) (Γ:Gm) (a:Lc) (x:Str) (es:List Expr) (ρ:Env):M D:=match Γ.gl.lookup x with
 | some (.err c fs)=>(match fs with
  | []=>bind (u5 r a es ρ) (nk c)
  | [g]=>bind (u5 r a es ρ) (P2 c [g])
  | [g,b]=>bind (u5 r a es ρ) (P2 c [g,b])
  | _=>bad)
 | _=>bad
def tu (q:EvK) (Γ:Gm) (a:Lc) (x:Str) (es:List Expr) (ρ:Env) {b:Type} (k:D->M b):M b:=match Γ.gl.lookup x with
 | some (.err c fs)=>(match fs with
  | []=>y9 q a es ρ λds=>bind (nk c ds) k
  | [g]=>y9 q a es ρ λds=>bind (P2 c [g] ds) k
  | [g,d]=>y9 q a es ρ λds=>bind (P2 c [g,d] ds) k
  | _=>bad)
 | _=>bad
theorem oM (h:EqK r q) (x:Str) (es:List Expr) (ρ:Env) {α:Type} (k:D->M α):tu q Γ lc x es ρ k=bind (kZ r Γ lc x es ρ) k:=by
 unfold tu kZ;cases Γ.gl.lookup x with
 | none=>rfl
 | some g=>
  cases g with
  | err c fs=>
   match fs with
   | []=>simp only [n8 h,bind_assoc]
   | [g]=>simp only [n8 h,bind_assoc]
   | [g,g2]=>simp only [n8 h,bind_assoc]
   | _ :: _ :: _ :: _=>rfl
  | _=>rfl
theorem jM {C:Cf} {lc:Lc} {X:Cx} {x:Str} {p pos:Pos} {e:Expr} {es:List Expr} (R:EvOk T k r) (TX:TxOk T Γ k C) (h:CxOk T k lc X) (c1:n9 x=true) (c2:glB lc.sc x=true) (c3:(e :: es).all noStar=true) (c4:quiet lc=false) :
  PE X (.Call (.Name x p) (e :: es) [] pos) (tDf X.K T.cl (xOf X) (kZ r Γ lc x (e :: es))):=by
 have bd:PE X (.Call (.Name x p) (e :: es) [] pos) (tDf X.K T.cl (xOf X) λρ=>bad):=λ_ _ _ _ _ _ ⟨_,_,_,_,_,z⟩=>z.elim;obtain ⟨n1,n2,n3⟩:=p9 c1;have ha:=n4 R h c3;unfold kZ;cases e1:Γ.gl.lookup x with
 | none=>exact bd
 | some g=>
  cases g with
  | val d=>exact bd
  | fn i n=>exact bd
  | dct kvs=>exact bd
  | err c fs=>
   obtain ⟨ea,na⟩:=TX.err x c fs e1;obtain ⟨f,fd,ps,g1,g2,g3,g4⟩:=ea.ex;have xc:XC X.K (T.cl c):=by rw [h.K];exact ea.xc
   have hm:X.mg x=some (.ref (T.cl c)):=by rw [h.mg];exact ea.mg_
   have hr:=(h.room0 c4).mono TX.k3;have hi:PySem.W.findIn X.K (.ref (T.cl c)) "__init__" = some (some (.ref f)):=by rw [h.K];exact g1
   have hf:PySem.W.isFn X.K (.ref f)=true:=by rw [h.K];exact g2
   have hb:Binds X.K fd ps []:=by rw [h.K];exact g3
   match fs,g4,na with
   | [],g4,na=>exact nt xc hi hf (by rw [h.prog,h.w,h.K,h.mg,h.base];exact g4) hr (h.gl c2) hm hb X7 ha n1 c3
   | [g],g4,na=>exact pJ xc (by rw [h.K];exact na g (by simp)) hi hf (by rw [h.prog,h.w,h.K,h.mg,h.base];exact g4) hr (h.gl c2) hm hb X7 ha n1 c3
   | [g,g'],g4,na=>exact oX xc (by rw [h.K];exact na g (by simp)) (by rw [h.K];exact na g' (by simp)) hi hf (by rw [h.prog,h.w,h.K,h.mg,h.base];exact g4) hr (h.gl c2) hm hb X7 ha n1 c3
   | _ :: _ :: _ :: _,g4,_=>exact g4.elim
def uO (Γ:Gm) (x:Str):Bool:=match Γ.gl.lookup x with
 | some (.err _ _)=>true
 | _=>false
def EG:RuE where
 is Γ lc e:=match e with
  | .Call (.Name x _) (a :: es) [] _=>n9 x&&glB lc.sc x&&(a :: es).all noStar&&!quiet lc&&uO Γ x
  | _=>false
 run r Γ C lc e ρ:=match e with
  | .Call (.Name x _) (a :: es) [] _=>kZ r Γ lc x (a :: es) ρ
  | _=>bad
 ok {T k r Γ C lc X} e R TX h hi:=by
  split at hi
  ·simp only [Ep,Gg] at hi;exact PE.unf (jM R TX h hi.1.1.1.1 hi.1.1.1.2 hi.1.1.2 hi.1.2)
  ·cases hi
 runK q Γ C lc e ρ _ k:=match e with
  | .Call (.Name x _) (a :: es) [] _=>tu q Γ lc x (a :: es) ρ k
  | _=>bad
 eq {r q Γ C lc} e ρ _ k h:=by
  split
  ·exact oM h _ _ ρ k
  ·first
   | rfl
   | (rename_i b;split;exact (b _ _ _ _ _ rfl).elim;rfl)
def U7 (Γ:Gm) (b:Lc) (x:Str) (a:Expr):Bool:=decide (x = "isinstance")&&(Γ.gl.lookup ("isinstance" : Str)).isNone&&glB b.sc "isinstance" && noStar a
theorem P5 (h:U7 Γ lc x a=true):x = "isinstance"/\Γ.gl.lookup ("isinstance" : Str)=none/\glB lc.sc "isinstance" = true/\noStar a=true:=by
 simp only [U7,Ep,Fh,FQ] at h;grind
def Bn:RuE where
 is Γ lc e:=match e with
  | .Call (.Name x _) [a,.Name y _] [] _=>U7 Γ lc x a&&n9 y&&glB lc.sc y&&uO Γ y
  | _=>false
 run r Γ C lc e ρ:=match e with
  | .Call (.Name _ _) [a,.Name y _] [] _=>(match Γ.gl.lookup y with
   | some (.err c0 _)=>bind (r.e lc a ρ) (w6 λc=>Γ.sub c c0)
   | _=>bad)
  | _=>bad
 ok {T k r Γ C lc X} e R TX h hi:=by
  split at hi
  ·rename_i x p a y q pos;simp at hi;obtain ⟨⟨⟨c0,c1⟩,c2⟩,c3⟩:=hi;obtain ⟨rfl,i1,i2,i3⟩:=P5 c0;obtain ⟨n1,n2,n3⟩:=p9 c1;show PE X _ (tD X.K T.cl (xOf X) λρ=>(match Γ.gl.lookup y with
    | some (.err c0 _)=>bind (r.e lc a ρ) (w6 λc=>Γ.sub c c0)
    | _=>bad))
   cases e1:Γ.gl.lookup y with
   | none=>exact d8
   | some g=>
    cases g with
    | err c0 fs=>exact vW (λc xc=>by rw [h.K] at xc ⊢;exact TX.sub y c c0 fs e1 xc) (R.ex h a) (h.gl i2) (TX.none h (by decide) i1) (h.gl c2) (by rw [h.mg];exact (TX.err y c0 fs e1).1.mg_) n1 i3
    | val d=>exact d8
    | fn i n=>exact d8
    | dct kvs=>exact d8
  ·cases hi
 runK q Γ C lc e ρ _ k:=match e with
  | .Call (.Name _ _) [a,.Name y _] [] _=>(match Γ.gl.lookup y with
   | some (.err c0 _)=>q.e lc a ρ λd=>bind (w6 (λc=>Γ.sub c c0) d) k
   | _=>bad)
  | _=>bad
 eq {r q Γ C lc} e ρ _ k h:=by
  split
  ·rename_i x p a y q pos;cases Γ.gl.lookup y with
   | none=>rfl
   | some g=>cases g <;> first | rfl | simp only [h.e,bind_assoc]
  ·first
   | rfl
   | (rename_i hn;split;exact (hn _ _ _ _ _ _ rfl).elim;rfl)
def btys:List (Str×String):=[("int","int"),("bool","bool"),("str","str"),("tuple","tuple"),("list","list"),("dict","dict"),("ValueError","ValueError")]
theorem tI:∀ {x:Str} {t:String},btys.lookup x=some t->bootBuiltins x=some (.type t)/\x∈bnames/\(t∈tys\/t = "ValueError"):=by
 intro x t e;have:∀ y∈btys,bootBuiltins y.1=some (.type y.2)/\y.1∈bnames/\(y.2∈tys\/y.2 = "ValueError"):=by
  intro y a;simp only [btys,Ez,Ge,Ia] at a;rcases a with rfl | rfl | rfl | rfl | rfl | rfl | rfl <;> exact ⟨rfl,by decide,by decide⟩
 exact this _ (L2.mem_of_lookup e)
def AR:RuE where
 is Γ lc e:=match e with
  | .Call (.Name x _) [a,.Name y _] [] _=>U7 Γ lc x a&&n9 y&&glB lc.sc y&&(Γ.gl.lookup y).isNone
  | _=>false
 run r Γ C lc e ρ:=match e with
  | .Call (.Name _ _) [a,.Name y _] [] _=>(match btys.lookup y with
   | some T=>bind (r.e lc a ρ) λd=>if T∈tys then J2 T (λ_=>false) d else w6 (λ_=>true) d
   | none=>bad)
  | _=>bad
 ok {T k r Γ C lc X} e R TX h hi:=by
  split at hi
  ·rename_i x p a y q pos;simp only [Ep,FQ] at hi;obtain ⟨⟨⟨c0,w⟩,v⟩,l⟩:=hi;obtain ⟨rfl,B,s,i⟩:=P5 c0;obtain ⟨m,D,n⟩:=p9 w;have j:=TX.none h (by decide) B;show PE X _ (tD X.K T.cl (xOf X) λρ=>(match btys.lookup y with
    | some T=>bind (r.e lc a ρ) λd=>if T∈tys then J2 T (λ_=>false) d else w6 (λ_=>true) d
    | none=>bad))
   cases A:btys.lookup y with
   | none=>exact d8
   | some t=>
    obtain ⟨o,u,f⟩:=tI A;by_cases g:t∈tys
    ·have:=jV (pos:=pos) (p:=p) (q:=q) (.inl g) (λc b=>by rw [h.K] at b ⊢;exact TX.subT c b t g) (R.ex h a) (h.gl s) j (h.gl v) (TX.none h u l) o n m i;simp only [if_pos g] at this ⊢;exact this
    ·rcases f with f | f
     ·exact absurd f g
     ·subst f;have:=jV (pos:=pos) (p:=p) (q:=q) (.inr rfl) (λc b=>by rw [h.K] at b ⊢;exact TX.subV c b) (R.ex h a) (h.gl s) j (h.gl v) (TX.none h u l) o n m i;exact this
  ·cases hi
 runK q Γ C lc e ρ _ k:=match e with
  | .Call (.Name _ _) [a,.Name y _] [] _=>(match btys.lookup y with
   | some T=>q.e lc a ρ λd=>if T∈tys then bind (J2 T (λ_=>false) d) k else bind (w6 (λ_=>true) d) k
   | none=>bad)
  | _=>bad
 eq {r q Γ C lc} e ρ _ k h:=by
  split
  ·rename_i x p a y q pos;cases btys.lookup y with
   | none=>rfl
   | some T=>simp only [h.e,bind_assoc,p0]
  ·first
   | rfl
   | (rename_i z;split;exact (z _ _ _ _ _ _ rfl).elim;rfl)
def bW (Γ:Gm) (a:Lc):List Expr->Option (List Nat)
 | []=>some []
 | .Name y _ :: ys=>if n9 y=true/\glB a.sc y=true then (match Γ.gl.lookup y,bW Γ a ys with
  | some (.err c0 _),some cs=>some (c0 :: cs)
  | _,_=>none) else none
 | _=>none
theorem iz {Γ:Gm} {C:Cf} {lc:Lc} {X:Cx} (TX:TxOk T Γ k C) (h:CxOk T k lc X):∀ {ys:List Expr} {cs:List Nat},bW Γ lc ys=some cs->NamesC X T.cl ys cs/\∀ c0∈cs,∀ c,XC X.K (T.cl c)->PySem.W.kitOne X.K (.ref (T.cl c)) (.ref (T.cl c0))=some (Γ.sub c c0)
 | [],cs,e=>by cases e;exact ⟨.nil,λc hc=>(by cases hc)⟩
 | y :: ys,cs,e=>by
  cases y with
  | Name y p=>
   simp only [bW] at e;by_cases hc:n9 y=true/\glB lc.sc y=true
   ·simp only [if_pos hc] at e;obtain ⟨n1,n2,n3⟩:=p9 hc.1;cases e1:Γ.gl.lookup y with
    | none=>rw [e1] at e;cases e
    | some g=>
     cases g with
     | val d=>rw [e1] at e;cases e
     | fn i n=>rw [e1] at e;cases e
     | dct kvs=>rw [e1] at e;cases e
     | err c0 fs=>
      cases e2:bW Γ lc ys with
      | none=>grind
      | some cs'=>
       rw [e1,e2] at e;cases e;obtain ⟨i1,i2⟩:=iz TX h e2;refine ⟨.cons (h.gl hc.2) (by rw [h.mg];exact (TX.err y c0 fs e1).1.mg_) n1 i1,λc1 hc1 c xc=>?_⟩;rcases Ez.mp hc1 with rfl | hc1
       ·rw [h.K] at xc ⊢;exact TX.sub y c _ fs e1 xc
       ·exact i2 c1 hc1 c xc
   ·grind
  | _=>simp only [bW] at e;cases e
def AJ:RuE where
 is Γ lc e:=match e with
  | .Call (.Name x _) [a,.Tuple ys _ _] [] _=>U7 Γ lc x a&&(bW Γ lc ys).isSome&&decide (ys.length<=1000)
  | _=>false
 run r Γ C lc e ρ:=match e with
  | .Call (.Name _ _) [a,.Tuple ys _ _] [] _=>(match bW Γ lc ys with
   | some cs=>if cs.length<=1000 then bind (r.e lc a ρ) (w6 λc=>cs.any λc0=>Γ.sub c c0) else bad
   | none=>bad)
  | _=>bad
 ok {T k r Γ C lc X} e R TX h hi:=by
  split at hi
  ·rename_i x p a ys n q pos;simp at hi;obtain ⟨⟨c0,o⟩,s⟩:=hi;obtain ⟨rfl,m,l,f⟩:=P5 c0;show PE X _ (tD X.K T.cl (xOf X) λρ=>(match bW Γ lc ys with
    | some cs=>if cs.length<=1000 then bind (r.e lc a ρ) (w6 λc=>cs.any λc0=>Γ.sub c c0) else bad
    | none=>bad))
   cases e:bW Γ lc ys with
   | none=>exact d8
   | some cs=>
    by_cases b:cs.length<=1000
    ·simp only [if_pos b];obtain ⟨j,i⟩:=iz TX h e;exact lm i b (R.ex h a) (h.gl l) (TX.none h (by decide) m) j f
    ·simp only [if_neg b];exact d8
  ·cases hi
 runK q Γ C lc e ρ _ k:=match e with
  | .Call (.Name _ _) [a,.Tuple ys _ _] [] _=>(match bW Γ lc ys with
   | some cs=>if cs.length<=1000 then q.e lc a ρ λd=>bind (w6 (λc=>cs.any λc0=>Γ.sub c c0) d) k else bad
   | none=>bad)
  | _=>bad
 eq {r q Γ C lc} e ρ _ k h:=by
  split
  ·rename_i x p a ys n q pos;cases bW Γ lc ys with
   | none=>rfl
   | some cs=>simp only [h.e,bind_assoc,p0,bE]
  ·first
   | rfl
   | (rename_i g;split;exact (g _ _ _ _ _ _ _ rfl).elim;rfl)
def kI (x:Str) (c:Bool) (Γ:Gm) (b:Lc) (e:Expr):Bool:=match e with
 | .Call (.Name f _) (a :: es) [] _=>decide (f=x)&&(a :: es).all noStar&&(Γ.gl.lookup x).isNone&&glB b.sc x&&!(c&&quiet b)
 | _=>false
def vr (g:List D->M D) (r:Ev) (b:Lc) (e:Expr) (ρ:Env):M D:=match e with
 | .Call (.Name _ _) (a :: es) [] _=>bind (u5 r b (a :: es) ρ) g
 | _=>bad
def uB (g:List D->M D) (q:EvK) (c:Lc) (e:Expr) (ρ:Env) {b:Type} (k:D->M b):M b:=match e with
 | .Call (.Name _ _) (a :: es) [] _=>y9 q c (a :: es) ρ λds=>bind (g ds) k
 | _=>bad
theorem nh (g:List D->M D) {r:Ev} {q:EvK} {a:Lc} (e:Expr) (ρ:Env) {c:Type} (k:D->M c) (h:EqK r q):uB g q a e ρ k=bind (vr g r a e ρ) k:=by
 unfold uB vr;split
 ·simp only [n8 h,bind_assoc]
 ·first
  | rfl
  | (rename_i b;split;exact (b _ _ _ _ _ rfl).elim;rfl)
theorem fY {d:Bool} {Γ:Gm} {b:Lc} {e:Expr} (h:kI x d Γ b e=true):∃ p a es pos,e=.Call (.Name x p) (a :: es) [] pos/\(a :: es).all noStar=true/\Γ.gl.lookup x=none/\glB b.sc x=true/\(d=true->quiet b=false):=by
 unfold kI at h;split at h
 ·simp only [Ep,Fh,FQ,Gg] at h;obtain ⟨⟨⟨⟨rfl,f⟩,g⟩,i⟩,c⟩:=h;refine ⟨_,_,_,_,rfl,f,g,i,λz=>?_⟩;rw [z] at c;simpa using c
 ·cases h
def rBf (x:Str) (id:String) (d:Bool) (g:List D->M D) (c:x∈bnames/\x ≠ "__name__"/\(x==("__debug__" : Str))=false) (m:bootBuiltins x=some (.builtin id))
  (j:∀ {T:Tx} {k:Nat} {b:Lc} {X:Cx} {cl:Nat->Addr} {xe:Addr->Hp->Prop},CxOk T k b X->(d=true->X.calm=true)->i9 X (.builtin id) (rPs X.K cl xe g)):RuE where
 is:=kI x d
 run r _ _ b e ρ:=vr g r b e ρ
 ok {T k r Γ C b X} e R TX h hi:=by
  obtain ⟨p,a,es,pos,rfl,f,i,l,n⟩:=fY hi;exact oj (j h λz=>h.calm (n z)) (h.gl l) (TX.none h c.1 i) m (n4 R h f) c.2.1 c.2.2 f
 runK q _ _ b e ρ _ k:=uB g q b e ρ k
 eq e ρ _ k h:=nh g e ρ k h
def rBt (x:Str) (id:String) (d:Bool) (g:List D->M D) (c:x∈bnames/\x ≠ "__name__"/\(x==("__debug__" : Str))=false) (m:bootBuiltins x=some (.type id))
  (j:∀ {T:Tx} {k:Nat} {b:Lc} {X:Cx} {cl:Nat->Addr} {xe:Addr->Hp->Prop},CxOk T k b X->(d=true->X.calm=true)->i9 X (.type id) (rPs X.K cl xe g)):RuE where
 is:=kI x d
 run r _ _ b e ρ:=vr g r b e ρ
 ok {T k r Γ C b X} e R TX h hi:=by
  obtain ⟨p,a,es,pos,rfl,f,i,l,n⟩:=fY hi;exact pX (j h λz=>h.calm (n z)) (h.gl l) (TX.none h c.1 i) m (n4 R h f) c.2.1 c.2.2 f
 runK q _ _ b e ρ _ k:=uB g q b e ρ k
 eq e ρ _ k h:=nh g e ρ k h
def EM:RuE:=rBf "len" "len" false (one p8) (by decide) PySem.boot_len λ_ _=>BD
def zk:RuE:=rBt "tuple" "tuple" false (one u6) (by decide) rfl λ_ _=>vB
def CG:RuE:=rBt "list" "list" false (one fZ) (by decide) rfl λ_ _=>xk
def Bp:RuE:=rBf "repr" "repr" false (one bV) (by decide) rfl λh _=>zN h.room.gd h.u64
def sJ:RuE:=rBf "sorted" "sorted" false (one M6) (by decide) rfl λ_ _=>rL
def EN:RuE:=rBf "all" "all" true (one lq) (by decide) rfl λ_ a=>By (a rfl)
def EH:RuE:=rBt "int" "int" false (one lK) (by decide) rfl λ_ _=>Bq
def EI:RuE:=rBt "str" "str" false (one tf) (by decide) rfl λ_ _=>CY
def tM:RuE where
 is Γ lc e:=match e with
  | .Call (.Name x _) [.Call (.Name y _) [a] [] _] [] _=>decide (x = "len")&&decide (y = "set")&&(Γ.gl.lookup ("len" : Str)).isNone&&(Γ.gl.lookup ("set" : Str)).isNone&&glB lc.sc "len" && glB lc.sc "set" && !quiet lc&&noStar a
  | _=>false
 run r _ _ lc e ρ:=match e with
  | .Call (.Name _ _) [.Call (.Name _ _) [a] [] _] [] _=>bind (r.e lc a ρ) G5
  | _=>bad
 ok {T k r Γ C lc X} e R TX h hi:=by
  split at hi
  ·simp only [Ep,Fh,FQ,Gg] at hi;obtain ⟨⟨⟨⟨⟨⟨⟨rfl,rfl⟩,l⟩,b⟩,g⟩,j⟩,i⟩,f⟩:=hi;exact gE (h.calm i) (h.gl g) (TX.none h (by decide) l) (h.gl j) (TX.none h (by decide) b) (R.ex h _) f
  ·cases hi
 runK q _ _ lc e ρ _ k:=match e with
  | .Call (.Name _ _) [.Call (.Name _ _) [a] [] _] [] _=>q.e lc a ρ λd=>bind (G5 d) k
  | _=>bad
 eq e ρ _ k h:=by
  split
  ·simp only [h.e,bind_assoc]
  ·first
   | rfl
   | (rename_i c;split;exact (c _ _ _ _ _ _ _ rfl).elim;rfl)
def tV (n:Nat) (Γ:Gm) (a:Lc) (e:Expr):Bool:=match e with
 | .Call (.Name f _) es [] _=>decide (f = "range")&&decide (es.length=n)&&es.all noStar&&(Γ.gl.lookup ("range" : Str)).isNone&&glB a.sc "range"
 | _=>false
def rgE (n:Nat) (r:Ev) (a:Lc) (e:Expr) (ρ:Env):M (Src×Nat):=match e with
 | .Call (.Name _ _) es [] _=>bind (u5 r a es ρ) λds=>if ds.length=n then j4 ds else bad
 | _=>bad
def rgK (n:Nat) (q:EvK) (b:Lc) (e:Expr) (ρ:Env) {a:Type} (k:Src×Nat->M a):M a:=match e with
 | .Call (.Name _ _) es [] _=>y9 q b es ρ λds=>if ds.length=n then bind (j4 ds) k else bad
 | _=>bad
theorem wj (n:Nat) {r:Ev} {q:EvK} {a:Lc} (e:Expr) (ρ:Env) {b:Type} (k:Src×Nat->M b) (h:EqK r q):rgK n q a e ρ k=bind (rgE n r a e ρ) k:=by
 unfold rgK rgE;split
 ·simp only [n8 h,bind_assoc,p0,bE]
 ·first
  | rfl
  | (rename_i c;split;exact (c _ _ _ _ rfl).elim;rfl)
def ve:RuI where
 is Γ lc _ e:=tV 1 Γ lc e
 run r _ _ lc e ρ:=rgE 1 r lc e ρ
 ok {T k r Γ C lc X} g e R TX h hi:=by
  unfold tV at hi;split at hi
  ·rename_i f p es pos;simp only [Ep,Fh,FQ] at hi;obtain ⟨⟨⟨⟨rfl,c⟩,b⟩,i⟩,d⟩:=hi
   match es,c,b with
   | [a],_,b=>exact gj (h.gl d) (TX.none h (by decide) i) (n4 R h b) (by simpa using b)
  ·cases hi
 runK q _ _ lc e ρ _ k:=rgK 1 q lc e ρ k
 eq e ρ _ k h:=wj 1 e ρ k h
def vD:RuI where
 is Γ lc _ e:=tV 2 Γ lc e
 run r _ _ lc e ρ:=rgE 2 r lc e ρ
 ok {T k r Γ C lc X} g e R TX h hi:=by
  unfold tV at hi;split at hi
  ·rename_i f p es pos;simp only [Ep,Fh,FQ] at hi;obtain ⟨⟨⟨⟨rfl,i⟩,d⟩,j⟩,l⟩:=hi
   match es,i,d with
   | [a,b],_,d=>
    have c:noStar a=true/\noStar b=true:=by simpa using d
    exact iS (h.gl l) (TX.none h (by decide) j) (n4 R h d) c.1 c.2
  ·cases hi
 runK q _ _ lc e ρ _ k:=rgK 2 q lc e ρ k
 eq e ρ _ k h:=wj 2 e ρ k h
def AU:RuI where
 is Γ lc g e:=match g,e with
  | .Tuple _ _ _,.Call (.Name f _) [a] [] _=>decide (f = "enumerate")&&noStar a&&(Γ.gl.lookup ("enumerate" : Str)).isNone&&glB lc.sc "enumerate"
  | _,_=>false
 run r _ _ lc e ρ:=match e with
  | .Call (.Name _ _) [a] [] _=>bind (u5 r lc [a] ρ) λds=>(match ds with
   | [d]=>Y1 d
   | _=>bad)
  | _=>bad
 ok {T k r Γ C lc X} g e R TX h hi:=by
  split at hi
  ·simp only [Ep,Fh,FQ] at hi;obtain ⟨⟨⟨rfl,b⟩,c⟩,j⟩:=hi;exact oE (h.gl j) (TX.none h (by decide) c) (n4 R h (by simpa using b)) b
  ·cases hi
 runK q _ _ lc e ρ _ k:=match e with
  | .Call (.Name _ _) [a] [] _=>y9 q lc [a] ρ λds=>(match ds with
   | [d]=>bind (Y1 d) k
   | _=>bad)
  | _=>bad
 eq e ρ _ k h:=by
  split
  ·simp only [n8 h,bind_assoc];congr;funext ds
   match ds with
   | []=>rfl
   | [_]=>rfl
   | _ :: _ :: _=>rfl
  ·first
   | rfl
   | (rename_i i;split;exact (i _ _ _ _ rfl).elim;rfl)
def Dq:RuI where
 is _ _ _ _:=true
 run r _ _ lc e ρ:=bind (r.e lc e ρ) O1
 ok g e R TX h hi:=uA (R.ex h e)
 runK q _ _ lc e ρ _ k:=q.e lc e ρ λd=>bind (O1 d) k
 eq e ρ _ k h:=by simp only [h.e,bind_assoc]
def iG (a b:Scope):Scope:={ a with names:=a.names.map λ(n,k)=>if (k==.free&&b.kind==.function&&b.names.lookup n==some .cell) then (n,NameKind.cell) else (n,k) }
theorem mN (a:Scope) (b:PySem.Env):relabel a b=iG a b.scope:=rfl
def q5 (a:Scope):List Str:=(a.names.filter λy=>y.2==.free).map (·.1)
def B8 (b:Lc) (a:Scope) (xs:List Str):Bool:=
 decide (a.kind=.function)&&a.names.all (λy=>decide (y.2≠.cell))&&a.names.all (λy=>decide (y.2=.local->a.names.lookup y.1=some .local))
  && a.names.all (λy=>decide (y.2=.free->a.names.lookup y.1=some .free/\(b.sc.names.lookup y.1=some .cell\/b.sc.names.lookup y.1=some .free)))
  && (q5 a).all (λz=>decide (a.names.lookup z=some .free))&&decide ((xs++q5 a).Nodup)&&xs.all (λx=>decide (a.names.lookup x=some .local))&&!quiet b
theorem fg:∀ {xs:List α} {ys:List β},f7 f xs=some ys->ys.length=xs.length
 | [],_,e=>by cases e;rfl
 | x :: xs,ys,e=>by
  simp only [f7] at e;cases a:f x with
  | none=>rw [a] at e;cases e
  | some y=>
   cases b:f7 f xs with
   | none=>grind
   | some c=>rw [a,b] at e;cases e;simp [fg b]
theorem fv:∀ {xs:List α} {ys:List β} {j:Nat} {y:β},f7 f xs=some ys->ys[j]?=some y->∃ x,xs[j]?=some x/\f x=some y
 | [],_,_,_,e,h=>by cases e;simp at h
 | x :: xs,ys,j,y,e,h=>by
  simp only [f7] at e;cases a:f x with
  | none=>rw [a] at e;cases e
  | some z=>
   cases b:f7 f xs with
   | none=>grind
   | some c=>
    rw [a,b] at e;cases e;cases j with
    | zero=>grind
    | succ j=>simpa using fv b (by simpa using h)
def k7 (b:Lc) (a:Scope) (xs:List Str):Lc:=⟨xs++q5 a,iG a b.sc,false,[]⟩
def testsE (r:Ev) (a:Lc) (ifs:List Expr) (ρ:Env):M Bool:=match ifs with
 | []=>ret true
 | [c]=>r.t a c ρ
 | _=>bad
def testsK (q:EvK) (a:Lc) (ifs:List Expr) (ρ:Env):M Bool:=match ifs with
 | []=>ret true
 | [c]=>q.t a c ρ ret
 | _=>bad
theorem tests_eq (h:EqK r q) (ifs:List Expr) (ρ:Env):testsK q lc ifs ρ=testsE r lc ifs ρ:=by
 match ifs with
 | []=>rfl
 | [c]=>simp only [testsK,testsE,h.t,A1]
 | _ :: _ :: _=>rfl
section
variable {T:Tx} {k:Nat} {r:Ev} {q:EvK} {Γ:Gm} {C:Cf} {lc:Lc} {X:Cx}
theorem tests_ok (R:EvOk T k r) (h:CxOk T k lc X) {ifs:List Expr}:PTL X ifs (tBo X.K T.cl (xOf X) (testsE r lc ifs)):=by
 match ifs with
 | []=>exact ll
 | [c]=>exact vw (R.tx h c)
 | _ :: _ :: _=>exact λ_ _ _ _ _ _ ⟨_,_,_,_,_,p⟩=>p.elim
theorem M3 (h:CxOk T k lc X) {a:Scope} {xs:List Str} {caps:List Nat} (f:B8 lc a xs=true) (c:f7 (f8 lc.N) (q5 a)=some caps):CompText X.N X.env (xs++q5 a) xs.length caps a/\(xs++q5 a).Nodup/\(∀ x∈xs,a.names.lookup x=some .local)/\quiet lc=false/\a.kind=.function:=by
 simp only [B8,Ep,Fh,Fi,Gg] at f;obtain ⟨⟨⟨⟨⟨⟨⟨b,s⟩,o⟩,r⟩,l⟩,n⟩,t⟩,p⟩:=f;refine ⟨⟨b,s,o,λy m q=>?_,λj i e=>?_,?_⟩,n,t,p,b⟩
 ·rw [h.sc];exact r y m q
 ·obtain ⟨z,d,g⟩:=fv c e;refine ⟨z,by rw [h.N];exact s0 g,?_,l z (Fk d)⟩;rw [FF (by omega)];simpa using d
 ·simp [fg c,Nat.add_comm]
theorem B3 (h:CxOk T k lc X) (b:quiet lc=false) {a:Scope} {xs:List Str} (d:a.kind=.function) (e:(xs++q5 a).Nodup) (pins:List (Addr×Obj)) (C:Addr) (c:List Addr) (s:Shared) (H:Hp):CxOk T k (k7 lc a xs) (c8 X pins (xs++q5 a) a C c s H):=
 ⟨h.prog,h.w,h.K,h.mg,h.base,rfl,e,by show relabel a X.env=iG a lc.sc;rw [mN,h.sc],λ_=>h.calm b,(by have:=h.room;rw [b] at this;exact this),PassesOwn.never,rfl,d,λz=>Bool.noConfusion z⟩
end
def f9 (src:Src) (t:D->M Bool) (f:D->M D):Nat->Nat->List D->M (List D)
 | 0,_,_=>bad
 | m+1,i,es=>λS=>match src i S with
  | none=>.bad
  | some none=>.ok es S
  | some (some d)=>bind (t d) (λb=>if b=true then bind (f d) (λy=>if es.length<sizeLine then f9 src t f m (i+1) (es++[y]) else bad) else f9 src t f m (i+1) es) S
theorem bN (src:Src) (t:Env->M Bool) (f:Env->M D) (mk:D->Env):∀ m i es,u0 src t f mk m i es=f9 src (λd=>t (mk d)) (λd=>f (mk d)) m i es
 | 0,_,_=>rfl
 | m+1,i,es=>by
  funext S;simp only [u0,f9,bN src t f mk m]
  all_goals (cases src i S with
  | none=>rfl
  | some o=>cases o <;> rfl)
def E6 (r:Ev) (c:Lc) (d:Expr) (x:Str) (e:Pos) (b:Expr) (ifs:List Expr) (a:Scope) (ρ:Env):M (List D):=match f7 (f8 c.N) (q5 a) with
 | some caps=>nx (cM caps (r.i c (.Name x e) b) (testsE r (k7 c a [x]) ifs) (r.e (k7 c a [x]) d) ρ)
 | none=>bad
def aR (q:EvK) (c:Lc) (e:Expr) (x:Str) (h:Pos) (b:Expr) (ifs:List Expr) (a:Scope) (ρ:Env) {f:Type} (k:List D->M f):M f:=match f7 (f8 c.N) (q5 a) with
 | some caps=>bind (nx (q.i c (.Name x h) b ρ λg=>f9 g.1 (λd=>testsK q (k7 c a [x]) ifs (some d :: E7 caps ρ)) (λd=>q.e (k7 c a [x]) e (some d :: E7 caps ρ) ret) g.2 0 [])) k
 | none=>bad
theorem bh (h:EqK r q) (c:Expr) (x:Str) (d:Pos) (b:Expr) (ifs:List Expr) (a:Scope) (ρ:Env) {e:Type} (k:List D->M e):aR q lc c x d b ifs a ρ k=bind (E6 r lc c x d b ifs a ρ) k:=by
 unfold aR E6;cases f7 (f8 lc.N) (q5 a) with
 | none=>rfl
 | some caps=>simp only [h.i,h.e,A1,tests_eq h,cM,bN]
theorem rZ (R:EvOk T k r) (h:CxOk T k lc X) {c:Expr} {x:Str} {g pos:Pos} {b:Expr} {ifs:List Expr} {a:Scope} (m:B8 lc a [x]=true) (o:v9 b=true) :
  PE X (.ListComp c [⟨.Name x g,b,ifs,0⟩] a pos) (tD X.K T.cl (xOf X) λρ=>bind (E6 r lc c x g b ifs a ρ) λds=>ret (.lst ds)):=by
 unfold E6;cases l:f7 (f8 lc.N) (q5 a) with
 | none=>exact d8
 | some caps=>
  obtain ⟨n,e,j,f,i⟩:=M3 h m l;refine ij (ey n (h.calm f) e rfl (j x (by simp)) (PI.x0 (R.ix h _ _)) (λpins C d s H=>?_) (λpins C d s H=>?_) o)
  ·exact PTL.x0 (tests_ok R (B3 h f i e pins C d s H))
  ·exact PE.x0 (R.ex (B3 h f i e pins C d s H) c)
def zy:RuE where
 is _ lc e:=match e with
  | .ListComp _ [⟨.Name x _,b,_,0⟩] a _=>B8 lc a [x]&&v9 b
  | _=>false
 run r _ _ lc e ρ:=match e with
  | .ListComp c [⟨.Name x d,b,ifs,0⟩] a _=>bind (E6 r lc c x d b ifs a ρ) λds=>ret (.lst ds)
  | _=>bad
 ok e R TX h hi:=by
  split at hi
  ·rw [Ep] at hi;exact rZ R h hi.1 hi.2
  ·cases hi
 runK q _ _ lc e ρ _ k:=match e with
  | .ListComp c [⟨.Name x d,b,ifs,0⟩] a _=>aR q lc c x d b ifs a ρ λds=>k (.lst ds)
  | _=>bad
 eq e ρ _ k h:=by
  split
  ·simp only [bh h,bind_assoc,i8]
  ·first
   | rfl
   | (rename_i f;split;exact (f _ _ _ _ _ _ _ rfl).elim;rfl)
def aY (r:Ev) (c:Lc) (d:Expr) (x y:Str) (f h g:Pos) (e:Nat) (b:Expr) (ifs:List Expr) (a:Scope) (ρ:Env):M (List D):=match f7 (f8 c.N) (q5 a) with
 | some caps=>nx (eF caps (r.i c (.Tuple [.Name x f,.Name y h] e g) b) (testsE r (k7 c a [x,y]) ifs) (r.e (k7 c a [x,y]) d) ρ)
 | none=>bad
def gZ (q:EvK) (c:Lc) (e:Expr) (x y:Str) (i l j:Pos) (h:Nat) (b:Expr) (ifs:List Expr) (a:Scope) (ρ:Env) {f:Type} (k:List D->M f):M f:=match f7 (f8 c.N) (q5 a) with
 | some caps=>bind (nx (q.i c (.Tuple [.Name x i,.Name y l] h j) b ρ λg=>f9 g.1 (λd=>mn (testsK q (k7 c a [x,y]) ifs) (mk2 (E7 caps ρ) d)) (λd=>q.e (k7 c a [x,y]) e (mk2 (E7 caps ρ) d) ret) g.2 0 [])) k
 | none=>bad
theorem oI (h:EqK r q) (c:Expr) (x y:Str) (f i g:Pos) (d:Nat) (b:Expr) (ifs:List Expr) (a:Scope) (ρ:Env) {j:Type} (k:List D->M j):gZ q lc c x y f i g d b ifs a ρ k=bind (aY r lc c x y f i g d b ifs a ρ) k:=by
 unfold gZ aY;cases f7 (f8 lc.N) (q5 a) with
 | none=>rfl
 | some caps=>
  have e:testsK q (k7 lc a [x,y]) ifs=testsE r (k7 lc a [x,y]) ifs:=funext λρ=>tests_eq h ifs ρ;simp only [h.i,h.e,A1,e,eF,bN]
theorem ou (R:EvOk T k r) (h:CxOk T k lc X) {c:Expr} {x y:Str} {l n m pos:Pos} {i:Nat} {b:Expr} {ifs:List Expr} {a:Scope} (p:B8 lc a [x,y]=true) (t:v9 b=true) :
  PE X (.ListComp c [⟨.Tuple [.Name x l,.Name y n] i m,b,ifs,0⟩] a pos) (tD X.K T.cl (xOf X) λρ=>bind (aY r lc c x y l n m i b ifs a ρ) λds=>ret (.lst ds)):=by
 unfold aY;cases o:f7 (f8 lc.N) (q5 a) with
 | none=>exact d8
 | some caps=>
  obtain ⟨q,e,g,f,j⟩:=M3 h p o;refine ij (lU q (h.calm f) e rfl rfl (g x (by simp)) (g y (by simp)) (PI.x0 (R.ix h _ _)) (λpins C d s H=>?_) (λpins C d s H=>?_) t)
  ·exact PTL.x0 (tests_ok R (B3 h f j e pins C d s H))
  ·exact PE.x0 (R.ex (B3 h f j e pins C d s H) c)
def xY:RuE where
 is _ lc e:=match e with
  | .ListComp _ [⟨.Tuple [.Name x _,.Name y _] _ _,b,_,0⟩] a _=>B8 lc a [x,y]&&v9 b
  | _=>false
 run r _ _ lc e ρ:=match e with
  | .ListComp c [⟨.Tuple [.Name x f,.Name y i] d g,b,ifs,0⟩] a _=>bind (aY r lc c x y f i g d b ifs a ρ) λds=>ret (.lst ds)
  | _=>bad
 ok e R TX h hi:=by
  split at hi
  ·rw [Ep] at hi;exact ou R h hi.1 hi.2
  ·cases hi
 runK q _ _ lc e ρ _ k:=match e with
  | .ListComp c [⟨.Tuple [.Name x f,.Name y i] d g,b,ifs,0⟩] a _=>gZ q lc c x y f i g d b ifs a ρ λds=>k (.lst ds)
  | _=>bad
 eq e ρ _ k h:=by
  split
  ·simp only [oI h,bind_assoc,i8]
  ·first
   | rfl
   | (rename_i j;split;exact (j _ _ _ _ _ _ _ _ _ _ rfl).elim;rfl)
def AC (m:Str) (e:Expr):Bool:=match e with
 | .Call (.Attribute o n b) (a :: es) [] c=>decide (n=m)&&A4 o&&(a :: es).all noStar&&M4 (a :: es)&&(b.endLine==c.line)
 | _=>false
theorem vd (h:AC m e=true):∃ o b a es c,e=.Call (.Attribute o m b) (a :: es) [] c/\A4 o=true/\(a :: es).all noStar=true/\M4 (a :: es)=true/\(b.endLine==c.line)=true:=by
 unfold AC at h;grind
def mtE {c:Type} (g:D->M c) (op:D->List D->M D) (r:Ev) (b:Lc) (e:Expr) (ρ:Env):M D:=match e with
 | .Call (.Attribute o _ _) (a :: es) [] _=>bind (r.e b o ρ) λx=>bind (g x) λ_=>bind (u5 r b (a :: es) ρ) λds=>op x ds
 | _=>bad
def mtK {d:Type} (g:D->M d) (op:D->List D->M D) (q:EvK) (b:Lc) (e:Expr) (ρ:Env) {c:Type} (k:D->M c):M c:=match e with
 | .Call (.Attribute o _ _) (a :: es) [] _=>q.e b o ρ λx=>bind (g x) λ_=>y9 q b (a :: es) ρ λds=>bind (op x ds) k
 | _=>bad
theorem Ay (g:D->M α) (op:D->List D->M D) {r:Ev} {q:EvK} {a:Lc} (e:Expr) (ρ:Env) {b:Type} (k:D->M b) (h:EqK r q):mtK g op q a e ρ k=bind (mtE g op r a e ρ) k:=by
 unfold mtK mtE;split
 ·simp only [h.e,n8 h,bind_assoc]
 ·first
  | rfl
  | (rename_i c;split;exact (c _ _ _ _ _ _ rfl).elim;rfl)
def rMt {α:Type} (m:Str) (g:D->M α) (op:D->List D->M D)
  (ok:∀ {T:Tx} {k:Nat} {lc:Lc} {X:Cx} {xe:Addr->Hp->Prop} {o a:Expr} {es:List Expr} {apos cpos:Pos} {f:Env->M D} {fs:Env->M (List D)},CxOk T k lc X->PE X o (tD X.K T.cl xe f)->PA X (a :: es) (tDs X.K T.cl xe fs)->A4 o=true->(a :: es).all noStar=true->M4 (a :: es)=true->(apos.endLine==cpos.line)=true->PE X (.Call (.Attribute o m apos) (a :: es) [] cpos) (tD X.K T.cl xe λρ=>bind (f ρ) λx=>bind (g x) λ_=>bind (fs ρ) λds=>op x ds)):RuE where
 is _ _ e:=AC m e
 run r _ _ lc e ρ:=mtE g op r lc e ρ
 ok {T k r Γ C lc X} e R TX h hi:=by
  obtain ⟨o,apos,a,es,cpos,rfl,c1,c2,c3,c4⟩:=vd hi;exact ok h (R.ex h o) (n4 R h c2) c1 c2 c3 c4
 runK q _ _ lc e ρ _ k:=mtK g op q lc e ρ k
 eq e ρ _ k h:=Ay g op e ρ k h
def EE:RuE:=rMt "pop" lstOf popD λ_ e d c f a b=>jH Jn PySem.F.slot_list_pop PySem.F.type_list_pop pZ iF qT e d c f a b
def rAppend:RuE:=rMt "append" lstOf C9 λ_ e d c f a b=>mQ e d c f a b
def AM:RuS where
 is _ _ e:=match e with
  | .Expr e _=>p7 e
  | _=>false
 run r _ _ lc e ρ:=match e with
  | .Expr e _=>bind (r.e lc e ρ) λ_=>ret (.nx ρ)
  | _=>bad
 ok e R TX h hf hi:=by
  cases e with
  | Expr e p=>exact pD (R.ex h _) hi
  | _=>exact P0
 runK q _ _ lc e ρ _ k:=match e with
  | .Expr e _=>q.e lc e ρ λ_=>k (.nx ρ)
  | _=>bad
 eq e ρ _ k h:=by
  cases e with
  | Expr e p=>simp only [h.e,bind_assoc,i8]
  | _=>rfl
def ED:RuS where
 is _ _ e:=match e with
  | .Return (some _) _=>true
  | _=>false
 run r _ _ lc e ρ:=match e with
  | .Return (some e) _=>bind (r.e lc e ρ) λd=>ret (.rt d)
  | _=>bad
 ok e R TX h hf hi:=by
  split at hi
  ·exact uU (R.ex h _)
  ·cases hi
 runK q _ _ lc e ρ _ k:=match e with
  | .Return (some e) _=>q.e lc e ρ λd=>k (.rt d)
  | _=>bad
 eq e ρ _ k h:=by
  split
  ·simp only [h.e,bind_assoc,i8]
  ·first
   | rfl
   | (rename_i a;split;exact (a _ _ rfl).elim;rfl)
def sIf:RuS where
 is _ _ e:=match e with
  | .If _ _ _ _=>true
  | _=>false
 run r _ _ lc e ρ:=match e with
  | .If c a b _=>bind (r.t lc c ρ) λq=>if q=true then O8 r lc a ρ else O8 r lc b ρ
  | _=>bad
 ok e R TX h hf hi:=by
  cases e with
  | If c a b p=>exact xl (R.tx h _) (K2 R h hf) (K2 R h hf)
  | _=>exact P0
 runK q _ _ lc e ρ _ k:=match e with
  | .If c a b _=>q.t lc c ρ λz=>if z=true then j6 q lc a ρ k else j6 q lc b ρ k
  | _=>bad
 eq e ρ _ k h:=by
  cases e with
  | If c a b p=>simp only [h.t,W0 h,bind_assoc,p0]
  | _=>rfl
def eT (a:Lc) (x:Str):Bool:=(f8 a.N x).isSome&&cG a.sc x
def X2 (a:Lc) (x:Str) (ρ:Env) (d:D):M Fl:=match f8 a.N x with
 | some i=>ret (.nx (ρ.set i (some d)))
 | none=>bad
def y0 (b:Lc) (x:Str) (ρ:Env) (d:D) {a:Type} (k:Fl->M a):M a:=match f8 b.N x with
 | some i=>k (.nx (ρ.set i (some d)))
 | none=>bad
theorem dQ (a:Lc) (x:Str) (ρ:Env) (d:D) {b:Type} (k:Fl->M b):bind (X2 a x ρ d) k=y0 a x ρ d k:=by
 unfold X2 y0;cases f8 a.N x <;> rfl
theorem pN {x:Str} {p pos:Pos} {e:Expr} {f:Env->M D} (h:CxOk T k lc X) (l:lc.fr=true) (a:eT lc x=true) (g:PE X e (tD X.K T.cl xe f)) (c:p7 e=true):PS X (.Assign [.Name x p] e pos) (sD X.K T.cl xe λρ=>bind (f ρ) (X2 lc x ρ)):=by
 rw [eT,Ep,Gh] at a;obtain ⟨⟨i,b⟩,j⟩:=a;have:=sy (pos:=pos) (pos':=p) h.nd' (by rw [h.N];exact s0 b) (by rw [h.sc];exact F9 j) g c (.inl (h.fn1 l));have e:X2 lc x=λρ d=>ret (.nx (ρ.set i (some d))):=by funext ρ d;simp only [X2,b]
 simp_all
def Dc:RuS where
 is _ lc e:=match e with
  | .Assign [.Name x _] e _=>eT lc x&&p7 e
  | _=>false
 run r _ _ lc e ρ:=match e with
  | .Assign [.Name x _] e _=>bind (r.e lc e ρ) (X2 lc x ρ)
  | _=>bad
 ok e R TX h hf hi:=by
  split at hi
  ·rw [Ep] at hi;exact pN h hf hi.1 (R.ex h _) hi.2
  ·cases hi
 runK q _ _ lc e ρ _ k:=match e with
  | .Assign [.Name x _] e _=>q.e lc e ρ λd=>y0 lc x ρ d k
  | _=>bad
 eq e ρ _ k h:=by
  split
  ·simp only [h.e,bind_assoc,dQ]
  ·first
   | rfl
   | (rename_i a;split;exact (a _ _ _ _ rfl).elim;rfl)
def Ai:RuS where
 is _ lc e:=match e with
  | .Assign [.Name x _] (.List es _) _=>eT lc x&&decide (x∈lc.mu)&&es.all noStar
  | _=>false
 run r _ _ lc e ρ:=match e with
  | .Assign [.Name x _] (.List es _) _=>bind (bind (u5 r lc es ρ) newL) (X2 lc x ρ)
  | _=>bad
 ok e R TX h hf hi:=by
  split at hi
  ·rw [Ep,Ep] at hi;exact pN h hf hi.1.1 (vT (n4 R h hi.2)) rfl
  ·cases hi
 runK q _ _ lc e ρ _ k:=match e with
  | .Assign [.Name x _] (.List es _) _=>y9 q lc es ρ λds=>bind (newL ds) λd=>y0 lc x ρ d k
  | _=>bad
 eq e ρ _ k h:=by
  split
  ·simp only [n8 h,bind_assoc,dQ]
  ·first
   | rfl
   | (rename_i a;split;exact (a _ _ _ _ _ rfl).elim;rfl)
def swB (c:Lc) (b:Expr) (a:Scope) (t:Str) (pos:Pos):Bool:=c.sc.names.lookup t==some .local&&pos.line==b.pos.line&&!(a.names.any λ(n,k)=>n==t&&(k==.local||k==.cell))
theorem wK (h:CxOk T k lc X) (d:Expr) (c:List Comprehension) (a:Scope) (x:Str) (pos' pos b:Pos):swapsWith (.ListComp d c a b) (some (.Name x pos')) pos.line X.env=pure (swB lc (.ListComp d c a b) a x pos'):=by
 show pure (X.env.blockKind==.function&&X.env.kindOf x==some .local&&pos'.line==(Expr.ListComp d c a b).pos.line&&!(a.names.any λ(n,k)=>n==x&&(k==.local||k==.cell)))=_;have f:X.env.blockKind=.function:=by unfold PySem.Env.blockKind;rw [h.sc,h.kd];rfl
 have e:X.env.kindOf x=lc.sc.names.lookup x:=by unfold PySem.Env.kindOf;rw [h.sc]
 rw [f,e];rfl
theorem qV {T:Tx} {k i:Nat} {f:Lc} {X:Cx} {x:Str} {p pos:Pos} {e:Expr} {fs:Env->M (List D)} {xe:Addr->Hp->Prop} (r:f8 f.N x=some i) (h:PS X (.Assign [.Name x p] e pos) (rc (qB X.K T.cl x0 fs) (bg i))):PS X (.Assign [.Name x p] e pos) (sD X.K T.cl xe λρ=>bind (bind (nx (fs ρ)) λds=>ret (.lst ds)) (X2 f x ρ)):=PS.imp h λD σ H ⟨μ,S,ρ,g,n,p⟩=>
 ⟨μ,S,ρ,g,n,p.bind.bind.nx.imp λds S1 a j l c o m ys q b=>by
  have d:=o.ret a j (Lat.refl _ _) c;simp only [X2,r] at d;exact d.ret a j (Lat.refl _ _) c _ ((g.later l).set (.lst q b) i)⟩
def mf:RuS where
 is _ lc e:=match e with
  | .Assign [.Name x _] (.ListComp _ [⟨.Name y _,b,_,0⟩] a _) _=>eT lc x&&B8 lc a [y]&&v9 b
  | _=>false
 run r _ _ lc e ρ:=match e with
  | .Assign [.Name x _] (.ListComp c [⟨.Name y g,b,ifs,0⟩] a _) _=>bind (bind (E6 r lc c y g b ifs a ρ) λds=>ret (.lst ds)) (X2 lc x ρ)
  | _=>bad
 ok {T k r Γ C lc X} e R TX h hf f:=by
  split at f
  ·rename_i x p c y g b ifs a d pos;rw [Ep,Ep] at f;obtain ⟨⟨N,K⟩,t⟩:=f;have m:=N;rw [eT,Ep,Gh] at m;obtain ⟨⟨i,f⟩,M⟩:=m;have j:X.N[i]?=some x:=by rw [h.N];exact s0 f
   have n:L2.Loc X.env.scope x:=by rw [h.sc];exact F9 M
   have l:X.fn x=true\/X.env.scope.names.lookup x=some .local:=.inl (h.fn1 hf);have u:=wK h c [⟨.Name y g,b,ifs,0⟩] a x p pos d;unfold E6;cases L:f7 (f8 lc.N) (q5 a) with
   | none=>exact PS.imp gB λD σ H ⟨μ,S,ρ,J,F,p⟩=>p.bind.elim
   | some caps=>
    obtain ⟨z,o,I,v,E⟩:=M3 h K L;have G:=λpins C w s H=>PTL.x0 (tests_ok (ifs:=ifs) R (B3 h v E o pins C w s H));have A:=λpins C w s H=>PE.x0 (R.ex (B3 h v E o pins C w s H) c);refine qV (k:=k) f ?_;cases B:swB lc (.ListComp c [⟨.Name y g,b,ifs,0⟩] a d) a x p with
    | false=>
     rw [B] at u;exact gR h.nd' j n (ey z (h.calm v) o rfl (I y (by simp)) (PI.x0 (R.ix h _ _)) G A t) u l
    | true=>
     rw [B] at u;exact PS.imp (aV u h.nd' j n l z (h.calm v) o rfl (I y (by simp)) (PI.x0 (R.ix h _ _)) G A (A5 t)) λD σ H ⟨μ,S,ρ,J,F,p⟩=>aq J F p
  ·cases f
 runK q _ _ lc e ρ _ k:=match e with
  | .Assign [.Name x _] (.ListComp c [⟨.Name y g,b,ifs,0⟩] a _) _=>aR q lc c y g b ifs a ρ λds=>y0 lc x ρ (.lst ds) k
  | _=>bad
 eq e ρ _ k h:=by
  split
  ·simp only [bh h,bind_assoc,i8,dQ]
  ·first
   | rfl
   | (rename_i t;split;exact (t _ _ _ _ _ _ _ _ _ _ rfl).elim;rfl)
def v3 (a:Lc):List Expr->Option (List Nat)
 | []=>some []
 | .Name x _ :: b=>if cG a.sc x=true then (match f8 a.N x,v3 a b with
   | some i,some c=>some (i :: c)
   | _,_=>none) else none
 | _=>none
theorem ag (h:CxOk T k lc X) (hf:lc.fr=true):∀ {ts:List Expr} {is:List Nat},v3 lc ts=some is->NamesAt X ts is
 | [],is,e=>by cases e;exact .nil
 | t :: ts,is,e=>by
  cases t with
  | Name x p=>
   simp only [v3] at e;by_cases hl:cG lc.sc x=true
   ·simp only [if_pos hl] at e;cases e1:f8 lc.N x with
    | none=>rw [e1] at e;cases e
    | some i=>
     cases e2:v3 lc ts with
     | none=>grind
     | some is'=>
      rw [e1,e2] at e;cases e;exact .cons (by rw [h.N];exact s0 e1) (by rw [h.sc];exact F9 hl) (.inl (h.fn1 hf)) (ag h hf e2)
   ·grind
  | _=>simp only [v3] at e;cases e
def Db:RuS where
 is _ lc e:=match e with
  | .Assign [.Tuple ts _ _] e _=>(v3 lc ts).isSome&&p7 e&&oB e&&!quiet lc
  | _=>false
 run r _ _ lc e ρ:=match e with
  | .Assign [.Tuple ts _ _] e _=>(match v3 lc ts with
   | some is=>bind (r.e lc e ρ) λd=>Y6 (u8 is) d ρ
   | none=>bad)
  | _=>bad
 ok {T k r Γ C lc X} e R TX h hf hi:=by
  split at hi
  ·rename_i ts n p e pos;simp at hi;obtain ⟨⟨⟨h1,h2⟩,h3⟩,h4⟩:=hi;show PS X _ (sD X.K T.cl (xOf X) λρ=>(match v3 lc ts with
    | some is=>bind (r.e lc e ρ) λd=>Y6 (u8 is) d ρ
    | none=>bad))
   cases e1:v3 lc ts with
   | none=>exact P0
   | some is=>exact tS (h.calm h4) h.nd' (ag h hf e1) (R.ex h _) h2 h3
  ·cases hi
 runK q _ _ lc e ρ _ k:=match e with
  | .Assign [.Tuple ts _ _] e _=>(match v3 lc ts with
   | some is=>q.e lc e ρ λd=>bind (Y6 (u8 is) d ρ) k
   | none=>bad)
  | _=>bad
 eq {r q Γ C lc} e ρ _ k h:=by
  split
  ·rename_i ts n p e pos;cases v3 lc ts with
   | none=>rfl
   | some is=>simp only [h.e,bind_assoc]
  ·first
   | rfl
   | (rename_i hn;split;exact (hn _ _ _ _ _ rfl).elim;rfl)
def Cj:RuS where
 is _ _ e:=match e with
  | .Assign [.Subscript _ b _] e _=>p7 e&&F8 b
  | _=>false
 run r _ _ lc e ρ:=match e with
  | .Assign [.Subscript a b _] e _=>bind (r.e lc e ρ) λv=>bind (r.e lc a ρ) λx=>bind (r.e lc b ρ) λy=>bind (K1 x y v) λ_=>ret (.nx ρ)
  | _=>bad
 ok e R TX h hf hi:=by
  split at hi
  ·rw [Ep] at hi;exact qY h.u1 (R.ex h _) (R.ex h _) (R.ex h _) hi.1 hi.2
  ·cases hi
 runK q _ _ lc e ρ _ k:=match e with
  | .Assign [.Subscript a b _] e _=>q.e lc e ρ λv=>q.e lc a ρ λx=>q.e lc b ρ λy=>bind (K1 x y v) λ_=>k (.nx ρ)
  | _=>bad
 eq e ρ _ k h:=by
  split
  ·simp only [h.e,bind_assoc,i8]
  ·first
   | rfl
   | (rename_i c;split;exact (c _ _ _ _ _ rfl).elim;rfl)
def tgE (b:Lc) (a:Expr):Option (D->Env->Option Env):=match a with
 | .Name x _=>if cG b.sc x=true then (f8 b.N x).map λi=>λd ρ=>some (ρ.set i (some d)) else none
 | .Tuple c _ _=>(v3 b c).map u8
 | _=>none
theorem CH (h:CxOk T k lc X) (d:lc.fr=true) (g:quiet lc=false) {b:Expr} {tg:D->Env->Option Env} (e:tgE lc b=some tg):PG X b (vi X.K T.cl tg):=by
 unfold tgE at e;split at e
 ·rename_i x p;by_cases c:cG lc.sc x=true
  ·simp only [if_pos c] at e;cases a:f8 lc.N x with
   | none=>rw [a] at e;cases e
   | some i=>rw [a] at e;cases e;exact pf h.nd' (by rw [h.N];exact s0 a) (by rw [h.sc];exact F9 c) (.inl (h.fn1 d))
  ·grind
 ·rename_i f n p;cases a:v3 lc f with
  | none=>rw [a] at e;cases e
  | some j=>rw [a] at e;cases e;exact jO (h.calm g) h.nd' (ag h d a)
 ·cases e
def DU:RuS where
 is _ lc e:=match e with
  | .For _ a _ [] _=>v9 a&&!quiet lc
  | _=>false
 run r _ _ lc e ρ:=match e with
  | .For b a body [] _=>(match tgE lc b with
   | some tg=>bind (r.i lc b a ρ) λp=>h8 p.1 tg (O8 r lc body) p.2 0 ρ
   | none=>bad)
  | _=>bad
 ok {T k r Γ C lc X} e R TX h hf hi:=by
  split at hi
  ·rename_i b a body pos;simp at hi;show PS X _ (sD X.K T.cl (xOf X) λρ=>(match tgE lc b with
    | some tg=>bind (r.i lc b a ρ) λp=>h8 p.1 tg (O8 r lc body) p.2 0 ρ
    | none=>bad))
   cases e:tgE lc b with
   | none=>exact P0
   | some tg=>exact tw h.po (h.calm hi.2) (R.ix h _ _) (CH h hf hi.2 e) (K2 R h hf) hi.1
  ·cases hi
 runK q _ _ lc e ρ _ k:=match e with
  | .For b a body [] _=>(match tgE lc b with
   | some tg=>q.i lc b a ρ λp=>bind (h8 p.1 tg (λc=>j6 q lc body c ret) p.2 0 ρ) k
   | none=>bad)
  | _=>bad
 eq {r q Γ C lc} e ρ _ k h:=by
  split
  ·rename_i b a body pos;cases tgE lc b with
   | none=>rfl
   | some tg=>
    have:(λc=>j6 q lc body c ret)=O8 r lc body:=funext λc=>by rw [W0 h,A1]
    simp only [h.i,bind_assoc,this]
  ·first
   | rfl
   | (rename_i d;split;exact (d _ _ _ _ rfl).elim;rfl)
def C8 (t:Env->M Bool) (g:Env->M Fl):Nat->Env->M Fl
 | 0,_=>bad
 | m+1,ρ=>bind (t ρ) λq=>if q=true then bind (g ρ) (λb=>match b with
   | .nx a=>C8 t g m a
   | .ct a=>C8 t g m a
   | .bk a=>ret (.nx a)
   | .rt d=>ret (.rt d)) else ret (.nx ρ)
theorem lG {c:Expr} {body:List Stmt} {pos:Pos} {t:Env->M Bool} {g:Env->M Fl} (n:Nat) (hp:PassesOwn (model X.prog X.w) X.A X.env X.xe) (hc:PT X c (tBo X.K cl xe t)) (hb:PSs X body (sD X.K cl xe g)) :
  PS X (.While c body [] pos) (sD X.K cl xe λρ=>C8 t g n ρ):=PS.imp (nj hp hc hb) λD σ H ⟨μ,S,ρ,eo,rp,p⟩=>by
 refine ⟨λm σ H=>∃ μ2 S2 ρ2,EnvOk X.K μ2 H ρ2 σ/\Rep X.K cl μ2 S2 H/\Post X.K cl xe μ2 H (C8 t g m ρ2 S2) (λfl _ μ' H'=>FlOk X.K D fl μ' H'),⟨n,μ,S,ρ,eo,rp,p⟩,?_⟩;rintro m σ2 H2 ⟨μ2,S2,ρ2,eo2,r2,p2⟩;cases m with
 | zero=>exact p2.elim
 | succ m=>
  refine ⟨μ2,S2,ρ2,eo2,r2,p2.bind.imp λq S3 μ3 H3 l3 r3 p3=>?_⟩;cases q with
  | false=>exact p3.ret μ3 H3 (Lat.refl _ _) r3 σ2 (eo2.later l3)
  | true=>
   refine vb ?_;rw [if_pos rfl] at p3;refine ⟨λσ' H'=>∃ μ4 S4 ρ4,EnvOk X.K μ4 H' ρ4 σ'/\Rep X.K cl μ4 S4 H'/\Post X.K cl xe μ4 H' (C8 t g m ρ4 S4) (λfl _ μ' H'=>FlOk X.K D fl μ' H'),λσ' H' q=>⟨m,FB _,q⟩,?_⟩;refine ⟨μ3,S3,ρ2,eo2.later l3,r3,p3.bind.imp λfl S4 μ4 H4 l4 r4 p4=>?_⟩;cases fl with
   | nx ρ4=>exact λσ4 eo4=>⟨μ4,S4,ρ4,eo4,r4,p4⟩
   | ct ρ4=>exact λσ4 eo4=>⟨μ4,S4,ρ4,eo4,r4,p4⟩
   | bk ρ4=>exact p4.ret μ4 H4 (Lat.refl _ _) r4
   | rt d=>exact p4.ret μ4 H4 (Lat.refl _ _) r4
def xw:RuS where
 is _ _ e:=match e with
  | .While _ _ [] _=>true
  | _=>false
 run r _ _ lc e ρ:=match e with
  | .While c body [] _=>C8 (r.t lc c) (O8 r lc body) 10000 ρ
  | _=>bad
 ok e R TX h hf hi:=by
  split at hi
  ·exact lG 10000 h.po (R.tx h _) (K2 R h hf)
  ·cases hi
 runK q _ _ lc e ρ _ k:=match e with
  | .While c body [] _=>bind (C8 (λa=>q.t lc c a ret) (λa=>j6 q lc body a ret) 10000 ρ) k
  | _=>bad
 eq {r q Γ C lc} e ρ _ k h:=by
  split
  ·rename_i c body pos;have b:(λa=>j6 q lc body a ret)=O8 r lc body:=funext λa=>by rw [W0 h,A1]
   have f:(λa=>q.t lc c a ret)=r.t lc c:=funext λa=>by rw [h.t,A1]
   rw [b,f]
  ·first
   | rfl
   | (rename_i d;split;exact (d _ _ _ rfl).elim;rfl)
def PB (X:Cx) (cl:Nat->Addr) (st:Stmt) (g:Env->M Fl):Prop:=∀ (pins:List (Addr×Obj)) (s:Shared) (σ:L2.St) (H:Hp) (D:Ends) (F:Addr->Hp->Prop),L2.Inv X pins σ H s->sD X.K cl F g D σ H ->
 wpAny (model X.prog X.w) X.A (exec st X.env) (SP X pins D) (wn X pins σ F) s
def jJ (b:Option Nat) (a:Fl):Fl:=match b with
 | none=>a
 | some i=>match a with
  | .nx ρ=>.nx (ρ.set i none)
  | .bk ρ=>.bk (ρ.set i none)
  | .ct ρ=>.ct (ρ.set i none)
  | .rt d=>.rt d
def oK (a:Option Nat) (n:Nat) (ρ:Env):Env:=match a with
 | none=>ρ
 | some i=>ρ.set i (some (.ref n))
def aX (g:Env->M Fl) (a:Nat->Bool) (b:Option Nat) (h:Env->M Fl) (ρ:Env):M Fl:=λS=>match g ρ S with
 | .exn n S1=>(match S1[n]? with
  | some (.exc c _)=>if a c=true then bind (nx (h (oK b n ρ))) (λd=>ret (jJ b d)) S1 else .bad
  | _=>.bad)
 | r=>r
section
variable {X:Cx} {cl:Nat->Addr} {e:Expr} {f:Env->M D} {pos:Pos} {st:Stmt} {g:Env->M Fl}
theorem vf (h:PX X cl e f) (m:p7 e=true):PB X cl (.Expr e pos) λρ=>bind (f ρ) λ_=>ret (.nx ρ):=by
 intro pins s σ H D F I ⟨μ,S,ρ,c,l,p⟩;exact wpAny_Expr_any (thn (h pins s σ H (λ_ a=>D.nx σ a) F I ⟨μ,S,ρ,c,l,p.bind.imp λd S1 b a j g n v o=>n.ret b a (Lat.refl _ _) g σ (c.later j)⟩) λv q ⟨x,a,k,g,i⟩=>⟨σ,a,k,i⟩) I.quiet (E4 m)
theorem xX (h:PX X cl e f):PB X cl (.Return (some e) pos) λρ=>bind (f ρ) λd=>ret (.rt d):=by
 intro pins s σ H D F I ⟨μ,S,ρ,j,l,p⟩;exact wpAny_Return_some (thn (h pins s σ H D.rt F I ⟨μ,S,ρ,j,l,p.bind.imp λd S1 a c n b m v i=>m.ret a c (Lat.refl _ _) b v i⟩) λv o ⟨x,c,k,b,g⟩=>⟨x,σ,c,k,b,g⟩)
theorem xL (r:X.N.Nodup) (z:X.N[i]?=some x) (t:Loc X.env.scope x) (h:PX X cl e f) (u:p7 e=true) (o:X.fn x=true\/X.env.scope.names.lookup x=some .local) :
  PB X cl (.Assign [.Name x pos'] e pos) λρ=>bind (f ρ) λd=>ret (.nx (ρ.set i (some d))):=by
 intro pins s σ H D F I ⟨μ,S,ρ,g,q,p⟩;exact wpAny_Assign_Name (thn (h pins s σ H (λv a=>D.nx (σ.set i (some v)) a) F I ⟨μ,S,ρ,g,q,p.bind.imp λd S1 b a k c w v l=>w.ret b a (Lat.refl _ _) c _ ((g.later k).set l i)⟩) λv B ⟨y,a,m,c,j⟩=>S8 m r z t c (λA n=>⟨_,a,n,j⟩) o) (E4 u)
theorem EnvOk.setN {K:PySem.W.Frag} {μ:Mp} {H:Hp} {ρ:Env} {σ:L2.St} (h:EnvOk K μ H ρ σ) (i:Nat):EnvOk K μ H (ρ.set i none) (σ.set i none):=by
 refine ⟨by simp [h.1],λj d e=>?_⟩;by_cases hij:i=j
 ·subst hij;have hi:i<ρ.length:=by simpa using (Eo.mp e).1
  rw [FA hi] at e;cases e
 ·rw [Ff hij] at e;obtain ⟨v,q,r⟩:=h.2 j d e;exact ⟨v,by rw [Ff hij];exact q,r⟩
def kN (a:Option Nat) (D:Ends):Ends:=match a with
 | none=>D
 | some i=>{ nx:=λσ H=>D.nx (σ.set i none) H,rt:=D.rt,bk:=λσ H=>D.bk (σ.set i none) H,ct:=λσ H=>D.ct (σ.set i none) H }
theorem FlOk.goes {K:PySem.W.Frag} {D:Ends} {ie:Option Nat} {fl:Fl} {μ:Mp} {H:Hp} (h:FlOk K D (jJ ie fl) μ H):FlOk K (kN ie D) fl μ H:=by
 cases ie with
 | none=>exact h
 | some i=>
  cases fl with
  | nx ρ=>exact λσ eo=>h _ (eo.setN i)
  | bk ρ=>exact λσ eo=>h _ (eo.setN i)
  | ct ρ=>exact λσ eo=>h _ (eo.setN i)
  | rt d=>exact h
structure TryAt (X:Cx) (nm:Option Str) (ie:Option Nat):Prop where
 nd:X.N.Nodup
 ex:(nm=none/\ie=none)\/∃ x i,nm=some x/\ie=some i/\X.N[i]?=some x/\X.env.scope.names.lookup x=some .local
theorem yD {Tn:Str} {c0:Nat} {b0:Stmt} {suite:List Stmt} {hp tp:Pos} {sub:Nat->Bool} {h:Env->M Fl} (hst:X.stack=X.env :: X.outer) (hfr:X.env.frame=some X.env.locals) (hb:PB X cl st g)
  (hg:Gl X Tn) (hm:X.mg Tn=some (.ref (cl c0))) (hdb:(Tn==("__debug__" : Str))=false) (MT:XC X.K (cl c0)) (hk:∀ c,XC X.K (cl c)->PySem.W.kitOne X.K (.ref (cl c)) (.ref (cl c0))=some (sub c))
  (ta:TryAt X nm ie) (hs:∀ v,PSs (fO X v) (b0 :: suite) (sD X.K cl x0 h)) :
  PS X (.Try [st] [.ExceptHandler (some (.Name Tn tp)) nm (b0 :: suite) hp] [] [] pos) (sD X.K cl (xOf X) (aX g sub ie h)):=by
 intro pins s σ H D I ⟨μ,S,ρ,eo,rp,p⟩;rw [arm_exec_Try];have hpost:sD X.K cl (λa H1=>∃ n S1 μ1,g ρ S=.exn n S1/\Lat μ H μ1 H1/\Rep X.K cl μ1 S1 H1/\μ1.pl[n]?=some a) g D σ H:=⟨μ,S,ρ,eo,rp,by
  unfold aX at p;cases e:g ρ S with
  | ok fl S1=>rw [e] at p;exact p
  | exn n S1=>exact λμ' H' a l r q=>⟨n,S1,μ',rfl,l,r,q⟩
  | bad=>rw [e] at p;exact p⟩
 refine Ej (HB (wpAny_tryStmt_except (Jk (FI (hb pins s σ H D _ I hpost) (λf s1 q=>?_) λev s1 fl=>?_))))
 ·cases f with
  | next=>exact Hb (Hb q)
  | ret v=>exact q
  | brk=>exact q
  | cont=>exact q
 ·obtain ⟨a,H1,C,d,tb,he,I1,fx,n,S1,μ1,eg,l1,r1,e1⟩:=fl;subst he;refine jP I1 I1.ok.frames hst hfr fx λH2 s2 T I2 fx2 m2=>M7 I2 fx2 λs3 I3=>?_;obtain ⟨l2,r2⟩:=r1.mv I1.hok e1 fx.at_ m2;unfold aX at p;rw [eg] at p;simp only at p;cases eo1:S1[n]? with
  | none=>rw [eo1] at p;exact p.elim
  | some o=>
   rw [eo1] at p;cases o with
   | lst _=>exact p.elim
   | dct _=>exact p.elim
   | exc c fs=>
    simp only at p;by_cases hsub:sub c=true
    case neg=>rw [if_neg hsub] at p;exact p.elim
    rw [if_pos hsub] at p;have ec:=(oP I1.hok (r1.ats n _ a eo1 e1) fx.at_ fx.tb_).1;have hkc:=hk c (ec▸fx.xc);rw [<- ec,hsub] at hkc;have J3:=I3.hushed (.ref a);have p':=(Post.later p (l1.trans l2)).bind.nx (xe':=x0);have post:∀ σ',EnvOk X.K μ1 H2 (oK ie n ρ) σ'->sD X.K cl x0 h (kN ie D) σ' H2:=λσ' eo'=>⟨μ1,S1,_,eo',r2,p'.imp λfl S2 μ2 H3 l3 r3 p3=>FlOk.goes (p3.ret μ2 H3 (Lat.refl _ _) r3)⟩;refine wpAny_handleBy_cons (codeAny_handlers_test (G7 J3 hg hm ?_ hdb)) (by intro z;cases z);refine gv J3.kIn fx2.xc MT (fx2.isX (X:=fO X (.ref a)) J3) hkc ?_;rcases ta.ex with ⟨rfl,rfl⟩ | ⟨x,i,rfl,rfl,hi,hl⟩
    ·refine codeAny_handlers_suite (M7 (X:=fO X (.ref a)) J3 fx2 λs4 J4=>?_);refine FI (hs (.ref a) pins s4 σ H2 (kN none D) J4 (post σ (eo.later (l1.trans l2)))) (λf s5 q=>?_) λ_ _ z=>False.elim z;cases f with
     | next=>obtain ⟨σ',H',J,q⟩:=q;exact ⟨σ',H',J.unhush I.ok,q⟩
     | brk=>obtain ⟨σ',H',J,q⟩:=q;exact ⟨σ',H',J.unhush I.ok,q⟩
     | cont=>obtain ⟨σ',H',J,q⟩:=q;exact ⟨σ',H',J.unhush I.ok,q⟩
     | ret u=>obtain ⟨v,σ',H',J,r,q⟩:=q;exact ⟨v,σ',H',J.unhush I.ok,r,q⟩
    ·refine codeAny_handlers_suite_as (M7 (X:=fO X (.ref a)) J3 fx2 λs4 J4=>?_);refine S8 (X:=fO X (.ref a)) (v:=.ref a) J4 ta.nd hi (.inl hl) rfl (λs5 J5=>?_) (.inr hl);refine FI (hs (.ref a) pins s5 _ H2 (kN (some i) D) J5 (post _ ((eo.later (l1.trans l2)).set (.ref e1) i))) (λf s6 q=>?_) λ_ _ z=>False.elim z;cases f with
     | next=>obtain ⟨σ',H',J,q⟩:=q;exact Z5 (J.unhush I.ok) ta.nd hi hl λs7 I7=>⟨_,H',I7,q⟩
     | brk=>obtain ⟨σ',H',J,q⟩:=q;exact Z5 (J.unhush I.ok) ta.nd hi hl λs7 I7=>⟨_,H',I7,q⟩
     | cont=>obtain ⟨σ',H',J,q⟩:=q;exact Z5 (J.unhush I.ok) ta.nd hi hl λs7 I7=>⟨_,H',I7,q⟩
     | ret u=>obtain ⟨v,σ',H',J,r,q⟩:=q;exact Z5 (J.unhush I.ok) ta.nd hi hl λs7 I7=>⟨v,_,H',I7,r,q⟩
end
def yM:RuS where
 is Γ lc e:=match e with
  | .Raise (some (.Call (.Name x _) (a :: es) [] _)) none _=>n9 x&&glB lc.sc x&&(a :: es).all noStar&&!quiet lc
  | _=>false
 run r Γ _ lc e ρ:=match e with
  | .Raise (some (.Call (.Name x _) (a :: es) [] _)) none _=>bind (kZ r Γ lc x (a :: es) ρ) D4
  | _=>bad
 ok {T k r Γ C lc X} e R TX h hf hi:=by
  split at hi
  ·simp only [Ep,Gg] at hi;exact nF (h.calm hi.2) (jM R TX h hi.1.1.1 hi.1.1.2 hi.1.2 hi.2)
  ·cases hi
 runK q Γ _ lc e ρ _ k:=match e with
  | .Raise (some (.Call (.Name x _) (a :: es) [] _)) none _=>tu q Γ lc x (a :: es) ρ λd=>bind (D4 d) k
  | _=>bad
 eq {r q Γ C lc} e ρ _ k h:=by
  split
  ·simp only [oM h,bind_assoc]
  ·first
   | rfl
   | (rename_i b;split;exact (b _ _ _ _ _ _ rfl).elim;rfl)
def isR (Γ:Gm):Expr->Bool
 | .Call (.Name x _) (_ :: _) [] _=>nZ Γ x λi _=>decide (i∉Γ.qs)
 | _=>false
def oW (r:Ev) (Γ:Gm) (C:Cf) (a:Lc) (x:Str) (es:List Expr) (ρ:Env):M D:=if n9 x=true/\glB a.sc x=true/\es.all noStar=true then (match Γ.gl.lookup x with
 | some (.fn i n)=>bind (nx (u5 r a es ρ)) λds=>if ds.length=n then C i ds else bad
 | _=>bad) else bad
def eB (r:Ev) (Γ:Gm) (C:Cf) (a:Lc) (e:Expr) (ρ:Env):M D:=if isR Γ e=true then (match e with
 | .Call (.Name x _) es [] _=>oW r Γ C a x es ρ
 | _=>bad) else nx (r.e a e ρ)
def mY (q:EvK) (Γ:Gm) (C:Cf) (a:Lc) (x:Str) (es:List Expr) (ρ:Env):M D:=if n9 x=true/\glB a.sc x=true/\es.all noStar=true then (match Γ.gl.lookup x with
 | some (.fn i n)=>bind (nx (y9 q a es ρ ret)) λds=>if ds.length=n then C i ds else bad
 | _=>bad) else bad
def eBK (q:EvK) (Γ:Gm) (C:Cf) (a:Lc) (e:Expr) (ρ:Env):M D:=if isR Γ e=true then (match e with
 | .Call (.Name x _) es [] _=>mY q Γ C a x es ρ
 | _=>bad) else nx (q.e a e ρ ret)
theorem AX (h:EqK r q) (e:Expr) (ρ:Env):eBK q Γ C lc e ρ=eB r Γ C lc e ρ:=by
 unfold eBK eB mY oW;simp only [n8 h,h.e,A1]
theorem wV {C:Cf} {c:Lc} {X:Cx} (R:EvOk T k r) (l:TxOk T Γ k C) (h:CxOk T k c X) (u:quiet c=false) (e:Expr):PX X T.cl e (eB r Γ C c e):=by
 have g:PX X T.cl e λ_=>bad:=λ_ _ _ _ _ _ _ ⟨_,_,_,_,_,z⟩=>z.elim;unfold eB;by_cases b:isR Γ e=true
 ·simp only [if_pos b];unfold isR at b;split at b
  ·rename_i x p w es pos;obtain ⟨i,n,d,B⟩:=df b;unfold oW;by_cases f:n9 x=true/\glB c.sc x=true/\(w :: es).all noStar=true
   ·simp only [if_pos f,d];obtain ⟨y,m,j⟩:=f;obtain ⟨v,D,E⟩:=p9 y;obtain ⟨a,fd,ps,A,s,t,q,o⟩:=(l.fn x i n d (FG B)).ex;exact tZ A (by rw [h.prog,h.w,h.K,h.mg,h.base];exact s) (h.room0 u) (h.gl m) (by rw [h.mg];exact t) (by rw [h.K];exact q) (by rw [h.K];exact o) (PA.x0 (n4 R h.nox j)) v j
   ·grind
  ·cases b
 ·simp only [if_neg b];exact PX.of (PE.x0 (R.ex h.nox e))
def bX (g:Expr->Env->M D) (a:Lc) (st:Stmt) (ρ:Env):M Fl:=match st with
 | .Expr e _=>if p7 e=true then bind (g e ρ) λ_=>ret (.nx ρ) else bad
 | .Return (some e) _=>bind (g e ρ) λd=>ret (.rt d)
 | .Assign [.Name x _] e _=>(match f8 a.N x with
  | some i=>if cG a.sc x=true/\p7 e=true then bind (g e ρ) λd=>ret (.nx (ρ.set i (some d))) else bad
  | none=>bad)
 | _=>bad
theorem AW (h:CxOk T k lc X) (f:lc.fr=true) (b:∀ e,PX X T.cl e (g e)) (st:Stmt):PB X T.cl st (bX g lc st):=by
 have a:PB X T.cl st λ_=>bad:=λ_ _ _ _ _ _ _ ⟨_,_,_,_,_,z⟩=>z.elim;unfold bX;split
 ·rename_i e p;by_cases d:p7 e=true
  ·simp only [if_pos d];exact vf (b e) d
  ·grind
 ·exact xX (b _)
 ·rename_i x l e p;cases j:f8 lc.N x with
  | none=>exact a
  | some i=>
   by_cases c:cG lc.sc x=true/\p7 e=true
   ·simp only [if_pos c];exact xL h.nd' (by rw [h.N];exact s0 j) (by rw [h.sc];exact F9 c.1) (b e) c.2 (.inl (h.fn1 f))
   ·grind
 ·exact a
def nmI (a:Lc) (b:Option Str):Option (Option Nat):=match b with
 | none=>some none
 | some x=>match f8 a.N x with
  | some i=>if a.sc.names.lookup x=some .local then some (some i) else none
  | none=>none
def J7 (a:Lc):Lc:=⟨a.N,a.sc,a.fr,"~" :: a.mu⟩
theorem CxOk.hushed (h:CxOk T k lc X) (v:Value):CxOk T k (J7 lc) (fO X v):=by
 have a:quiet (J7 lc)=true:=by simp [quiet,J7]
 exact ⟨h.prog,h.w,h.K,h.mg,h.base,h.N,h.nd,h.sc,λz=>(by rw [a] at z;exact absurd z (by decide)),⟨λz=>(by rw [a] at z;exact absurd z (by decide)),h.room.dp,h.room.un,h.room.gd⟩,PassesOwn.never,h.fn,h.kd,λ_ z=>(by rw [a] at z;exact absurd z (by decide))⟩
def wx (Γ:Gm) (a:Lc) (e:Stmt):Bool:=match e with
 | .Try [_] [.ExceptHandler (some (.Name b _)) c (_ :: _) _] [] [] _=>n9 b&&glB a.sc b&&!quiet a&&uO Γ b&&(nmI a c).isSome
 | _=>false
def AO (g:Ev->Gm->Cf->Lc->Expr->Env->M D) (r:Ev) (Γ:Gm) (C:Cf) (b:Lc) (e:Stmt) (ρ:Env):M Fl:=match e with
 | .Try [st] [.ExceptHandler (some (.Name i _)) d (f :: a) _] [] [] _=>(match Γ.gl.lookup i,nmI b d with
  | some (.err c0 _),some h=>aX (bX (g r Γ C b) b st) (λc=>Γ.sub c c0) h (O8 r (J7 b) (f :: a)) ρ
  | _,_=>bad)
 | _=>bad
def BE (g:EvK->Gm->Cf->Lc->Expr->Env->M D) (q:EvK) (Γ:Gm) (C:Cf) (b:Lc) (e:Stmt) (ρ:Env) {f:Type} (k:Fl->M f):M f:=match e with
 | .Try [st] [.ExceptHandler (some (.Name l _)) h (i :: a) _] [] [] _=>(match Γ.gl.lookup l,nmI b h with
  | some (.err c0 _),some j=>bind (aX (bX (g q Γ C b) b st) (λc=>Γ.sub c c0) j (λd=>j6 q (J7 b) (i :: a) d ret) ρ) k
  | _,_=>bad)
 | _=>bad
def BI (g:Ev->Gm->Cf->Lc->Expr->Env->M D) (gK:EvK->Gm->Cf->Lc->Expr->Env->M D) (hg:∀ {T:Tx} {k:Nat} {r:Ev} {Γ:Gm} {C:Cf} {lc:Lc} {X:Cx},EvOk T k r->TxOk T Γ k C->CxOk T k lc X->quiet lc=false->∀ e,PX X T.cl e (g r Γ C lc e))
  (hk:∀ {r:Ev} {q:EvK} {Γ:Gm} {C:Cf} {lc:Lc},EqK r q->∀ e ρ,gK q Γ C lc e ρ=g r Γ C lc e ρ):RuS where
 is:=wx
 run r Γ C lc e ρ:=AO g r Γ C lc e ρ
 ok {T k r Γ C lc X} e R TX h hf hi:=by
  unfold wx at hi;split at hi
  ·rename_i st Tn tp nm b0 suite hp pos;simp at hi;obtain ⟨⟨⟨⟨c1,c2⟩,c3⟩,c4⟩,c5⟩:=hi;obtain ⟨n1,n2,n3⟩:=p9 c1;obtain ⟨hst,hfr⟩:=h.own hf c3;show PS X _ (sD X.K T.cl (xOf X) λρ=>(match Γ.gl.lookup Tn,nmI lc nm with
    | some (.err c0 _),some ie=>aX (bX (g r Γ C lc) lc st) (λc=>Γ.sub c c0) ie (O8 r (J7 lc) (b0 :: suite)) ρ
    | _,_=>bad))
   unfold uO at c4;split at c4
   ·rename_i c0 fs e;rw [e];obtain ⟨ea,na⟩:=TX.err Tn c0 fs e;cases hi:nmI lc nm with
    | none=>exact P0
    | some ie=>
     have ta:TryAt X nm ie:=by
      refine ⟨h.nd',?_⟩;unfold nmI at hi;split at hi
      ·grind
      ·rename_i x;split at hi
       ·rename_i i e1;split at hi
        ·rename_i hl;cases hi;exact .inr ⟨x,i,rfl,rfl,by rw [h.N];exact s0 e1,by rw [h.sc];exact hl⟩
        ·cases hi
       ·cases hi
     exact yD hst hfr (AW h hf (hg R TX h c3) st) (h.gl c2) (by rw [h.mg];exact ea.mg_) n1 (by rw [h.K];exact ea.xc) (λc xc=>by rw [h.K] at xc ⊢;exact TX.sub Tn c c0 fs e xc) ta λv=>PSs.x0 (K2 R (h.hushed v) hf)
   ·cases c4
  ·cases hi
 runK q Γ C lc e ρ _ k:=BE gK q Γ C lc e ρ k
 eq {r q Γ C lc} e ρ _ k h:=by
  unfold BE AO;split
  ·rename_i st Tn tp nm b0 suite hp pos;have e1:(λρ'=>j6 q (J7 lc) (b0 :: suite) ρ' ret)=O8 r (J7 lc) (b0 :: suite):=funext λρ'=>by rw [W0 h,A1]
   have e2:gK q Γ C lc=g r Γ C lc:=funext λe=>funext λρ=>hk h e ρ;rw [e1,e2];cases Γ.gl.lookup Tn with
   | none=>rfl
   | some z=>
    cases z with
    | err c fs=>cases nmI lc nm <;> rfl
    | _=>rfl
  ·first
   | rfl
   | (rename_i hn;split;exact (hn _ _ _ _ _ _ _ _ rfl).elim;rfl)
structure Fd where
 ps:List Str
 N:List Str
 sc:Scope
 body:List Stmt
 mu:List Str
def W3 (N:List Str) (ds:List D):Env:=ds.map some++List.replicate (N.length-ds.length) none
def endD (a:Fl):M D:=match a with
 | .rt d=>ret d
 | .nx _=>ret .non
 | _=>bad
abbrev G6 (fd:Fd):Lc:=⟨fd.N,fd.sc,true,fd.mu⟩
def P9 (Rs:Rules) (Γ:Gm) (a:List Fd):Nat->Nat->List D->M D
 | 0,_,_=>bad
 | k+1,i,ds=>match a[i]? with
  | none=>bad
  | some fd=>if ds.length=fd.ps.length then bind (O8 (ev Rs Γ (P9 Rs Γ a k) 40) (G6 fd) fd.body (W3 fd.N ds)) endD else bad
structure FnTx (T:Tx) (x:Str) (fd:Fd):Prop where
 ex:∃ (f:Addr) (da:FuncData) (qual:Str) (st:Stmt),Fun T.K x qual st f da/\h9 st=fd.body/\b7 st=fd.sc/\FnScope fd.N fd.ps fd.sc/\Binds T.K da fd.ps []/\T.mg x=some (.ref f)
theorem fj {K:PySem.W.Frag} {μ:Mp} {H:Hp} {N:List Str} {ds:List D} {vs:List V} (r:RDs K μ H ds vs):EnvOk K μ H (W3 N ds) (L2.start N vs):=by
 unfold W3 L2.start;refine ⟨by simp [r.length],λi d e=>?_⟩;by_cases hi:i<ds.length
 ·rw [Et (by simpa using hi),Fz] at e;cases q:ds[i]? with
  | none=>rw [q] at e;cases e
  | some d'=>
   rw [q] at e;cases e;obtain ⟨v,e1,r1⟩:=r.get q;refine ⟨v,?_,r1⟩;rw [Et (by rw [En,<- r.length];exact hi),Fz,e1];rfl
 ·rw [FF (by simpa using Hs hi),HL] at e;split at e <;> cases e
section
variable {P:Program} {w:World} {K:PySem.W.Frag} {mg:Str->Option Value} {base:Heap}
theorem pQ {x b:Str} {st:Stmt} {f:Addr} {fd:FuncData} {N ps:List Str} {k:Nat} {sp:Sp} (F:Fun K x b st f fd) (S:FnScope N ps (b7 st)) (g:∀ vs H Q E,sp vs H Q E->vs.length=ps.length)
  (d:∀ (c:Value) (A:Around) (a:List PySem.Env) (s:Shared) (H:Hp) (vs:List V) (Q:VK) (E:XK),Room CX.q k (A.deeper (envOfC b (b7 st) s.heap.objs.size f c))->sp vs H Q E ->
   ∃ t,PSs (bo CX P w K mg base N b (b7 st) f c A a s H E) (h9 st) t/\t { nx:=λ_ H'=>Q .non H',rt:=Q } (start N vs) H):FnOk P w K mg base CX (k+1) f fd ps sp:=by
 obtain ⟨r,od,n,i,o,p,c,q,l,rfl,m,h⟩:=F.ex;exact wG m h S g λA a s H vs Q E j e=>d c A a s H vs Q E j e
theorem Post.fly {H0 H:Hp} {E:XK} {μ:Mp} {r:R α} {G:α->Sto->Mp->Hp->Prop} (p:Post K cl (gX E) μ H r G) :
  Post K cl (xOf (bo (CXd P w K) P w K mg base N qual scope f cd A outer s H0 E)) μ H r G:=by
 cases r with
 | ok a S=>exact p
 | bad=>exact p
 | exn n S=>
  intro μ' H' a l rp e pins σ s' C d tb I fx;refine gm I I.ok.frames rfl rfl fx λH2 s2 T I2 fx2 m2=>?_;obtain ⟨l2,r2⟩:=rp.mv I.hok e fx.at_ m2;exact ⟨a,C,d,some T,H2,rfl,I2.os,I2.bare,I2.base,I2.hok,fx2,p μ' H2 a (l.trans l2) r2 e⟩
end
theorem FnOk.unX {K:PySem.W.Frag} {mg:Str->Option Value} {base:Heap} {k n:Nat} {f:Addr} {fd:FuncData} {ps:List Str} {cl:Nat->Addr} {run:List D->M D} (F:FnOk P w K mg base (CXd P w K) k f fd ps (spX K cl n run)):FnOk P w K mg base (CXq false) k f fd ps (spD K cl n run):=
 ⟨λvs H Q E h=>F.len vs H Q E0 h,λA outer s H args us vs Q E hr e0 hb r h=>Gi (F.run A outer s H args us vs Q E0 hr e0 hb r h) λres s' hq=>by
  cases res with
  | ok fl=>cases fl <;> exact hq
  | error e=>obtain ⟨_,_,_,_,_,_,_,_,_,_,_,z⟩:=hq;exact z⟩
section
variable {Rs:Rules} {T:Tx} {Γ:Gm} {Tb:List Fd} {k i:Nat} {x qual:Str} {st:Stmt} {f:Addr} {da:FuncData} {fd:Fd}
theorem fE (TX:TxOk T Γ (k+3) (P9 Rs Γ Tb k)) (hi:Tb[i]?=some fd) (F:Fun T.K x qual st f da) (h1:h9 st=fd.body) (h2:b7 st=fd.sc) (S:FnScope fd.N fd.ps fd.sc) (hq:quiet (G6 fd)=false) :
  FnOk T.P T.w T.K T.mg T.base (CXd T.P T.w T.K) (k+4) f da fd.ps (spX T.K T.cl fd.ps.length (P9 Rs Γ Tb (k+1) i)):=by
 have S':FnScope fd.N fd.ps (b7 st):=by rw [h2];exact S
 refine pQ F S' (λvs H Q E h=>h.1) λcdv A outer s H vs Q E hr hsp=>?_;obtain ⟨hl,μ,S0,ds,rds,rp,p⟩:=hsp;have cx:CxOk T (k+3) (G6 fd) (bo (CXd T.P T.w T.K) T.P T.w T.K T.mg T.base fd.N qual (b7 st) f cdv A outer s H E):=⟨rfl,rfl,rfl,rfl,rfl,rfl,S.nd,h2,λ_=>rfl,by rw [hq];exact hr,λe s' z=>wpAny_leaving_again (SameStack.refl _) z,rfl,S.kind,λ_ _=>⟨rfl,rfl⟩⟩;have R:=pR (Rs:=Rs) TX 40;refine ⟨_,by rw [h1];exact K2 R cx rfl,?_⟩;refine ⟨μ,S0,W3 fd.N ds,fj rds,rp,?_⟩;have hd:ds.length=fd.ps.length:=by rw [rds.length];exact hl
 simp only [P9,hi,if_pos hd] at p;refine Post.fly (p.bind.imp λfl S1 μ1 H1 l1 r1 p1=>?_);cases fl with
 | nx ρ=>exact λσ _=>p1 μ1 H1 (Lat.refl _ _) r1 _ .non
 | rt d=>exact λv rv=>p1 μ1 H1 (Lat.refl _ _) r1 v rv
 | bk ρ=>exact False.elim p1
 | ct ρ=>exact False.elim p1
theorem pE (TX:TxOk T Γ (k+3) (P9 Rs Γ Tb k)) (hi:Tb[i]?=some fd) (F:Fun T.K x qual st f da) (h1:h9 st=fd.body) (h2:b7 st=fd.sc) (S:FnScope fd.N fd.ps fd.sc) (hq:quiet (G6 fd)=true) :
  FnOk T.P T.w T.K T.mg T.base (CXq true) (k+4) f da fd.ps (spD T.K T.cl fd.ps.length (P9 Rs Γ Tb (k+1) i)):=by
 have S':FnScope fd.N fd.ps (b7 st):=by rw [h2];exact S
 refine pQ F S' (λvs H Q E h=>h.1) λcdv A outer s H vs Q E hr hsp=>?_;obtain ⟨hl,μ,S0,ds,rds,rp,p⟩:=hsp;have cx:CxOk T (k+3) (G6 fd) (bo (CXq true) T.P T.w T.K T.mg T.base fd.N qual (b7 st) f cdv A outer s H E).nox:=⟨rfl,rfl,rfl,rfl,rfl,rfl,S.nd,h2,λz=>(by rw [hq] at z;exact absurd z (by decide)),by rw [hq];exact hr,PassesOwn.never,rfl,S.kind,λ_ z=>(by rw [hq] at z;exact absurd z (by decide))⟩;have R:=pR (Rs:=Rs) TX 40;refine ⟨_,by rw [h1];exact PSs.nox (PSs.x0 (K2 R cx rfl)),?_⟩;refine ⟨μ,S0,W3 fd.N ds,fj rds,rp,?_⟩;have hd:ds.length=fd.ps.length:=by rw [rds.length];exact hl
 simp only [P9,hi,if_pos hd] at p;refine p.bind.imp λfl S1 μ1 H1 l1 r1 p1=>?_;cases fl with
 | nx ρ=>exact λσ _=>p1 μ1 H1 (Lat.refl _ _) r1 _ .non
 | rt d=>exact λv rv=>p1 μ1 H1 (Lat.refl _ _) r1 v rv
 | bk ρ=>exact False.elim p1
 | ct ρ=>exact False.elim p1
theorem tt (d:TxOk T Γ (k+3) (P9 Rs Γ Tb k)) (a:Tb[i]?=some fd) (F:Fun T.K x qual st f da) (e:h9 st=fd.body) (b:b7 st=fd.sc) (S:FnScope fd.N fd.ps fd.sc) (c:quiet (G6 fd)=false:=by rfl) :
  FnOk T.P T.w T.K T.mg T.base (CXq false) (k+4) f da fd.ps (spD T.K T.cl fd.ps.length (P9 Rs Γ Tb (k+1) i)):=FnOk.unX (fE d a F e b S c)
def yc (Γ:Gm) (a:List Fd):Bool:=(List.range a.length).all λi=>match a[i]? with
 | some fd=>quiet (G6 fd)==Γ.qs.contains i
 | none=>false
theorem jw (h:yc Γ Tb=true) (hi:Tb[i]?=some fd):quiet (G6 fd)=Γ.qs.contains i:=by
 unfold yc at h;grind
end
structure TxSt (T:Tx) (Γ:Gm):Prop where
 blt:∀ x∈bnames,Γ.gl.lookup x=none->T.mg x=none
 val:∀ x d,Γ.gl.lookup x=some (.val d)->∃ u v,T.mg x=some u/\RelV v u/\∀ μ H,RD T.K μ H d v
 err:∀ x c fs,Γ.gl.lookup x=some (.err c fs)->ErrAt T x c fs/\(∀ g∈fs,v1 T.K (T.cl c) g)
 sub:∀ x c c0 fs,Γ.gl.lookup x=some (.err c0 fs)->XC T.K (T.cl c)->PySem.W.kitOne T.K (.ref (T.cl c)) (.ref (T.cl c0))=some (Γ.sub c c0)
 subV:∀ c,XC T.K (T.cl c)->PySem.W.kitOne T.K (.ref (T.cl c)) (.type "ValueError")=some true
 subT:∀ c,XC T.K (T.cl c)->∀ t∈tys,PySem.W.kitOne T.K (.ref (T.cl c)) (.type t)=some false
 fld:∀ g∈Γ.flds,∀ c,XC T.K (T.cl c)->v1 T.K (T.cl c) g
 dct:∀ x kvs,Γ.gl.lookup x=some (.dct kvs)->nH T x kvs
def nM (T:Tx) (Γ:Gm) (a:List Fd):Prop:=∀ x i n,Γ.gl.lookup x=some (.fn i n)->∃ fd,a[i]?=some fd/\fd.ps.length=n/\FnTx T x fd
theorem TxSt.ok (h:TxSt T Γ) {k:Nat} {C:Cf} (f:∀ x i n,Γ.gl.lookup x=some (.fn i n)->i∉Γ.qs->FnX T (k+3) i n x (C i)) (a:∀ x i n,Γ.gl.lookup x=some (.fn i n)->i∈Γ.qs->FnAt T (k+3) i n x (C i)):TxOk T Γ (k+3) C:=⟨h.blt,h.val,f,a,h.err,h.sub,h.subV,h.subT,h.fld,h.dct,by omega⟩
theorem sk {T:Tx} {Γ:Gm} {q:List Fd} (h:TxSt T Γ) (fs:nM T Γ q) (k:Nat) (w:yc Γ q=true:=by rfl):TxOk T Γ (k+3) (P9 Rs Γ q k):=by
 induction k with
 | zero=>
  have l:∀ x i n,Γ.gl.lookup x=some (.fn i n)->∃ (a:Addr) (fd:FuncData) (ps:List Str),ps.length=n/\(∀ CX,FnOk T.P T.w T.K T.mg T.base CX 3 a fd ps (spX T.K T.cl n (P9 Rs Γ q 0 i)))/\T.mg x=some (.ref a)/\PySem.W.keepIn T.K (.ref a)=true/\Binds T.K fd ps []:=λx i n e=>by
   obtain ⟨fd,d,c,g⟩:=fs x i n e;obtain ⟨f,o,j,st,F,_,_,_,b,m⟩:=g.ex;refine ⟨f,o,fd.ps,c,λCX=>⟨λvs H Q E h=>by rw [c];exact h.1,λA v s H z us vs Q E _ _ _ _ u=>?_⟩,m,F.kp,b⟩;obtain ⟨_,μ,S,ds,_,_,p⟩:=u;exact p.elim
  refine h.ok (λx i n e _=>?_) λx i n e _=>?_
  ·obtain ⟨a,fd,ps,d,c,g⟩:=l x i n e;exact ⟨a,fd,ps,d,c _,g⟩
  ·obtain ⟨a,fd,ps,d,c,g⟩:=l x i n e;exact ⟨a,fd,ps,d,FnOk.imp (c _) λvs H Q E ⟨_,μ,S,ds,_,_,p⟩=>p.elim,g⟩
 | succ k y=>
  refine h.ok (λx i n e B=>?_) λx i n e m=>?_
  ·obtain ⟨fd,d,c,g⟩:=fs x i n e;subst c;obtain ⟨f,o,j,st,F,r,t,S,b,m2⟩:=g.ex;exact ⟨f,o,fd.ps,rfl,fE y d F r t S (by rw [jw w d];simpa using B),m2,F.kp,b⟩
  ·obtain ⟨fd,d,c,g⟩:=fs x i n e;subst c;obtain ⟨f,o,j,st,F,r,t,S,b,m2⟩:=g.ex;exact ⟨f,o,fd.ps,rfl,pE y d F r t S (by rw [jw w d];simpa using m),m2,F.kp,b⟩
def runK (Rs:Rules) (Γ:Gm) (C:Cf) (fd:Fd) (ds:List D):M D:=if ds.length=fd.ps.length then j6 (evK Rs Γ C 40) ⟨fd.N,fd.sc,true,fd.mu⟩ fd.body (W3 fd.N ds) endD else bad
theorem b9 {a:List Fd} {k i:Nat} {fd:Fd} (h:a[i]?=some fd) (ds:List D):P9 Rs Γ a (k+1) i ds=runK Rs Γ (P9 Rs Γ a k) fd ds:=by
 simp only [P9,h,runK];split
 ·rw [W0 (we 40)]
 ·rfl
def nV (a:Arguments):List Str:=a.args.map (·.arg)
def vI (ps:List Str) (a:Scope):List Str:=ps++(a.names.filter λy=>(y.2==.local||y.2==.cell)&&!ps.contains y.1).map (·.1)
def q4 (st:Stmt) (a:List Str):Fd:=⟨nV (k8 st),vI (nV (k8 st)) (b7 st),b7 st,h9 st,a⟩
def dB (fd:Fd):Bool:=decide (fd.sc.kind=.function)&&!fd.sc.isCoroutine&&!fd.sc.isGenerator&&decide fd.N.Nodup&&decide (fd.N.take fd.ps.length=fd.ps)&&fd.ps.all (λx=>cG fd.sc x)&&fd.sc.names.all (λy=>decide (y.2≠.free))
theorem bR (h:dB fd=true):FnScope fd.N fd.ps fd.sc:=by
 simp only [dB,Ep,Fh,Fi,Gg] at h;obtain ⟨⟨⟨⟨⟨⟨i,b⟩,c⟩,d⟩,f⟩,e⟩,a⟩:=h;exact ⟨i,b,c,d,f,λx g=>F9 (e x g),a⟩
section
variable {K:PySem.W.Frag} {cl:Nat->Addr} {xe:Addr->Hp->Prop} {μ:Mp} {H:Hp} {S:Sto}
theorem eh {p:Addr} {u:HO} {ob:O} {rs:List Addr} {kz:List V} (er:μ.rs=p :: rs) (nr:p∉rs) (hp:H p=some (.lst kz)) (rp:Rep K cl μ S H) (ho:OAt K cl ⟨μ.pl++[p],rs⟩ (upd H p u) p ob):Rep K cl ⟨μ.pl++[p],rs⟩ (S++[ob]) (upd H p u):=by
 have np:p∉μ.pl:=(rp.res p (by rw [er];exact Fe)).1;have hp':∀ (n:Nat) (a:Addr),μ.pl[n]?=some a->(μ.pl++[p])[n]?=some a:=λn a e=>by rw [Et (Eo.mp e).1];exact e
 have ho':∀ a w,H a=some w->a∉μ.pl->a∉μ.rs->upd H p u a=some w/\a∉(⟨μ.pl++[p],rs⟩:Mp).pl/\a∉(⟨μ.pl++[p],rs⟩:Mp).rs:=λa w e n1 n2=>by
  have ne:a≠p:=λz=>n2 (by rw [er,z];exact Fe);refine ⟨by rw [a8 ne];exact e,λz=>?_,λz=>n2 (by rw [er];exact Fg _ z)⟩;rcases Fo.mp z with z | z
  ·exact n1 z
  ·exact ne (Fy.mp z)
 refine ⟨by simp [rp.len],?_,λn o a e1 e2=>?_,λa m=>?_⟩
 ·show (μ.pl++[p]).Nodup;rw [HY];exact ⟨rp.nd,by simp,λa m b m2=>by rw [Fy.mp m2];rintro rfl;exact np m⟩
 ·have e2:(μ.pl++[p])[n]?=some a:=e2;by_cases hn:n<S.length
  ·rw [Et hn] at e1;rw [Et (by rw [rp.len];exact hn)] at e2;have h:=rp.ats n o a e1 e2;have ka:upd H p u a=H a:=a8 λz=>np (z▸Fk e2);cases o with
   | lst ds=>obtain ⟨xs,e,q⟩:=h;exact ⟨xs,by rw [ka];exact e,q.move hp' ho'⟩
   | dct kvs=>obtain ⟨xs,e,q⟩:=h;exact ⟨xs,by rw [ka];exact e,Paired.mono (λ_ _ ⟨z,w⟩=>⟨z,w.move hp' ho'⟩) q⟩
   | exc c fs=>
    obtain ⟨xc,gs,q,fr,h⟩:=h;refine ⟨xc,gs,Paired.mono (λ_ _ ⟨z,w⟩=>⟨z,w.move hp' ho'⟩) q,fr,?_⟩;rcases h with ⟨z,e⟩ | ⟨d,h1,h2,e,e3⟩
    ·exact .inl ⟨z,by rw [ka];exact e⟩
    ·have ne:d≠p:=jR e3 hp (by intro z;cases z);refine .inr ⟨d,h1,λz=>?_,by rw [ka];exact e,by rw [a8 ne];exact e3⟩;rcases Fo.mp z with z | z
     ·exact h2 z
     ·exact ne (Fy.mp z)
  ·have hn2:n=S.length:=by
    have:=(Eo.mp e1).1;simp at this;omega
   subst hn2;rw [<- rp.len] at e2;simp at e1 e2;subst e1;subst e2;exact ho
 ·have m:a∈rs:=m;obtain ⟨h1,w,h2⟩:=rp.res a (by rw [er];exact Fg _ m);have ne:a≠p:=λz=>nr (z▸m);refine ⟨λz=>?_,w,by rw [a8 ne];exact h2⟩;rcases Fo.mp z with z | z
  ·exact h1 z
  ·exact ne (Fy.mp z)
theorem eX (h:H p=some u):upd H p u=H:=by
 funext a;by_cases e:a=p
 ·rw [e,b6,h]
 ·rw [a8 e]
theorem uG (src:Src) (t:Env->M Bool) (f:Env->M D) (mk:D->Env) (m i:Nat) (es:List D) (S:Sto):bind (u0 src t f mk (m+1) i es) newL S=(match src i S with
  | none=>.bad
  | some none=>newL es S
  | some (some d)=>bind (t (mk d)) (λb=>if b=true then bind (f (mk d)) (λy=>if es.length<sizeLine then bind (u0 src t f mk m (i+1) (es++[y])) newL else bad) else bind (u0 src t f mk m (i+1) es) newL) S):=by
 have a:∀ {c m2:M (List D)},c S=m2 S->bind c newL S=bind m2 newL S:=λe=>by unfold L3.bind;rw [e]
 cases h:src i S with
 | none=>exact (a (by simp only [u0,h];rfl)).trans rfl
 | some o=>
  cases o with
  | none=>exact (a (by simp only [u0,h];rfl)).trans rfl
  | some d=>
   refine (a (m2:=bind (t (mk d)) (λb=>if b=true then bind (f (mk d)) (λy=>if es.length<sizeLine then u0 src t f mk m (i+1) (es++[y]) else bad) else u0 src t f mk m (i+1) es)) (by simp only [u0,h])).trans ?_;rw [bind_assoc];congr 1;congr 1;funext b;cases b with
   | true=>
    rw [if_pos rfl,if_pos rfl,bind_assoc];congr 1;funext y;split <;> rfl
   | false=>rfl
theorem X3 {σ:L2.St} {ρ:Env} {Q:VK} (eo:EnvOk K μ H ρ σ) (rp:Rep K cl μ S H)
  (p:Post K cl xe μ H (bind (cM caps fi t f ρ) newL S) λd _ μ' H'=>∀ v,RD K μ' H' d v->Q v H'):iq caps (tIt K cl xe fi) (tBo K cl xe t) (tD K cl xe f) σ H Q:=by
 unfold cM at p;rw [bind_assoc] at p;refine ⟨μ,S,ρ,eo,rp,p.bind.imp λsm S1 l H1 l1 U p1 J yl g c=>?_⟩;obtain ⟨src,m0⟩:=sm;have Z:=U.notrs c;refine ⟨λi m ys A=>∃ μ2 S2 es,HLat l H1 g μ2 A/\g∉μ2.pl/\A g=some (.lst ys)/\EnvOk K μ2 A ρ σ/\Rep K cl μ2 S2 A/\RDs K μ2 A es ys/\Post K cl xe l H1 (bind (u0 src t f (λd=>some d :: E7 caps ρ) m i es) newL S2) (λd _ μ' H'=>∀ v,RD K μ' H' d v->Q v H'),⟨m0,l.hold g,S1,[],?_,U.notin c,b6,T9 U c (eo.later l1),Q1 U c,.nil,p1⟩,?_⟩
 ·refine ⟨⟨λ_ _ e=>e,λa o e _=>by rw [a8 (b8 e c)];exact e,λa m=>.inl m,λa m=>?_⟩,rfl⟩;rcases Ez.mp (m) with rfl | m
  ·exact .inr c
  ·exact .inl m
 rintro i m ys A ⟨μ2,S2,es,E,O,D,B,W,h,k⟩;refine ⟨D,?_⟩;cases m with
 | zero=>exact k.elim
 | succ m=>
  have y:bI K cl J i μ2 A S2 (src i S2):=yl i μ2 A S2 E.r.u W;rw [uG] at k;cases e1:src i S2 with
  | none=>rw [e1] at k;exact k.elim
  | some o=>
   rw [e1] at k y;cases o with
   | none=>
    refine .inl ⟨y,?_⟩;simp only [newL] at k;by_cases hz:es.length<=sizeLine
    ·rw [if_pos hz] at k;have C:=E.rs;have mv:RDs K ⟨μ2.pl++[g],l.rs⟩ A es ys:=h.move (λn a e=>by
      rw [Et (Eo.mp e).1];exact e) λa u e n1 n2=>⟨e,λz=>by
       rcases Fo.mp z with z | z
       ·exact n1 z
       ·exact n2 (by rw [C,Fy.mp z];exact Fe),λz=>n2 (by rw [C];exact Fg _ z)⟩
     have G:=eh (ob:=.lst es) C Z D W ⟨ys,b6,by rw [eX D];exact mv⟩;rw [eX D] at G;refine k ⟨μ2.pl++[g],l.rs⟩ A ⟨λn a e=>?_,λa o e n=>E.r.oth a o e n,λa ma=>?_,rfl⟩ G _ (.ref ?_)
     ·have e':=E.r.pre n a e;rw [Et (Eo.mp e').1];exact e'
     ·rcases Fo.mp ma with z | z
      ·exact E.r.new a z
      ·grind
     ·show (μ2.pl++[g])[S2.length]?=some g;rw [<- W.len];simp
    ·rw [if_neg hz] at k;exact k.elim
   | some d=>
    obtain ⟨y1,y2⟩:=y;refine .inr ⟨y1,λx H3 hy=>?_⟩;obtain ⟨T,r3,L⟩:=y2 x H3 hy;have h3:=E.step T;refine ⟨μ2,S2,_,Q5 (B.later T) L,r3,(Post.at k h3).imp λb S5 I H5 X r5 p5=>?_⟩;have V:=h3.step X;have s:=T.trans X;have a5:=s.oth _ _ D O;have Y:=s.out D O;cases b with
    | false=>exact ⟨m,FB _,I,S5,es,V,Y,a5,B.later s,r5,h.later s,p5⟩
    | true=>
     refine vb ?_;rw [if_pos rfl] at p5;refine ⟨I,S5,_,(Q5 (B.later T) L).later X,r5,(Post.at p5 V).imp λyv S6 μ6 H6 R r6 P v rv=>?_⟩;have F:=V.step R;have N:=s.trans R;have a6:=R.oth _ _ a5 Y;have n6:=R.out a5 Y;by_cases hz:es.length<sizeLine
     ·rw [if_pos hz] at P;have C:=F.rs;refine ⟨a6,by rw [<- h.length];exact hz,m,FB _,μ6,S6,es++[yv],?_,n6,b6,?_,W9 C a6 r6,W6 C ((h.later N).append (.cons rv .nil)),P⟩
      ·refine ⟨⟨F.r.pre,λa o e n=>?_,F.r.new,F.r.rsw⟩,C⟩;rw [a8 (b8 e c)];exact F.r.oth a o e n
      ·have M:=B.later N;exact ⟨M.1,λj e he=>let ⟨w,q,r⟩:=M.2 j e he;⟨w,q,aW C r⟩⟩
     ·rw [if_neg hz] at P;exact P.elim
end
theorem vo (m:M (List D)) (S:Sto):bind (nx m) newL S=nx (bind m newL) S:=by
 cases h:m S with
 | ok a S1=>
  have e2:nx m S=.ok a S1:=by unfold L3.nx;rw [h]
  have e3:bind (nx m) newL S=newL a S1:=by unfold L3.bind;rw [e2]
  have e:bind m newL S=newL a S1:=by unfold L3.bind;rw [h]
  rw [e3];unfold L3.nx;rw [e];simp only [newL];split <;> rfl
 | exn n S1=>
  have e:bind m newL S=.exn n S1:=by unfold L3.bind;rw [h]
  have e2:nx m S=.bad:=by unfold L3.nx;rw [h]
  have e3:bind (nx m) newL S=.bad:=by unfold L3.bind;rw [e2]
  rw [e3];unfold L3.nx;rw [e]
 | bad=>
  have e:bind m newL S=.bad:=by unfold L3.bind;rw [h]
  have e2:nx m S=.bad:=by unfold L3.nx;rw [h]
  have e3:bind (nx m) newL S=.bad:=by unfold L3.bind;rw [e2]
  rw [e3];unfold L3.nx;rw [e]
theorem nv {T:Tx} {k i:Nat} {c:Lc} {X:Cx} {x:Str} {p pos:Pos} {e:Expr} {fs:Env->M (List D)} {xe:Addr->Hp->Prop} (g:f8 c.N x=some i) (h:PS X (.Assign [.Name x p] e pos) (rc (tD X.K T.cl x0 λρ=>bind (fs ρ) newL) (bg i))):PS X (.Assign [.Name x p] e pos) (sD X.K T.cl xe λρ=>bind (bind (nx (fs ρ)) newL) (X2 c x ρ)):=PS.imp h λD σ H ⟨μ,S,ρ,b,m,p⟩=>by
 have p:=p.bind;rw [vo] at p;refine ⟨μ,S,ρ,b,m,p.nx.imp λd S1 a j n l f v o=>?_⟩;simp only [X2,g] at f;exact f.ret a j (Lat.refl _ _) l _ ((b.later n).set o i)
def lw:RuS where
 is _ lc e:=match e with
  | .Assign [.Name x _] (.ListComp _ [⟨.Name y _,b,_,0⟩] a _) _=>eT lc x&&B8 lc a [y]&&v9 b&&decide (x∈lc.mu)
  | _=>false
 run r _ _ lc e ρ:=match e with
  | .Assign [.Name x _] (.ListComp c [⟨.Name y j,b,ifs,0⟩] a _) _=>bind (bind (E6 r lc c y j b ifs a ρ) newL) (X2 lc x ρ)
  | _=>bad
 ok {T k r Γ C lc X} e R TX h hf g:=by
  split at g
  ·rename_i x p c y j b ifs a f pos;rw [Ep,Ep,Ep] at g;obtain ⟨⟨⟨O,N⟩,z⟩,_⟩:=g;have o:=O;rw [eT,Ep,Gh] at o;obtain ⟨⟨i,g⟩,M⟩:=o;have l:X.N[i]?=some x:=by rw [h.N];exact s0 g
   have n:L2.Loc X.env.scope x:=by rw [h.sc];exact F9 M
   have m:X.fn x=true\/X.env.scope.names.lookup x=some .local:=.inl (h.fn1 hf);have A:=wK h c [⟨.Name y j,b,ifs,0⟩] a x p pos f;unfold E6;cases L:f7 (f8 lc.N) (q5 a) with
   | none=>exact PS.imp gB λD σ H ⟨μ,S,ρ,w,t,p⟩=>p.bind.elim
   | some caps=>
    obtain ⟨I,v,J,u,E⟩:=M3 h N L;have K:=λpins C B s H=>PTL.x0 (tests_ok (ifs:=ifs) R (B3 h u E v pins C B s H));have G:=λpins C B s H=>PE.x0 (R.ex (B3 h u E v pins C B s H) c);refine nv (k:=k) g ?_;cases F:swB lc (.ListComp c [⟨.Name y j,b,ifs,0⟩] a f) a x p with
    | false=>
     rw [F] at A;exact gR h.nd' l n (PE.imp (im I (h.calm u) v rfl (J y (by simp)) (PI.x0 (R.ix h _ _)) K G (A5 z)) λσ H Q ⟨μ,S,ρ,w,t,p⟩=>X3 w t p) A m
    | true=>
     rw [F] at A;exact PS.imp (aV A h.nd' l n m I (h.calm u) v rfl (J y (by simp)) (PI.x0 (R.ix h _ _)) K G (A5 z)) λD σ H ⟨μ,S,ρ,w,t,p⟩=>X3 w t p
  ·cases g
 runK q _ _ lc e ρ _ k:=match e with
  | .Assign [.Name x _] (.ListComp c [⟨.Name y j,b,ifs,0⟩] a _) _=>aR q lc c y j b ifs a ρ λds=>bind (newL ds) λd=>y0 lc x ρ d k
  | _=>bad
 eq e ρ _ k h:=by
  split
  ·simp only [bh h,bind_assoc,i8,dQ]
  ·first
   | rfl
   | (rename_i z;split;exact (z _ _ _ _ _ _ _ _ _ _ rfl).elim;rfl)
def countG (x:D) (ds:List D):M D:=match x,ds with
 | .tup xs,[d]=>λS=>match d9 64 S (.tup xs),d9 64 S d with
  | some (.tuple ps),some q=>(if q.canLay0=true/\PyData.canLayAll0 ps=true/\min (PyData.depthAll ps) q.depth<=60 then ret (.int ((ps.countP λz=>PyData.eqv z q:Nat):Int)) else bad) S
  | _,_=>.bad
 | _,_=>bad
section
variable {X:Cx} {cl:Nat->Addr} {xe:Addr->Hp->Prop}
def Ba (X:Cx):V->List V->Hp->(V->Hp->Prop)->Prop:=λx vs H Q=>∃ y ps d,vs=[y]/\DAt X.K H x (.tuple ps)/\DAt X.K H y d/\(d.canLay0=true/\PyData.canLayAll0 ps=true/\min (PyData.depthAll ps) d.depth<=60)/\Q (.int ((ps.countP λz=>PyData.eqv z d:Nat):Int)) H
theorem lF (hu:X.A.units+80<cLine):MtR X "tuple.count" (Ba X):=by
 intro pins s σ H x vs v us Q I rx rv h;obtain ⟨y,ps,d,rfl,hx,hy,⟨c1,c2,c3⟩,q⟩:=h;obtain ⟨u,rfl,ru⟩:=rv.one;obtain ⟨as,r1⟩:=hx.reads I rx;obtain ⟨bs,r2⟩:=hy.reads I ru;cases r1 with
 | tuple h1 h2 h3 h4=>
  rename_i a ob its n;obtain ⟨cls,dd,data,sl⟩:=ob;subst h2 h3;have em:=SeqAt.readsAll_map ps _ _ c2 h4;refine Hm Jj ⟨_,h1,rfl⟩ PySem.F.entry_tuple_count (PySem.F.args_tuple_count_2 _ _) (PySem.SeqAt.tuple_countAt _ its n dd sl u (λz=>PyData.eqv (SeqAt.readOf s.heap z) d)) ⟨h1,λz hz=>?_,?_⟩
  ·exact SeqAt.items_eqAt h4 r2 c2 c1 (by omega) z hz
  ·have:its.toList.countP (λz=>PyData.eqv (SeqAt.readOf s.heap z) d)=ps.countP λz=>PyData.eqv z d:=by
    rw [<- em,Jy];rfl
   rw [this];exact ⟨.int _,H,I.tok _,⟨_,rfl⟩,q⟩
theorem fM:xW X.K cl xe (Ba X) countG:=λμ S H x v ds vs Q rx rvs rp p=>by
 unfold countG at p;split at p
 ·rename_i xs d;obtain ⟨v2,rfl,rv⟩:=lB rvs;cases e1:d9 64 S (.tup xs) with
  | none=>rw [e1] at p;exact p.elim
  | some a=>
   cases e2:d9 64 S d with
   | none=>rw [e1,e2] at p;cases a <;> exact p.elim
   | some b=>
    rw [e1,e2] at p;have ha:=u7 rp 64 e1 rx;have hb:=u7 rp 64 e2 rv;cases a with
    | tuple ps=>
     dsimp only at p;by_cases c:b.canLay0=true/\PyData.canLayAll0 ps=true/\min (PyData.depthAll ps) b.depth<=60
     ·rw [if_pos c] at p;exact ⟨v2,ps,b,rfl,ha,hb,c,p μ H (Lat.refl _ _) rp _ (.int _)⟩
     ·rw [if_neg c] at p;exact p.elim
    | _=>exact p.elim
 ·exact p.elim
end
def rCountG0:RuE:=rMt "count" tupOf countG λh c d b a f e=>jH PySem.F.plainAttrs_tuple Jj PySem.F.type_tuple_count (lF h.u80) lA fM c d b a f e
def tm:RuE where
 is Γ lc e:=rCountG0.is Γ lc e&&decide (("count" : Str)∈lc.mu)
 run:=rCountG0.run
 ok e R TX h hi:=rCountG0.ok e R TX h (by rw [Ep] at hi;exact hi.1)
 runK:=rCountG0.runK
 eq e ρ _ k h:=rCountG0.eq e ρ k h
section
variable {X:Cx} {cl:Nat->Addr} {a t b c:Expr} {fa ft fb fc:Env->M D} {pos p2:Pos}
def mE (b a:Env->M D) (ρ:Env) (x y:D):M D:=bind (nx (isD false x y)) λz=>bind (asB z) λq=>if q=true then b ρ else a ρ
theorem tG (ha:PX X cl a fa) (ht:PX X cl t ft) (V:PX X cl b fb) (hc:PX X cl c fc):PX X cl (.IfExp (.Compare a [.Is] [t] r) b c pos) λρ=>bind (fa ρ) λx=>bind (ft ρ) λy=>mE fb fc ρ x y:=by
 intro pins s σ H Q F I ⟨μ,S,ρ,K,W,p⟩;refine wpAny_IfExp (wpAny_isTrue_Compare1 (thn (ha pins s σ H (λv i=>∃ f S1 x,EnvOk X.K f i ρ σ/\RD X.K f i x v/\Rep X.K cl f S1 i/\Post X.K cl F f i (bind (ft ρ) (λy=>mE fb fc ρ x y) S1) λd _ μ' H'=>∀ v,RD X.K μ' H' d v->Q v H') F I ⟨μ,S,ρ,K,W,p.bind.imp λx S1 f i U D C v J=>⟨f,S1,x,K.later U,J,D,C⟩⟩) λv R ⟨L,i,Z,rr,f,S1,x,m,J,D,C⟩=>thn (ht pins R σ i (λu g=>∃ μ2 S2 y,EnvOk X.K μ2 g ρ σ/\RD X.K μ2 g x L/\RD X.K μ2 g y u/\Rep X.K cl μ2 S2 g/\Post X.K cl F μ2 g (mE fb fc ρ x y S2) λd _ μ' H'=>∀ v,RD X.K μ' H' d v->Q v H') F Z ⟨f,S1,ρ,m,D,C.bind.imp λy S2 μ2 g M E r u G=>⟨μ2,S2,y,m.later M,J.later M,G,E,r⟩⟩) λu O ⟨P,g,I2,G,μ2,S2,y,B,T,ry,E,r⟩=>?_) (yZ _));have o:=zG (X:=X.nox) (xe:=x0) false pins O σ g L P v u (λw h=>∃ e k z,EnvOk X.K e h ρ σ/\RD X.K e h z w/\Rep X.K cl e k h/\Post X.K cl F e h ((bind (asB z) λq=>if q=true then fb ρ else fc ρ) k) λd _ μ' H'=>∀ v,RD X.K μ' H' d v->Q v H') (I2.wish _) rr G ⟨μ2,S2,x,y,T,ry,E,r.bind.nx.imp λz k e h l3 A j w rw=>⟨e,k,z,B.later l3,rw,A,j⟩⟩;refine FI o (λw N ⟨w',h,n,rw,e,k,z,l,Y,A,j⟩=>?_) λ_ _ z=>False.elim z;have n:=n.unwish;cases z with
 | bl q=>
  cases Y;cases rw;refine Hi ?_;have j:=j;cases q with
  | true=>exact V pins N σ h Q F n ⟨e,k,ρ,l,A,j⟩
  | false=>exact hc pins N σ h Q F n ⟨e,k,ρ,l,A,j⟩
 | _=>exact j.elim
end
def eI (r:Ev) (Γ:Gm) (C:Cf) (d:Lc) (e:Expr) (ρ:Env):M D:=match e with
 | .IfExp (.Compare a [.Is] [t] _) b c _=>bind (eB r Γ C d a ρ) λx=>bind (nx (r.e d t ρ)) λy=>mE (λρ=>nx (r.e d b ρ)) (λρ=>nx (r.e d c ρ)) ρ x y
 | e=>eB r Γ C d e ρ
def eIK (q:EvK) (Γ:Gm) (C:Cf) (d:Lc) (e:Expr) (ρ:Env):M D:=match e with
 | .IfExp (.Compare a [.Is] [t] _) b c _=>bind (eBK q Γ C d a ρ) λx=>bind (nx (q.e d t ρ ret)) λy=>mE (λρ=>nx (q.e d b ρ ret)) (λρ=>nx (q.e d c ρ ret)) ρ x y
 | e=>eBK q Γ C d e ρ
theorem Cn (h:EqK r q) (e:Expr) (ρ:Env):eIK q Γ C lc e ρ=eI r Γ C lc e ρ:=by
 unfold eIK eI;split <;> simp only [AX h,h.e,A1]
theorem Cm {C:Cf} {a:Lc} {X:Cx} (R:EvOk T k r) (b:TxOk T Γ k C) (h:CxOk T k a X) (c:quiet a=false) (e:Expr):PX X T.cl e (eI r Γ C a e):=by
 unfold eI;split
 ·exact tG (wV R b h c _) (PX.of (PE.x0 (R.ex h.nox _))) (PX.of (PE.x0 (R.ex h.nox _))) (PX.of (PE.x0 (R.ex h.nox _)))
 ·exact wV R b h c e
def Am:RuS:=BI (λr Γ C a e ρ=>eI r Γ C a e ρ) (λq Γ C a e ρ=>eIK q Γ C a e ρ) (λR b h c e=>Cm R b h c e) (λh e ρ=>Cn h e ρ)
theorem _root_.L2.Inv.dr (I:Inv X pins σ H s) (d:Drawn):Inv X pins σ H { s with drawn:=d }:=
 ⟨I.ok,I.os,I.bare,I.base,I.loc,I.cell,I.free,I.freeC,I.pin,I.hok,I.len⟩
def A2 (ns:List Int):List Int:=HT.metKHt (λi=>ns.getD i 0) ns.length
theorem dE (ns:List Int):(A2 ns).Nodup:=HT.metK_nd _ _
theorem uniq_mem:k∈A2 ns↔k∈ns:=by
 unfold A2;rw [HT.metK_mem];constructor
 ·grind
 ·intro h;obtain ⟨j,a,e⟩:=Ho.mp h;exact ⟨j,a,by simp [List.getD,a,e]⟩
section
variable {X:Cx} {e:Expr} {te:TE} {p p2 pos pos2:Pos} {cl:Nat->Addr} {xe:Addr->Hp->Prop}
def vx (K:PySem.W.Frag) (te:TE):TE:=λσ H Q=>te σ H λx b=>∃ a ns,x=.ref a/\(SqL K b a (ns.map V.int)\/SqT K b a (ns.map V.int))/\(ns.length<4000/\(A2 ns).length<64)/\∀ p,b p=none->Q (.ref p) (upd b p (.lst ((srt (A2 ns)).map V.int)))
theorem lZ (M:X.calm=true) (T:Gl X "sorted") (U:X.mg "sorted" = none) (hs:Gl X "set") (ms:X.mg "set" = none) (he:PE X e te) (D:noStar e=true):PE X (.Call (.Name "sorted" p) [.Call (.Name "set" p2) [e] [] pos2] [] pos) (vx X.K te):=by
 intro pins s σ H Q I h;have E:=I.ok.hd M;refine FY (A8 I T U (by rfl) ?_ (by decide) (by decide));refine Gs ?_ rfl rfl;refine GU ?_;refine FY (A8 I hs ms (by rfl) ?_ (by decide) (by decide));refine Ga ?_ (c7 D) rfl;rw [c7 D];refine GU (thn (he pins s σ H _ I h) λu r ⟨x,W,w,Y,a,ns,e1,m,hz,q⟩=>?_);subst e1;cases Y;refine Hj ?_;have l:∀ (d:List Value),d.length=ns.length->PyProof.Rows.IntsAre d ns->(r.heap.IsTuple a d.toArray\/r.heap.IsList a d.toArray) ->
   wpAny (model X.prog X.w) X.A (call (.type "set") [.ref a]) (λv z=>wpAny (model X.prog X.w) X.A (spliced (backTo pos (starEach [] X.env))) (λvs L=>wpAny (model X.prog X.w) X.A (call (.builtin "sorted") (v :: vs)) (EP X pins σ Q) X.xe L) X.xe z) X.xe r:=λd f hi C=>by
  refine HT.callLHt (knd:=intKind X.prog X.w) (λi=>ns.getD i 0) E C (λi v hv=>?_) (by rw [Ey,f];show ns.length+1<4096;have:=hz.1;omega) λg tk ⟨B,K⟩=>?_
  ·obtain ⟨t,rfl⟩:=PyProof.Rows.IntsAre.int_at hi i v (by rw [<- Hh];exact hv);exact ⟨intKind_is _ _ _ _,rfl⟩
  ·refine Hj ?_;have sz:d.toArray.size=ns.length:=by rw [Ey,f]
   rw [sz] at B;refine HT.sortLHt E B (HT.metK_nd _ _) hz.2 λz y out ms c kp rs le Z J P N=>?_;have em:=dk (P.trans (v7 (A2 ns)).symm) N (bQ _);subst em;have A:=λb u F=>kp b u (K b u (Ew F) F);have j:r.heap.objs.size<=y:=by
    refine FD ?_ le;obtain ⟨_,_,_,_,ho,_⟩:=B;exact HQ (Ew ho)
   have S:=w.hok.fresh j;have G:=(w.laid (t':=z.toks) (o:=.lst ((srt (A2 ns)).map V.int)) A j ⟨by rw [En,(v7 _).length_eq,Fp];have:=hz.2;omega,out.toList,c,W8 J,by rw [Array.toArray_toList];exact Z⟩).dr z.drawn;refine ⟨.ref y,upd W y (.lst ((srt (A2 ns)).map V.int)),?_,rfl,q y S⟩;rw [rs];exact G
 rcases m with m | m
 ·obtain ⟨d,k,pl,hsz⟩:=w.list m;have f:d.length=ns.length:=by rw [<- k.length,En]
  exact l d f (E5 k) (.inr pl.isList)
 ·obtain ⟨d,k,⟨ob,R,O,n,o3⟩,hsz⟩:=w.tuple m;have f:d.length=ns.length:=by rw [<- k.length,En]
  exact l d f (E5 k) (.inl ⟨ob,R,O,n,o3⟩)
def I0 (d:D):M D:=bind (B1 d) λds=>match t8 ds with
 | some ns=>if ns.length<4000/\(A2 ns).length<64 then ret (.lst ((srt (A2 ns)).map D.int)) else bad
 | none=>bad
theorem lL (m:X.calm=true) (q:Gl X "sorted") (t:X.mg "sorted" = none) (hs:Gl X "set") (ms:X.mg "set" = none) (u:PE X e (tD X.K cl xe f)) (k:noStar e=true):PE X (.Call (.Name "sorted" p) [.Call (.Name "set" p2) [e] [] pos2] [] pos) (tD X.K cl xe λρ=>bind (f ρ) I0):=
 PE.imp (lZ m q t hs ms u k) λσ H Q ⟨μ,S,ρ,r,o,p⟩=>⟨μ,S,ρ,r,o,p.bind.imp λd S1 i y A j b v x=>by
  obtain ⟨a,xs,ds,rfl,w,n,s⟩:=Q0 x j b.bind;have b:=b.ok_bind s;cases g:t8 ds with
  | none=>rw [g] at b;exact b.elim
  | some ns=>
   rw [g] at b;obtain ⟨hz,b⟩:=Post.guard b;have:=aF g n;subst this;refine ⟨a,ns,rfl,w,hz,λz hz=>?_⟩;obtain ⟨l,h,c⟩:=B7 j (RDs.ints (srt (A2 ns))) hz;exact b i _ l h _ c⟩
end
def vt:RuE where
 is Γ lc e:=match e with
  | .Call (.Name x _) [.Call (.Name y _) [a] [] _] [] _=>decide (x = "sorted")&&decide (y = "set")&&(Γ.gl.lookup ("sorted" : Str)).isNone&&(Γ.gl.lookup ("set" : Str)).isNone&&glB lc.sc "sorted" && glB lc.sc "set" && !quiet lc&&noStar a
  | _=>false
 run r _ _ lc e ρ:=match e with
  | .Call (.Name _ _) [.Call (.Name _ _) [a] [] _] [] _=>bind (r.e lc a ρ) I0
  | _=>bad
 ok {T k r Γ C lc X} e R TX h hi:=by
  split at hi
  ·simp only [Ep,Fh,FQ,Gg] at hi;obtain ⟨⟨⟨⟨⟨⟨⟨rfl,rfl⟩,g⟩,l⟩,b⟩,f⟩,j⟩,i⟩:=hi;exact lL (h.calm j) (h.gl b) (TX.none h (by decide) g) (h.gl f) (TX.none h (by decide) l) (R.ex h _) i
  ·cases hi
 runK q _ _ lc e ρ _ k:=match e with
  | .Call (.Name _ _) [.Call (.Name _ _) [a] [] _] [] _=>q.e lc a ρ λd=>bind (I0 d) k
  | _=>bad
 eq e ρ _ k h:=by
  split
  ·simp only [h.e,bind_assoc]
  ·first
   | rfl
   | (rename_i c;split;exact (c _ _ _ _ _ _ _ rfl).elim;rfl)
theorem a7 {k:α->M β} {S S':Sto} {a:α} (e:m S=.ok a S'):bind m k S=k a S':=by unfold bind;rw [e]
theorem aB {d:D} (h:S[p]?=some (.dct kvs)) (e:rH kvs (.inr x)=some d):ixD (.ref p) (.str x) S=.ok d S:=by
 simp only [ixD,h,O2,Ht,e,dL,ret]
theorem az {v:D} (h:S[p]?=some (.dct kvs)) (a:kvs.length<sizeLine) (e:mG kvs (.inr x) v=kvs'):K1 (.ref p) (.str x) v S=.ok .non (S.set p (.dct kvs')):=by
 simp only [K1,h,O2,if_pos a,e]
theorem gc {S:Sto} {p:Nat} {o o':O} (h:S[p]?=some o):(S.set p o')[p]?=some o':=by grind
def m9 (ns:List Int) (a l t:Int):O:=.dct [(.inr "cells",.lst (ns.map D.int)),(.inr "at",.int a),(.inr "left",.int l),(.inr "turn",.int t)]
section
variable {S:Sto} {p:Nat} {ns:List Int} {a l t:Int} (h:S[p]?=some (m9 ns a l t))
include h
theorem sP:ixD (.ref p) (.str "cells") S=.ok (.lst (ns.map D.int)) S:=aB h rfl
theorem Da:ixD (.ref p) (.str "at") S=.ok (.int a) S:=aB h rfl
theorem iP:ixD (.ref p) (.str "left") S=.ok (.int l) S:=aB h rfl
theorem og:ixD (.ref p) (.str "turn") S=.ok (.int t) S:=aB h rfl
theorem BG (v:Int):K1 (.ref p) (.str "at") (.int v) S=.ok .non (S.set p (m9 ns v l t)):=az h (by show 4<sizeLine;decide) rfl
theorem ju (v:Int):K1 (.ref p) (.str "left") (.int v) S=.ok .non (S.set p (m9 ns a v t)):=az h (by show 4<sizeLine;decide) rfl
theorem vy (v:Int):K1 (.ref p) (.str "turn") (.int v) S=.ok .non (S.set p (m9 ns a l v)):=az h (by show 4<sizeLine;decide) rfl
end
theorem bH (i j:Int) (S:Sto):i7 (.int i) (.int j) S=.ok (.int (i+j)) S:=rfl
theorem ai {i j:Int} (h:0<j) (S:Sto):G3 (.int i) (.int j) S=.ok (.int (i % j)) S:=by simp only [G3,if_pos h,ret]
theorem de {i j:Int} (h:0<j) (b:j<1073741824) (S:Sto):X4 (.int i) (.int j) S=.ok (.int (i / j)) S:=by
 have a:qF i j:=⟨h,b⟩;simp only [X4,if_pos a,ret]
theorem fR (h:CMul i j) (S:Sto):cE (.int i) (.int j) S=.ok (.int (i * j)) S:=by simp only [cE,if_pos h,ret]
theorem bL (ns:List Int) (S:Sto):p8 (.lst (ns.map D.int)) S=.ok (.int ns.length) S:=by
 show R.ok (D.int ((ns.map D.int).length:Nat)) S=_;grind
theorem uV {ns:List Int} {a:Int} (f:0<=a) (g:0<ns.length) (S:Sto):∃ z:Int,ixD (.lst (ns.map D.int)) (.int (a % (ns.length:Int))) S=.ok (.int z) S:=by
 have c:(0:Int)<(ns.length:Int):=by omega
 have e:=Iy a (Js c);have h:=HJ a c;obtain ⟨j,d⟩:=Gv e;have b:j<ns.length:=by omega
 refine ⟨ns[j],?_⟩;rw [d];show dL (atI (ns.map D.int) (j:Int)) S=_;rw [aD (by rw [Fz,Em b];rfl)];rfl
theorem set_set {S:Sto} {p:Nat} {o o':O}:(S.set p o).set p o'=S.set p o':=List.set_set ..
def eG (p m e d:D):M D:=
 bind (ixD p (.str "turn")) λa=>bind (G3 d (.int 1000003)) λl=>bind (cE l (.int 48271)) λk=>bind (cE (.int 7919) a) λg=>bind (i7 k g) λi=>bind (i7 i (.int 104729)) λj=>bind (G3 j (.int 2147483647)) λc=>
 bind (X4 c (.int 64)) λf=>bind (cE f (.int 69621)) λt=>bind (cE (.int 31) a) λh=>bind (cE h a) λq=>bind (i7 t q) λo=>bind (i7 o e) λn=>bind (G3 n (.int 2147483587)) λb=>
 bind (X4 b (.int 64)) λs=>bind (G3 s m) λr=>ret r
def dq (p m b a:D) (z:Bool):M D:=
 if z=true then bind (X4 a m) λv=>bind (K1 p (.str "left") v) λ_=>bind (G3 a m) λd=>ret d
 else eG p m b a
def L5 (p m b cells a:D):M D:=
 bind (uT (.int 10) (.int 18)) λy=>bind (a9 .GtE a y) λd=>bind (asB d) λc=>
 if c=true then bind (p8 cells) λy=>bind (a9 .Lt b y) λd=>bind (asB d) λz=>dq p m b a z
 else dq p m b a false
def ii (p m:D):M D:=
 bind (ixD p (.str "turn")) λx=>bind (i7 x (.int 1)) λe=>bind (K1 p (.str "turn") e) λ_=>
 bind (ixD p (.str "left")) λx=>bind (a9 .Gt x (.int 0)) λd=>bind (asB d) λz=>
 if z=true then bind (ixD p (.str "left")) λx=>bind (G3 x m) λb=>bind (ixD p (.str "left")) λx=>bind (X4 x m) λv=>bind (K1 p (.str "left") v) λ_=>ret b
 else bind (ixD p (.str "cells")) λcells=>bind (ixD p (.str "at")) λa=>bind (i7 a (.int 1)) λv=>bind (K1 p (.str "at") v) λ_=>bind (p8 cells) λx=>bind (a9 .Gt x (.int 0)) λd=>bind (asB d) λz=>
  if z=true then bind (p8 cells) λy=>bind (G3 a y) λi=>bind (ixD cells i) λc=>L5 p m a cells c
  else L5 p m a cells (.int 0)
theorem gP {a l t m c b:Int} (h:S[p]?=some (m9 ns a l t)) (d:0<m) (f:0<=t) (e:t<2000000):∃ r:Int,eG (.ref p) (.int m) (.int b) (.int c) S=.ok (.int r) S/\0<=r/\r<m:=by
 unfold eG;rw [a7 (og h),a7 (ai (by decide) S),a7 (fR (.inr ⟨by decide,by decide⟩) S),a7 (fR (.inl ⟨by decide,by decide⟩) S),a7 (bH _ _ S),a7 (bH _ _ S),a7 (ai (by decide) S),
  a7 (de (by decide) (by decide) S),a7 (fR (.inr ⟨by decide,by decide⟩) S),a7 (fR (.inl ⟨by decide,by decide⟩) S),a7 (fR (.inr ⟨by omega,by omega⟩) S),a7 (bH _ _ S),a7 (bH _ _ S),a7 (ai (by decide) S),a7 (de (by decide) (by decide) S),a7 (ai d S)]
 exact ⟨_,rfl,Iy _ (Js d),HJ _ d⟩
theorem fm {S:Sto} {p:Nat} {ns:List Int} {a l t m c b:Int} (h:S[p]?=some (m9 ns a l t)) (ha:0<=a) (hl:0<=l) (ht:0<=t) (htb:t<2000000) (hm:0<m) (hm2:m<1073741824) :
  ∃ r l',L5 (.ref p) (.int m) (.int b) (.lst (ns.map D.int)) (.int c) S=.ok (.int r) (S.set p (m9 ns a l' t))/\0<=r/\r<m/\0<=l':=by
 unfold L5;have hp:uT (.int 10) (.int 18) S=.ok (.int 1000000000000000000) S:=rfl;rw [a7 hp];have hc:a9 .GtE (.int c) (.int 1000000000000000000) S=.ok (.bl (decide (1000000000000000000<=c))) S:=rfl;rw [a7 hc,a7 (show asB _ _=_ from rfl)];have same:S.set p (m9 ns a l t)=S:=by
  apply List.ext_getElem?;intro i;by_cases e:p=i
  ·subst e;rw [gc h,h]
  ·rw [Ff e]
 have fin:∀ z:Bool,(z=true->1000000000000000000<=c)->∃ r l',dq (.ref p) (.int m) (.int b) (.int c) z S=.ok (.int r) (S.set p (m9 ns a l' t))/\0<=r/\r<m/\0<=l':=λz hz=>by
  unfold dq;cases z with
  | true=>
   rw [if_pos rfl,a7 (de hm hm2 _),a7 (ju h _),a7 (ai hm _)];exact ⟨_,c / m,rfl,Iy _ (Js hm),HJ _ hm,Int.ediv_nonneg (Jt (by decide) (hz rfl)) (Int.le_of_lt hm)⟩
  | false=>
   rw [if_neg Er];obtain ⟨r,e,r1,r2⟩:=gP (c:=c) (b:=b) h hm ht htb;exact ⟨r,l,by rw [e,same],r1,r2,hl⟩
 by_cases hz:(1000000000000000000:Int)<=c
 ·rw [Fa hz,if_pos rfl,a7 (bL ns _)];have hc2:a9 .Lt (.int b) (.int (ns.length:Int)) S=.ok (.bl (decide (b<(ns.length:Int)))) S:=rfl;rw [a7 hc2,a7 (show asB _ _=_ from rfl)];exact fin _ λ_=>hz
 ·rw [Fv hz,if_neg Er];exact fin _ λz=>by cases z
theorem qU (h:S[p]?=some (m9 ns a l t)) (q:0<=a) (o:0<=l) (A:0<=t) (s:t<1000000) (f:0<m) (i:m<1073741824) :
  ∃ r g d,ii (.ref p) (.int m) S=.ok (.int r) (S.set p (m9 ns g d (t+1)))/\0<=r/\r<m/\0<=g/\0<=d:=by
 unfold ii;rw [a7 (og h),a7 (bH _ _ S),a7 (vy h _)];have b:=gc (o':=m9 ns a l (t+1)) h;have w:a9 .Gt (.int l) (.int 0) (S.set p (m9 ns a l (t+1)))=.ok (.bl (decide (0<l))) (S.set p (m9 ns a l (t+1))):=rfl;rw [a7 (iP b),a7 w,a7 (show asB _ _=_ from rfl)];by_cases hz:0<l
 ·rw [Fa hz,if_pos rfl,a7 (iP b),a7 (ai f _),a7 (iP b),a7 (de f i _),a7 (ju b _),set_set];exact ⟨_,a,l / m,rfl,Iy _ (Js f),HJ _ f,q,Int.ediv_nonneg o (Int.le_of_lt f)⟩
 ·rw [Fv hz,if_neg Er,a7 (sP b),a7 (Da b),a7 (bH _ _ _),a7 (BG b _),set_set,a7 (bL ns _)];have y:=gc (o':=m9 ns (a+1) l (t+1)) h;have j:a9 .Gt (.int (ns.length:Int)) (.int 0) (S.set p (m9 ns (a+1) l (t+1)))=.ok (.bl (decide (0<(ns.length:Int)))) (S.set p (m9 ns (a+1) l (t+1))):=rfl;rw [a7 j,a7 (show asB _ _=_ from rfl)];have k:∀ c:Int,∃ r g d,L5 (.ref p) (.int m) (.int a) (.lst (ns.map D.int)) (.int c) (S.set p (m9 ns (a+1) l (t+1)))=.ok (.int r) (S.set p (m9 ns g d (t+1)))/\0<=r/\r<m/\0<=g/\0<=d:=λc=>by
   obtain ⟨r,d,e,u,x,v⟩:=fm y (by omega) o (by omega) (by omega) f i;rw [set_set] at e;exact ⟨r,a+1,d,e,u,x,by omega,v⟩
  by_cases n:0<(ns.length:Int)
  ·rw [Fa n,if_pos rfl,a7 (bL ns _),a7 (ai n _)];obtain ⟨z,e⟩:=uV (ns:=ns) q (by omega) (S.set p (m9 ns (a+1) l (t+1)));rw [a7 e];exact k z
  ·simp_all
mutual
noncomputable def szP:PyData->Nat
 | .none=>4
 | .bool _=>5
 | .int _=>13
 | .str x=>(PyData.shown (.str x)).length
 | .list xs=>mT xs+3
 | .tuple xs=>mT xs+3
 | .dict _=>0
noncomputable def mT:List PyData->Nat
 | []=>0
 | x :: xs=>szP x+2+mT xs
end
def SmI (i:Int):Prop:=-999999999999<=i/\i<=999999999999
mutual
def Sm:PyData->Prop
 | .none=>True
 | .bool _=>True
 | .int i=>SmI i
 | .str _=>True
 | .list xs=>Sms xs
 | .tuple xs=>Sms xs
 | .dict _=>False
def Sms:List PyData->Prop
 | []=>True
 | x :: xs=>Sm x/\Sms xs
end
mutual
theorem wH:∀ p:PyData,Sm p->p.shown.length<=szP p
 | .none,_=>by decide
 | .bool b,_=>by cases b <;> decide
 | .int i,h=>PyData.shown_int_le2 h.1 h.2
 | .str x,_=>Es _
 | .list xs,h=>by
  have c:=gk xs h;have a:=listText_len_le (PyData.shownAll xs);have d:=GZ xs;simp only [PyData.shown,szP];omega
 | .tuple xs,h=>by
  have c:=gk xs h;have a:=tupleText_len_le (PyData.shownAll xs);have d:=GZ xs;simp only [PyData.shown,szP];omega
 | .dict _,h=>h.elim
theorem gk:∀ xs:List PyData,Sms xs->((PyData.shownAll xs).map (·.length)).sum+2 * xs.length<=mT xs
 | [],_=>by simp [PyData.shownAll,mT]
 | x :: xs,h=>by
  have h1:=wH x h.1;have h2:=gk xs h.2;simp only [PyData.shownAll,mT,Fs,List.sum_cons,GE];omega
end
theorem gp {i:Int} (h:i.natAbs<2 ^ 40):decide (i.natAbs.log2<1920)=true:=by
 refine Fa ?_;by_cases z:i.natAbs=0
 ·rw [z];decide
 ·have:=(Nat.log2_lt z).mpr h;omega
theorem yS (h:SmI i):PyData.showable (.int i)=true:=gp (by have:=h.1;have:=h.2;omega)
mutual
theorem jF:∀ p:PyData,Sm p->p.showable=true
 | .none,_=>rfl
 | .bool b,_=>rfl
 | .int i,h=>yS h
 | .str x,_=>rfl
 | .list xs,h=>by simp only [PyData.showable];exact aM xs h
 | .tuple xs,h=>by simp only [PyData.showable];exact aM xs h
 | .dict _,h=>h.elim
theorem aM:∀ xs:List PyData,Sms xs->PyData.showableAll xs=true
 | [],_=>rfl
 | x :: xs,h=>by simp only [PyData.showableAll,jF x h.1,aM xs h.2,HG]
end
mutual
theorem jC:∀ p:PyData,Sm p->p.hasDict=false
 | .none,_=>rfl
 | .bool b,_=>rfl
 | .int i,h=>rfl
 | .str x,_=>rfl
 | .list xs,h=>by simp only [PyData.hasDict];exact bZ xs h
 | .tuple xs,h=>by simp only [PyData.hasDict];exact bZ xs h
 | .dict _,h=>h.elim
theorem bZ:∀ xs:List PyData,Sms xs->PyData.hasDictAll xs=false
 | [],_=>rfl
 | x :: xs,h=>by simp only [PyData.hasDictAll,jC x h.1,bZ xs h.2,Bool.or_self]
end
structure Nice (p:PyData):Prop where
 sm:Sm p
 dp:p.depth<=60
 sz:szP p<=4000
theorem Nice.len (h:Nice p):p.shown.length<=4000:=FD (wH p h.sm) h.sz
theorem Nice.shows (h:Nice p):Shows p:=⟨jF p h.sm,jC p h.sm,h.dp,by have:=h.len;rw [Fp];omega⟩
theorem AN (e:d9 64 S d=some p) (h:Nice p) (hd:∀ x,d=.str x->x.length<=4000):B4 S d=true:=by
 unfold B4;rw [e];simp;refine ⟨⟨h.shows,h.len⟩,?_⟩;grind
theorem qK (h:SmI i):Nice (.int i):=⟨h,by show PyData.depth (.int i)<=60;simp [PyData.depth],by show (13:Nat)<=4000;decide⟩
theorem yu {i:Int} (h:SmI i):B4 S (.int i)=true:=AN rfl (qK h) (λx e=>by cases e)
theorem zj (b:ds.length=fs.length) (a:ds.all (B4 S)=true):P2 c fs ds S=.ok (.ref S.length) (S++[.exc c (fs.zip ds)]):=by
 unfold P2;grind
theorem vZ (x:Str) (S:Sto):a9 .Eq (.str x) (.str x) S=.ok (.bl true) S:=by
 show R.ok (D.bl (decide (x=x))) S=_;grind
theorem c9 (b:Bool) (S:Sto):asB (.bl b) S=.ok b S:=rfl
def cL (o:Option (Option Value)) (x:String):Bool:=match o with
 | some (some (.builtin y))=>decide (y=x)
 | _=>false
theorem Q3 (h:cL o x=true):o=some (some (.builtin x)):=by
 unfold cL at h;grind
def isNo (o:Option (Option Value)):Bool:=match o with
 | some none=>true
 | _=>false
theorem Z4 (h:isNo o=true):o=some none:=by
 unfold isNo at h;grind
def isB (o:Option Bool) (b:Bool):Bool:=match o with
 | some c=>c==b
 | none=>false
theorem X0 (h:isB o b=true):o=some b:=by
 unfold isB at h;grind
def xcB (K:PySem.W.Frag) (C:Addr):Bool:=
 cL (PySem.W.findIn K (.ref C) "__getattribute__") "BaseException.__getattribute__" && (isNo (PySem.W.findIn K (.ref C) "__getattr__")&&(isB (PySem.W.mroIn K C (.type "BaseException")) true&&(isB (PySem.W.mroIn K C (.type "object")) true &&
 (PySem.W.hasDictIn K C&&(cL (PySem.W.findIn K (.ref C) "__class__") "object.__class__" && (cL (PySem.W.specialIn K (.builtin "object.__class__") "__get__") "getset_descriptor.__get__" && (isB (PySem.W.takesIn K (.builtin "object.__class__")) true &&
 (X6 K C&&((PySem.W.clsIn K C).any (λa=>A9 a.mro)&&(cL (PySem.W.findIn K (.ref C) "__setattr__") "object.__setattr__" && PySem.W.keepIn K (.ref C)))))))))))
theorem O7 {K:PySem.W.Frag} {C:Addr} (h:xcB K C=true):XC K C:=by
 simp only [xcB,Ep] at h;obtain ⟨d,e,l,m,j,f,g,i,k,a,b,c⟩:=h;exact ⟨⟨Q3 d,Z4 e,X0 l,X0 m,j,Q3 f,Q3 g,X0 i⟩,k,a,Q3 b,c⟩
def bj (cs:List Addr) (a:Addr) (c:Nat):Addr:=cs.getD c a
structure RowB (K:PySem.W.Frag) (Γ:Gm) (cs:List Addr) (junk:Addr):Prop where
 xc:cs.all (xcB K)=true
 jk:X6 K junk=false
 sub:((List.range cs.length).all λc=>(List.range cs.length).all λc0=>isB (PySem.W.kitOne K (.ref (bj cs junk c)) (.ref (bj cs junk c0))) (Γ.sub c c0))=true
 sV:(cs.all λC=>isB (PySem.W.kitOne K (.ref C) (.type "ValueError")) true)=true
 sT:(cs.all λC=>tys.all λt=>isB (PySem.W.kitOne K (.ref C) (.type t)) false)=true
 fl:(Γ.flds.all λg=>cs.all λC=>isNo (PySem.W.findIn K (.ref C) g))=true
 bl:(bnames.all λx=>(Γ.gl.lookup x).isSome||isNo (PySem.W.nsIn K mainGlobals x))=true
theorem As {K:PySem.W.Frag} {cs:List Addr} {a:Addr} (d:X6 K a=false) {c:Nat} (h:XC K (bj cs a c)):c<cs.length/\bj cs a c∈cs:=by
 by_cases b:c<cs.length
 ·refine ⟨b,?_⟩;unfold bj;rw [Fc,Em b];exact FK b
 ·have e:bj cs a c=a:=by
   unfold bj;rw [Fc,FO (Hs b)];rfl
  rw [e] at h;have:=h.ex;rw [d] at this;cases this
theorem RowB.st {Γ:Gm} {cs:List Addr} {j:Addr} {h:Heap} (B:RowB T.K Γ cs j) (X:T.K.In h) (G:h.Ns mainGlobals T.mg) (o:T.cl=bj cs j) (w:∀ x d,Γ.gl.lookup x=some (.val d)->∃ u v,T.mg x=some u/\RelV v u/\∀ μ H,RD T.K μ H d v)
  (r:∀ x c fs,Γ.gl.lookup x=some (.err c fs)->c<cs.length/\ErrAt T x c fs/\∀ g∈fs,g∈Γ.flds) (hd:∀ x k,Γ.gl.lookup x=some (.dct k)->nH T x k):TxSt T Γ:=by
 have i:∀ c,XC T.K (T.cl c)->c<cs.length/\T.cl c∈cs:=λc f=>by rw [o] at f ⊢;exact As B.jk f
 have p:=λg l c f=>by
  have:=(Fi.mp B.fl) g l;exact Z4 ((Fi.mp this) _ (i c f).2)
 refine ⟨λx s y=>?_,w,λx c fs e=>?_,λx c c0 fs e f=>?_,λc f=>?_,λc f t z=>?_,p,hd⟩
 ·have:=(Fi.mp B.bl) x s;rw [y] at this;exact PySem.W.mg_none_of X G (Z4 this)
 ·obtain ⟨n,m,q⟩:=r x c fs e;exact ⟨m,λg l=>p g (q g l) c m.xc⟩
 ·obtain ⟨n,m,q⟩:=r x c0 fs e;have a:=(Fi.mp B.sub) c (Fq.mpr (i c f).1);have b:=(Fi.mp a) c0 (Fq.mpr n);rw [o];exact X0 b
 ·exact X0 ((Fi.mp B.sV) _ (i c f).2)
 ·have a:=(Fi.mp B.sT) _ (i c f).2;exact X0 ((Fi.mp a) t z)
def dZ (K:PySem.W.Frag):Sp:=λvs H Q _=>∃ (a:Addr) (ns:List Int),vs=[.ref a]/\SqL K H a (ns.map V.int)/\∀ H',Q (.bl true) H'
theorem mH {K:PySem.W.Frag} {cl:Nat->Addr} {b:List D->M D} (d:∀ ns:List Int,∃ S',b [.scr (ns.map D.int)] []=.ok (.bl true) S'):∀ vs H Q E,dZ K vs H Q E->spD K cl 1 b vs H Q E:=by
 rintro vs H Q E ⟨a,ns,rfl,c,q⟩;obtain ⟨S',e⟩:=d ns;refine ⟨rfl,⟨[],[]⟩,[],[.scr (ns.map D.int)],.cons (.scr ?_ (RDs.ints ns)) .nil,⟨rfl,by simp,λn o a e=>by simp at e,λa m=>by simp at m⟩,?_⟩
 ·rcases c with h | h
  ·exact .inl ⟨h,by simp,by simp⟩
  ·exact .inr h
 ·rw [e];intro μ' H' l r v f;cases f;exact q H'
theorem ln1 {α:Type} {p:List α->Prop} {us:List α} (hl:us.length=1) (h:∀ a,p [a]):p us:=by
 obtain ⟨a,rfl⟩:=List.length_eq_one_iff.mp hl;exact h a
theorem lnS {α:Type} {p:List α->Prop} {us:List α} {n:Nat} (hl:us.length=n+1) (h:∀ a ws,ws.length=n->p (a :: ws)):p us:=by
 cases us with
 | nil=>cases hl
 | cons a ws=>exact h a ws (Nat.succ.inj hl)
theorem ln2 {α:Type} {p:List α->Prop} {us:List α} (hl:us.length=2) (h:∀ a b,p [a,b]):p us:=lnS hl λa _ e=>ln1 (p:=λw=>p (a :: w)) e (h a)
theorem ln3 {α:Type} {p:List α->Prop} {us:List α} (hl:us.length=3) (h:∀ a b c,p [a,b,c]):p us:=lnS hl λa _ e=>ln2 (p:=λw=>p (a :: w)) e (h a)
theorem kq {fd:FuncData} {ps:List Str} {us:List Value} (hl:us.length=1) (h:∀ a,bindArgs fd ⟨[a],[]⟩=pure (ps.zip [a])):bindArgs fd ⟨us,[]⟩=pure (ps.zip us):=ln1 (p:=λus=>bindArgs fd ⟨us,[]⟩=pure (ps.zip us)) hl h
theorem D6 {fd:FuncData} {ps:List Str} {us:List Value} (hl:us.length=2) (h:∀ a b,bindArgs fd ⟨[a,b],[]⟩=pure (ps.zip [a,b])):bindArgs fd ⟨us,[]⟩=pure (ps.zip us):=ln2 (p:=λus=>bindArgs fd ⟨us,[]⟩=pure (ps.zip us)) hl h
theorem gU {fd:FuncData} {ps:List Str} {us:List Value} (hl:us.length=3) (h:∀ a b c,bindArgs fd ⟨[a,b,c],[]⟩=pure (ps.zip [a,b,c])):bindArgs fd ⟨us,[]⟩=pure (ps.zip us):=ln3 (p:=λus=>bindArgs fd ⟨us,[]⟩=pure (ps.zip us)) hl h
structure GF (K:PySem.W.Frag) (x:Str) (st:Stmt) (g:Addr):Prop where
 a:PySem.W.nsIn K mainGlobals x=some (some (.ref g))
 f:∃ fd,Fun K x x st g fd
theorem gf_mk {K:PySem.W.Frag} {x:Str} {st:Stmt} {g:Addr} {oc:Value} {od an:Option Addr} {osl:Array (Option Value)} {kV doc pm cdv ct:Value} (a:PySem.W.nsIn K mainGlobals x=some (some (.ref g))) (l:K.lookup g=some ⟨oc,od,.func (PySem.W.fnOf x x (k8 st) (h9 st) (b7 st) .none kV doc pm an cdv ct),osl⟩) (c:PySem.W.codeIn K cdv x=true) (k:PySem.W.keepIn K (.ref g)=true):GF K x st g:=⟨a,_,K8 l c k⟩
theorem fe {T:Tx} {h:Heap} (X:T.K.In h) (G:h.Ns mainGlobals T.mg) {x:Str} {st:Stmt} {g:Addr} {m:List Str} {Tb:List Fd} {i n:Nat} (d:GF T.K x st g) (sc:dB (q4 st m)=true) (hb:∀ (kV doc pm:Value) (an:Option Addr) (cdv ct:Value) (us:List Value),us.length=(q4 st m).ps.length->bindArgs (PySem.W.fnOf x x (k8 st) (h9 st) (b7 st) .none kV doc pm an cdv ct) ⟨us,[]⟩=pure ((q4 st m).ps.zip us)) (hT:Tb[i]?=some (q4 st m)) (hn:(q4 st m).ps.length=n):∃ fd,Tb[i]?=some fd/\fd.ps.length=n/\FnTx T x fd:=by
 obtain ⟨fd,F⟩:=d.f;exact ⟨_,hT,hn,⟨g,_,_,st,F,rfl,rfl,bR sc,F.binds hb,Gu X G d.a⟩⟩
def zE (T:Tx) (Tb:List Fd):List (Str×G)->Prop
 | []=>True
 | (x,.fn i n) :: l=>(∃ fd,Tb[i]?=some fd/\fd.ps.length=n/\FnTx T x fd)/\zE T Tb l
 | _ :: l=>zE T Tb l
theorem BS {T:Tx} {Γ:Gm} {Tb:List Fd} (h:zE T Tb Γ.gl):nM T Γ Tb:=λx i n e=>by
 have m:=L2.mem_of_lookup e;generalize Γ.gl=l at h m;induction l with
 | nil=>cases m
 | cons y l ih=>
  obtain ⟨z,g⟩:=y;rcases Ez.mp m with q | q
  ·cases q;exact h.1
  ·refine ih ?_ q;cases g with
   | fn j k=>exact h.2
   | _=>exact h
theorem ak {n:Nat} (I:Nat->Sto->List D->Prop) (a:∀ S es,I n S es->src n S=some none)
  (c:∀ i S es,i<n->I i S es->∃ d b S1,src i S=some (some d)/\t d S=.ok b S1/\(if b=true then ∃ y S2,f d S1=.ok y S2/\es.length<sizeLine/\I (i+1) S2 (es++[y]) else I (i+1) S1 es)) :
  ∀ (k i:Nat) (S:Sto) (es:List D),k+i=n->I i S es->∃ es' S',f9 src t f (k+1) i es S=.ok es' S'/\I n S' es'
 | 0,i,S,es,j,h=>by
  have:i=n:=by omega
  subst this;refine ⟨es,S,?_,h⟩;simp only [f9,a S es h]
 | k+1,i,S,es,j,h=>by
  obtain ⟨d,b,S1,l,m,e⟩:=c i S es (by omega) h;have g:f9 src t f (k+1+1) i es S=bind (t d) (λb=>if b=true then bind (f d) (λy=>if es.length<sizeLine then f9 src t f (k+1) (i+1) (es++[y]) else bad) else f9 src t f (k+1) (i+1) es) S:=by
   conv=>lhs;unfold f9
   simp only [l]
  rw [g,a7 m];cases b with
  | true=>
   rw [if_pos rfl] at e ⊢;obtain ⟨y,S2,p,o,q⟩:=e;rw [a7 p,if_pos o];exact ak I a c k (i+1) S2 _ (by omega) q
  | false=>
   rw [if_neg Er] at e ⊢;exact ak I a c k (i+1) S1 _ (by omega) e
def Ok {b:Type} (m:M b) (S:Sto) (Q:b->Sto->Prop):Prop:=∃ a S',m S=.ok a S'/\Q a S'
section
variable {α β:Type} {S S1:Sto} {m m':M α} {k:α->M β} {a:α} {Q Q':α->Sto->Prop} {P:β->Sto->Prop}
theorem Ok.ret (h:Q a S):Ok (ret a) S Q:=⟨a,S,rfl,h⟩
theorem Ok.of (e:m S=.ok a S1) (h:Q a S1):Ok m S Q:=⟨a,S1,e,h⟩
theorem Ok.bind (h:Ok m S λa S1=>Ok (k a) S1 P):Ok (L3.bind m k) S P:=by
 obtain ⟨a,S1,e,b,S2,c,q⟩:=h;exact ⟨b,S2,by rw [a7 e];exact c,q⟩
theorem Ok.eq (e:m S=.ok a S1) (h:Ok (k a) S1 P):Ok (L3.bind m k) S P:=Ok.bind ⟨a,S1,e,h⟩
theorem Ok.mono (h:Ok m S Q) (i:∀ a S1,Q a S1->Q' a S1):Ok m S Q':=by
 obtain ⟨a,S1,e,q⟩:=h;exact ⟨a,S1,e,i _ _ q⟩
theorem Ok.cg (e:m=m') (h:Ok m' S Q):Ok m S Q:=e▸h
theorem Ok.cgS (e:m S=m' S) (h:Ok m' S Q):Ok m S Q:=by
 obtain ⟨a,S1,b,q⟩:=h;exact ⟨a,S1,by rw [e];exact b,q⟩
theorem Ok.ite {c:Prop} [Decidable c] {a m2:M α} (b:c->Ok a S Q) (d:¬ c->Ok m2 S Q):Ok (if c then a else m2) S Q:=by grind
end
theorem Ok.comp {n:Nat} (I:Nat->Sto->List D->Prop) (c:∀ S es,I n S es->src n S=some none)
  (a:∀ i S es,i<n->I i S es->∃ d,src i S=some (some d)/\Ok (t d) S λb S1=>if b=true then Ok (f d) S1 λy S2=>es.length<sizeLine/\I (i+1) S2 (es++[y]) else I (i+1) S1 es) {S:Sto} (h:I 0 S []) :
  Ok (f9 src t f (n+1) 0 []) S λes S'=>I n S' es:=by
 obtain ⟨es,S',e,q⟩:=ak I c (λi S es o h=>by
  obtain ⟨d,l,b,S1,m,q⟩:=a i S es o h;refine ⟨d,b,S1,l,m,?_⟩;cases b with
  | true=>
   rw [if_pos rfl] at q ⊢;obtain ⟨y,S2,g,j,k⟩:=q;exact ⟨y,S2,g,j,k⟩
  | false=>
   rw [if_neg Er] at q ⊢;exact q) n 0 S [] (by omega) h
 exact ⟨es,S',e,q⟩
def FlI (I:L3.Env->Sto->Prop) (J:L3.Env->Sto->Prop) (R:D->Sto->Prop) (a:Fl) (S:Sto):Prop:=match a with
 | .nx ρ=>I ρ S
 | .ct ρ=>I ρ S
 | .bk ρ=>J ρ S
 | .rt d=>R d S
theorem Ok.for_ {n:Nat} (I:Nat->L3.Env->Sto->Prop) (J:L3.Env->Sto->Prop) (R:D->Sto->Prop) (hend:∀ ρ S,I n ρ S->src n S=some none)
  (step:∀ i ρ S,i<n->I i ρ S->∃ d ρ1,src i S=some (some d)/\tg d ρ=some ρ1/\Ok (body ρ1) S (FlI (I (i+1)) J R)) :
  ∀ (k i:Nat) (ρ:L3.Env) (S:Sto),k+i=n->I i ρ S->Ok (h8 src tg body (k+1) i ρ) S λfl S'=>match fl with
   | .nx ρ'=>I n ρ' S'\/J ρ' S'
   | .rt d=>R d S'
   | _=>False
 | 0,i,ρ,S,hk,h=>by
  have:i=n:=by omega
  subst this;exact ⟨.nx ρ,S,by simp only [h8,hend ρ S h],.inl h⟩
 | k+1,i,ρ,S,hk,h=>by
  obtain ⟨d,ρ1,e1,e2,h2⟩:=step i ρ S (by omega) h;have un:h8 src tg body (k+1+1) i ρ S=L3.bind (body ρ1) (λfl=>match fl with
    | .nx ρ2=>h8 src tg body (k+1) (i+1) ρ2
    | .ct ρ2=>h8 src tg body (k+1) (i+1) ρ2
    | .bk ρ2=>L3.ret (.nx ρ2)
    | .rt d=>L3.ret (.rt d)) S:=by
   conv=>lhs;unfold h8
   simp only [e1,e2]
   all_goals rfl
  refine Ok.cgS un (Ok.bind (h2.mono λfl S1 q=>?_));cases fl with
  | nx ρ2=>exact Ok.for_ I J R hend step k (i+1) ρ2 S1 (by omega) q
  | ct ρ2=>exact Ok.for_ I J R hend step k (i+1) ρ2 S1 (by omega) q
  | bk ρ2=>exact Ok.ret (.inr q)
  | rt d=>exact Ok.ret q
theorem Ok.while_ (I:Nat->L3.Env->Sto->Prop) (J:L3.Env->Sto->Prop) (R:D->Sto->Prop)
  (step:∀ k ρ S,I k ρ S->Ok (t ρ) S λb S1=>if b=true then Ok (body ρ) S1 (FlI (λρ2 S2=>∃ j,j<k/\I j ρ2 S2) J R) else J ρ S1) :
  ∀ (m k:Nat) (ρ:L3.Env) (S:Sto),k<m->I k ρ S->Ok (C8 t body m ρ) S λfl S'=>match fl with
   | .nx ρ'=>J ρ' S'
   | .rt d=>R d S'
   | _=>False
 | 0,k,ρ,S,hk,h=>by omega
 | m+1,k,ρ,S,hk,h=>by
  refine Ok.bind ((step k ρ S h).mono λb S1 q=>?_);cases b with
  | false=>
   rw [if_neg Er] at q ⊢;exact Ok.ret q
  | true=>
   rw [if_pos rfl] at q ⊢;refine Ok.bind (q.mono λfl S2 q2=>?_);cases fl with
   | nx ρ2=>obtain ⟨j,hj,q3⟩:=q2;exact Ok.while_ I J R step m j ρ2 S2 (by omega) q3
   | ct ρ2=>obtain ⟨j,hj,q3⟩:=q2;exact Ok.while_ I J R step m j ρ2 S2 (by omega) q3
   | bk ρ2=>exact Ok.ret q2
   | rt d=>exact Ok.ret q2
theorem dN {c:Type} {l:List c} {h g:c->D} {p:c->Bool} {t:D->M Bool} {f:D->M D} {S:Sto} (s:l.length<sizeLine) (m:∀ a∈l,t (h a) S=.ok (p a) S) (k:∀ a∈l,p a=true->f (h a) S=.ok (g a) S):f9 (aZ (l.map h)) t f (l.length+1) 0 [] S=.ok ((l.filter p).map g) S:=by
 obtain ⟨es,S',e,q,r⟩:=Ok.comp (src:=aZ (l.map h)) (λi S' es=>S'=S/\es=((l.take i).filter p).map g) (λS es _=>by show some (l.map h)[l.length]?=some none;rw [FO (by simp)])
  (λi S' es b ⟨j,o⟩=>by
   subst j o;refine ⟨h l[i],?_,p l[i],S',m _ (FK b),?_⟩
   ·show some (l.map h)[i]?=some (some (h l[i]));rw [Fz,Em b];rfl
   ·have n:=GP b;cases d:p l[i] with
    | true=>
     dsimp only;rw [if_pos rfl];refine ⟨g l[i],S',k _ (FK b) d,?_,rfl,?_⟩
     ·grind
     ·grind
    | false=>
     dsimp only;rw [if_neg Er];refine ⟨rfl,?_⟩;rw [n,HK,HP (by rw [d];exact Er),List.filter_nil,FM]) ⟨rfl,rfl⟩
 grind
def Asc (x:Str):Prop:=∀ c∈x.cps.toList,c<128
def C7 (j:Nat):Nat:=1000000000000000000000000000000000000000+j
mutual
def Pln (j:Nat):D->Prop
 | .non=>True
 | .bl _=>True
 | .int i=>i.natAbs<=C7 j
 | .str x=>x.length<=45+j/\Asc x
 | .tup ds=>Plns j ds
 | .lst ds=>Plns j ds
 | .scr _=>False
 | .ref _=>False
def Plns (j:Nat):List D->Prop
 | []=>True
 | d :: ds=>Pln j d/\Plns j ds
end
mutual
noncomputable def py:D->PyData
 | .non=>.none
 | .bl b=>.bool b
 | .int i=>.int i
 | .str x=>.str x
 | .tup ds=>.tuple (pys ds)
 | .lst ds=>.list (pys ds)
 | .scr _=>.none
 | .ref _=>.none
noncomputable def pys:List D->List PyData
 | []=>[]
 | d :: ds=>py d :: pys ds
end
mutual
noncomputable def dp:D->Nat
 | .tup ds=>dps ds+1
 | .lst ds=>dps ds+1
 | _=>0
noncomputable def dps:List D->Nat
 | []=>0
 | d :: ds=>max (dp d) (dps ds)
end
mutual
noncomputable def sz:D->Nat
 | .int _=>60
 | .str x=>10 * x.length+2
 | .tup ds=>szs ds+3
 | .lst ds=>szs ds+3
 | _=>5
noncomputable def szs:List D->Nat
 | []=>0
 | d :: ds=>sz d+2+szs ds
end
theorem Plns.mem:∀ {ds:List D},Plns j ds->∀ d∈ds,Pln j d
 | _ :: _,h,d,hd=>by
  rcases Ez.mp hd with rfl | hd
  ·exact h.1
  ·exact Plns.mem h.2 d hd
theorem Plns.of:∀ {ds:List D},(∀ d∈ds,Pln j d)->Plns j ds
 | [],_=>trivial
 | d :: ds,h=>⟨h d (Fe ..),Plns.of λe a=>h e (Fg _ a)⟩
mutual
theorem Pln.up:∀ (d:D),Pln j d->Pln (j+1) d
 | .non,_=>trivial
 | .bl _,_=>trivial
 | .int i,h=>by have h:i.natAbs<=C7 j:=h;show i.natAbs<=C7 (j+1);unfold C7 at *;omega
 | .str x,h=>⟨by have:=h.1;omega,h.2⟩
 | .tup ds,h=>Plns.up ds h
 | .lst ds,h=>Plns.up ds h
 | .scr _,h=>h.elim
 | .ref _,h=>h.elim
theorem Plns.up:∀ (ds:List D),Plns j ds->Plns (j+1) ds
 | [],_=>trivial
 | d :: ds,h=>⟨Pln.up d h.1,Plns.up ds h.2⟩
end
theorem R9:∀ {ds:List D} {d:D},d∈ds->dp d<=dps ds
 | e :: ds,d,h=>by
  rcases Ez.mp h with rfl | h
  ·show dp d<=max (dp d) (dps ds);omega
  ·have:=R9 h;show dp d<=max (dp e) (dps ds);omega
theorem al:∀ {ds:List D},(∀ d∈ds,dp d<=n)->dps ds<=n
 | [],_=>FJ _
 | d :: ds,h=>by
  have:=h d (Fe ..);have:=al λe a=>h e (Fg _ a);show max (dp d) (dps ds)<=n;omega
theorem M0:∀ (xs ys:List D),szs (xs++ys)=szs xs+szs ys
 | [],_=>by simp [szs]
 | d :: xs,ys=>by
  show sz d+2+szs (xs++ys)=sz d+2+szs xs+szs ys;rw [M0 xs ys];omega
theorem jX:∀ (xs:List D),szs xs.reverse=szs xs
 | []=>rfl
 | d :: xs=>by
  rw [Hl,M0,jX xs];show szs xs+(sz d+2+0)=sz d+2+szs xs;omega
theorem aH:∀ (xs:List D),2 * xs.length<=szs xs
 | []=>Es _
 | d :: xs=>by
  have:=aH xs;show 2 * (xs.length+1)<=sz d+2+szs xs;omega
theorem dY (h:xs.Sublist ys):szs xs<=szs ys:=by
 induction h with
 | slnil=>exact Es _
 | cons d _ ih=>show szs _<=sz d+2+szs _;omega
 | cons_cons d _ ih=>show sz d+2+szs _<=sz d+2+szs _;omega
theorem pr (h:xs[i]?=some d):szs xs=szs (xs.take i)+(sz d+2)+szs (xs.drop (i+1)):=by
 have a:=(Eo.mp h).1;have e:xs=xs.take i++(d :: xs.drop (i+1)):=by
  have:=Eo.mp h
  conv=>lhs;rw [<- List.take_append_drop i xs,List.drop_eq_getElem_cons a]
  rw [this.2]
 conv=>lhs;rw [e,M0]
 show szs _+(sz d+2+szs _)=_;omega
mutual
theorem A0 (S:Sto):∀ (d:D) (n:Nat),Pln j d->dp d<n->d9 n S d=some (py d)
 | .non,n+1,_,_=>rfl
 | .bl _,n+1,_,_=>rfl
 | .int _,n+1,_,_=>rfl
 | .str _,n+1,_,_=>rfl
 | .tup ds,n+1,h,a=>by
  show (f7 (d9 n S) ds).map PyData.tuple=_;rw [bC S ds n h (by have:dps ds+1<n+1:=a;omega)];rfl
 | .lst ds,n+1,h,a=>by
  show (f7 (d9 n S) ds).map PyData.list=_;rw [bC S ds n h (by have:dps ds+1<n+1:=a;omega)];rfl
 | .scr _,_,h,_=>h.elim
 | .ref _,_,h,_=>h.elim
 | .non,0,_,h=>by omega
 | .bl _,0,_,h=>by omega
 | .int _,0,_,h=>by omega
 | .str _,0,_,h=>by omega
 | .tup _,0,_,h=>by omega
 | .lst _,0,_,h=>by omega
theorem bC (S:Sto):∀ (ds:List D) (n:Nat),Plns j ds->dps ds<n->f7 (d9 n S) ds=some (pys ds)
 | [],n,_,_=>rfl
 | d :: ds,n,h,hn=>by
  have hn:max (dp d) (dps ds)<n:=hn;simp only [f7,A0 S d n h.1 (by omega),bC S ds n h.2 (by omega)];rfl
end
theorem nY (h:Asc x):PyData.strOk x=true:=by
 unfold PyData.strOk;rw [Array.all_eq_true'];intro c a;have:=h c (by simpa using a);grind
mutual
theorem L6:∀ d:D,Pln j d->(py d).canLay0=true
 | .non,_=>rfl
 | .bl _,_=>rfl
 | .int _,_=>rfl
 | .str x,h=>by show PyData.canLay0 (.str x)=true;simp only [PyData.canLay0];exact nY h.2
 | .tup ds,h=>by show PyData.canLay0 (.tuple (pys ds))=true;simp only [PyData.canLay0];exact dy ds h
 | .lst ds,h=>by show PyData.canLay0 (.list (pys ds))=true;simp only [PyData.canLay0];exact dy ds h
 | .scr _,h=>h.elim
 | .ref _,h=>h.elim
theorem dy:∀ ds:List D,Plns j ds->PyData.canLayAll0 (pys ds)=true
 | [],_=>rfl
 | d :: ds,h=>by show PyData.canLayAll0 (py d :: pys ds)=true;simp only [PyData.canLayAll0,L6 d h.1,dy ds h.2,HG]
end
mutual
theorem E3:∀ d:D,(py d).depth<=dp d
 | .non=>by show PyData.depth .none<=_;simp [PyData.depth]
 | .bl b=>by show PyData.depth (.bool b)<=_;simp [PyData.depth]
 | .int i=>by show PyData.depth (.int i)<=_;simp [PyData.depth]
 | .str x=>by show PyData.depth (.str x)<=_;simp [PyData.depth]
 | .tup ds=>by show PyData.depth (.tuple (pys ds))<=dps ds+1;simp only [PyData.depth];have:=V5 ds;omega
 | .lst ds=>by show PyData.depth (.list (pys ds))<=dps ds+1;simp only [PyData.depth];have:=V5 ds;omega
 | .scr _=>by show PyData.depth .none<=_;simp [PyData.depth]
 | .ref _=>by show PyData.depth .none<=_;simp [PyData.depth]
theorem V5:∀ ds:List D,PyData.depthAll (pys ds)<=dps ds
 | []=>by show PyData.depthAll []<=0;simp [PyData.depthAll]
 | d :: ds=>by
  have:=E3 d;have:=V5 ds;show PyData.depthAll (py d :: pys ds)<=max (dp d) (dps ds);simp only [PyData.depthAll];omega
end
theorem je {i:Int} (h:i.natAbs<=C7 j) (hj:j<=1000):decide (i.natAbs.log2<1920)=true:=by
 refine Fa ?_;by_cases z:i.natAbs=0
 ·rw [z];decide
 ·have:i.natAbs<2 ^ 140:=by unfold C7 at h;omega
  have:=(Nat.log2_lt z).mpr this;omega
mutual
theorem jf (f:j<=1000):∀ d:D,Pln j d->(py d).showable=true/\(py d).hasDict=false/\(py d).shown.length<=sz d
 | .non,_=>⟨rfl,rfl,by show (PyData.shown .none).length<=5;decide⟩
 | .bl b,_=>⟨rfl,rfl,by show (PyData.shown (.bool b)).length<=5;cases b <;> decide⟩
 | .int i,h=>⟨je h f,rfl,by
   have h:i.natAbs<=C7 j:=h;have e:=int_text_length_le10 (k:=40) (a:=i) (by decide) (by unfold C7 at h;omega);show (Str.ofString (toString i)).length<=60;rw [PySem.ofString_length];omega⟩
 | .str x,h=>⟨rfl,rfl,by
   show (PyData.shown (.str x)).length<=10 * x.length+2;rw [PyData.shown_str];exact StrLaws.reprText_len x λc m=>by have:=h.2 c m;omega⟩
 | .tup ds,h=>by
  obtain ⟨a,b,c⟩:=aT f ds h;refine ⟨by show PyData.showable (.tuple (pys ds))=true;simp only [PyData.showable];exact a,by show PyData.hasDict (.tuple (pys ds))=false;simp only [PyData.hasDict];exact b,?_⟩;have g:=tupleText_len_le (PyData.shownAll (pys ds));have l:=GZ (pys ds);show (PyData.shown (.tuple (pys ds))).length<=szs ds+3;simp only [PyData.shown];omega
 | .lst ds,h=>by
  obtain ⟨a,b,c⟩:=aT f ds h;refine ⟨by show PyData.showable (.list (pys ds))=true;simp only [PyData.showable];exact a,by show PyData.hasDict (.list (pys ds))=false;simp only [PyData.hasDict];exact b,?_⟩;have g:=listText_len_le (PyData.shownAll (pys ds));have l:=GZ (pys ds);show (PyData.shown (.list (pys ds))).length<=szs ds+3;simp only [PyData.shown];omega
 | .scr _,h=>h.elim
 | .ref _,h=>h.elim
theorem aT (hj:j<=1000):∀ ds:List D,Plns j ds->PyData.showableAll (pys ds)=true/\PyData.hasDictAll (pys ds)=false/\((PyData.shownAll (pys ds)).map (·.length)).sum+2 * (pys ds).length<=szs ds
 | [],_=>⟨rfl,rfl,by show ((PyData.shownAll []).map (·.length)).sum+2 * 0<=0;simp [PyData.shownAll]⟩
 | d :: ds,h=>by
  obtain ⟨a,b,c⟩:=jf hj d h.1;obtain ⟨a2,b2,c2⟩:=aT hj ds h.2;refine ⟨by show PyData.showableAll (py d :: pys ds)=true;simp only [PyData.showableAll,a,a2,HG],by show PyData.hasDictAll (py d :: pys ds)=false;simp only [PyData.hasDictAll,b,b2,Bool.or_self],?_⟩;show ((PyData.shownAll (py d :: pys ds)).map (·.length)).sum+2 * (py d :: pys ds).length<=sz d+2+szs ds;simp only [PyData.shownAll,Fs,List.sum_cons,GE];omega
end
structure Any (j N:Nat) (d:D):Prop where
 pl:Pln j d
 dp:dp d<=3+j
 sz:sz d<=N
theorem eW (h:Any j N d) (i:j<=40) (g:N<=10000000) (S:Sto):bV d S=.ok (.str (py d).shown) S:=by
 obtain ⟨a,b,c⟩:=jf (by omega) d h.pl;have e:=A0 S d 64 h.pl (by have:=h.dp;omega);have f:bV d S=(match d9 64 S d with
  | some p=>(if Shows p then ret (D.str p.shown) else bad) S
  | none=>.bad):=rfl
 rw [f,e];show (if Shows (py d) then ret (D.str (py d).shown) else bad) S=_;rw [if_pos ⟨a,b,by have:=E3 d;have:=h.dp;omega,by have:=h.sz;rw [Fp];omega⟩];rfl
theorem iW (h:Any j N (.tup ds)) (hj:j<=40) (S:Sto):a9 .NotEq (.tup ds) (.tup []) S=.ok (.bl (!ds.isEmpty)) S:=by
 show eqP true (.tup ds) (.tup []) S=_;unfold eqP;rw [A0 S (.tup ds) 64 h.pl (by have:=h.dp;omega)];show (if PyData.canLay0 (py (.tup ds))=true/\PyData.canLay0 (.tuple [])=true/\min (PyData.depth (py (.tup ds))) (PyData.depth (.tuple []))<=60 then ret (D.bl (!PyData.eqv (py (.tup ds)) (.tuple []))) else bad) S=_;have hd:PyData.depth (.tuple [])<=60:=by simp [PyData.depth,PyData.depthAll]
 rw [if_pos ⟨L6 _ h.pl,rfl,by omega⟩];cases ds <;> rfl
def inW (ws:List Str):D->Bool
 | .str x=>decide (x∈ws)
 | _=>false
theorem uQ (ws:List Str) (x:Str):((ws.map PyData.str).any λy=>PyData.eqv y (.str x))=decide (x∈ws):=by
 induction ws with
 | nil=>rfl
 | cons w ws a=>
  rw [Fs,GC,a];rw [Hc,Iv,Fh,Fh,Ez];have:PyData.eqv (.str w) (.str x)=(w==x):=by simp only [PyData.eqv]
  rw [this];constructor
  ·grind
  ·grind
theorem tR (a:∀ x,p≠.str x) (ws:List Str):((ws.map PyData.str).any λy=>PyData.eqv y p)=false:=by
 induction ws with
 | nil=>rfl
 | cons w ws b=>
  rw [Fs,GC,b,Bool.or_false];cases p <;> first | (simp only [PyData.eqv];done) | exact absurd rfl (a _)
theorem CC (h:Pln j d) (ws:List Str):((ws.map PyData.str).any λy=>PyData.eqv y (py d))=inW ws d:=by
 cases d with
 | str x=>exact uQ ws x
 | scr _=>exact h.elim
 | ref _=>exact h.elim
 | _=>exact tR (λx e=>by cases e) ws
theorem cQ (n:Nat) (S:Sto):∀ ws:List Str,f7 (d9 (n+1) S) (ws.map D.str)=some (ws.map PyData.str)
 | []=>rfl
 | w :: ws=>by
  have e:d9 (n+1) S (.str w)=some (.str w):=rfl;simp only [Fs,f7,e,cQ n S ws]
theorem eQ:∀ ws:List Str,(∀ w∈ws,Asc w)->PyData.canLayAll0 (ws.map PyData.str)=true
 | [],_=>rfl
 | w :: ws,h=>by simp only [Fs,PyData.canLayAll0,PyData.canLay0,nY (h w (Fe ..)),eQ ws λv a=>h v (Fg _ a),HG]
theorem zX (h:Any j N d) (b:j<=40) {ws:List Str} (a:∀ w∈ws,Asc w) (S:Sto):a9 .In d (.tup (ws.map D.str)) S=.ok (.bl (inW ws d)) S:=by
 show inD false d (.tup (ws.map D.str)) S=_;unfold inD;have e:d9 64 S (.tup (ws.map D.str))=some (.tuple (ws.map PyData.str)):=by
  show (f7 (d9 63 S) (ws.map D.str)).map PyData.tuple=_;rw [cQ 62 S ws];rfl
 rw [A0 S d 64 h.pl (by have:=h.dp;omega),e];show Y8 false (py d) (ws.map PyData.str) S=_;unfold Y8;have hd:=E3 d;rw [if_pos ⟨L6 d h.pl,eQ ws a,by have:=h.dp;omega⟩,CC h.pl];rfl
theorem sW (b:Asc x) (d:Asc y):Asc (x++y):=λc a=>by
 have:(x++y).cps.toList=x.cps.toList++y.cps.toList:=by show (x.cps++y.cps).toList=_;simp
 rw [this] at a;rcases Fo.mp a with h | h
 ·exact b c h
 ·exact d c h
theorem uC (i:Int):Asc (Str.ofString (toString i)):=by
 intro c hc;rw [signs_ofString] at hc;obtain ⟨z,hz,rfl⟩:=FX.mp hc;have dig:∀ n:Nat,∀ z∈(toString n).toList,z.toNat<128:=λn z hz=>by
  have:z∈Nat.toDigits 10 n:=by
   have e:(toString n).toList=Nat.toDigits 10 n:=by show (Nat.repr n).toList=_;simp [Nat.repr]
   rw [e] at hz;exact hz
  have:=Nat.isDigit_of_mem_toDigits (by decide) (by decide) this;unfold Char.isDigit at this;simp at this;have h2:=this.2;show z.val.toNat<128;have:z.val.toNat<=57:=h2;omega
 cases i with
 | ofNat n=>exact dig n z hz
 | negSucc n=>
  have e:(toString (Int.negSucc n)).toList='-' :: (toString (n+1)).toList:=by
   show ("-" ++ toString (n+1)).toList=_;simp
  rw [e] at hz;rcases Ez.mp hz with rfl | hz
  ·decide
  ·exact dig _ z hz
theorem fW (n:Nat) (S:Sto):∀ a:List Bool,f7 (d9 (n+1) S) (a.map D.bl)=some (a.map PyData.bool)
 | []=>rfl
 | b :: a=>by
  have e:d9 (n+1) S (.bl b)=some (.bool b):=rfl;simp only [Fs,f7,e,fW n S a]
theorem jm:∀ a:List Bool,PyData.canLayAll0 (a.map PyData.bool)=true
 | []=>rfl
 | b :: a=>by simp only [Fs,PyData.canLayAll0,PyData.canLay0,jm a,HG]
theorem ja (b:Bool):∀ a:List Bool,((a.map PyData.bool).any λy=>PyData.eqv y (.bool b))=a.any (·==b)
 | []=>rfl
 | x :: a=>by simp only [Fs,GC,ja b a,PyData.eqv]
theorem pL (c b:Bool) (a:List Bool) (S:Sto):inD c (.bl b) (.lst (a.map D.bl)) S=.ok (.bl (if c then !(a.any (·==b)) else a.any (·==b))) S:=by
 have e:d9 64 S (.lst (a.map D.bl))=some (.list (a.map PyData.bool)):=by
  show (f7 (d9 63 S) (a.map D.bl)).map PyData.list=_;rw [fW 62 S a];rfl
 unfold inD;rw [e];show Y8 c (.bool b) (a.map PyData.bool) S=_;unfold Y8;have hd:PyData.depth (.bool b)=0:=by simp [PyData.depth]
 rw [if_pos ⟨rfl,jm a,by rw [hd];omega⟩,ja];rfl
theorem vj (a:List Bool) (S:Sto):a9 .NotIn (.bl false) (.lst (a.map D.bl)) S=.ok (.bl (a.all id)) S:=by
 show inD true _ _ S=_;rw [pL];grind
theorem kJ:∀ a:List Bool,T0 (a.map D.bl)=some a
 | []=>rfl
 | b :: a=>by simp only [Fs,T0,kJ a,Jw]
theorem hR (a:List Bool) (S:Sto):lq (.lst (a.map D.bl)) S=.ok (.bl (a.all id)) S:=by
 show bind (lstOf (.lst (a.map D.bl))) _ S=_;rw [a7 (show lstOf (.lst (a.map D.bl)) S=.ok (a.map D.bl) S from rfl),kJ];rfl
mutual
noncomputable def plB:D->Bool
 | .non=>true
 | .bl _=>true
 | .int i=>decide (i.natAbs<=C7 0)
 | .str x=>decide (x.length<=45)&&x.cps.toList.all (· < 128)
 | .tup ds=>pO ds
 | .lst ds=>pO ds
 | .scr _=>false
 | .ref _=>false
noncomputable def pO:List D->Bool
 | []=>true
 | d :: ds=>plB d&&pO ds
end
mutual
theorem pU:∀ d:D,plB d=true->Pln 0 d
 | .non,_=>trivial
 | .bl _,_=>trivial
 | .int i,h=>by
  have h:decide (i.natAbs<=C7 0)=true:=h;exact (FG h:i.natAbs<=C7 0)
 | .str x,h=>by
  have h:(decide (x.length<=45)&&x.cps.toList.all (· < 128))=true:=h;rw [Ep,Fh,Fi] at h;exact ⟨h.1,λc hc=>FG (h.2 c hc)⟩
 | .tup ds,h=>dO ds h
 | .lst ds,h=>dO ds h
 | .scr _,h=>Bool.noConfusion h
 | .ref _,h=>Bool.noConfusion h
theorem dO:∀ ds:List D,pO ds=true->Plns 0 ds
 | [],_=>trivial
 | d :: ds,h=>by
  have h:(plB d&&pO ds)=true:=h;rw [Ep] at h;exact ⟨pU d h.1,dO ds h.2⟩
end
def smB (n N:Nat) (d:D):Bool:=plB d&&decide (dp d<=n)&&decide (sz d<=N)
theorem y3 (h:smB n N d=true):Pln 0 d/\dp d<=n/\sz d<=N:=by
 unfold smB at h;rw [Ep,Ep,Fh,Fh] at h;exact ⟨pU d h.1.1,h.1.2,h.2⟩
theorem eD (ds:List D) (lo a:Option Int):(v5 ds lo a).Sublist ds:=(HS _ _).trans (Jd _ _)
theorem Pln.ups {d:D} (h:Pln 0 d):Pln j d:=by
 induction j with
 | zero=>exact h
 | succ j a=>exact a.up
theorem aE (h:∀ d∈xs,d∈ys):dps xs<=dps ys:=al λd hd=>R9 (h d hd)
theorem T6 (n:Nat) (S:Sto):∀ ns:List Int,f7 (d9 (n+1) S) (ns.map D.int)=some (ns.map PyData.int)
 | []=>rfl
 | b :: a=>by
  have e:d9 (n+1) S (.int b)=some (.int b):=rfl;simp only [Fs,f7,e,T6 n S a]
theorem O9:∀ ns:List Int,PyData.canLayAll0 (ns.map PyData.int)=true
 | []=>rfl
 | b :: a=>by simp only [Fs,PyData.canLayAll0,PyData.canLay0,O9 a,HG]
theorem eR {i:Nat} (h:i<=ds.length):v5 ds none (some (i:Int))=ds.take i:=by
 have e:HT.sIx ds.length ds.length (some (i:Int))=i:=by
  show (if (i:Int)<0 then ((i:Int)+(ds.length:Int)).toNat else min (i:Int).toNat ds.length)=i;rw [if_neg (by omega)];simp;omega
 unfold v5;rw [e,HT.sIx_none];simp
theorem fN {i:Nat} (h:i<=ds.length):v5 ds (some (i:Int)) none=ds.drop i:=by
 have e:HT.sIx ds.length 0 (some (i:Int))=i:=by
  show (if (i:Int)<0 then ((i:Int)+(ds.length:Int)).toNat else min (i:Int).toNat ds.length)=i;rw [if_neg (by omega)];simp;omega
 unfold v5;rw [e,HT.sIx_none];rw [GY (by simp)]
theorem cat_tup (h:xs.length+ys.length<=sizeLine):i7 (.tup xs) (.tup ys) S=.ok (.tup (xs++ys)) S:=by
 show (if xs.length+ys.length<=sizeLine then ret (D.tup (xs++ys)) else bad) S=_;rw [if_pos h];rfl
theorem U4 (ds:List D) (S:Sto):p8 (.tup ds) S=.ok (.int ds.length) S:=rfl
theorem N5 (ds:List D) (S:Sto):O1 (.tup ds) S=.ok (aZ ds,ds.length+1) S:=rfl
theorem p6 {n:Nat} (h:n<1000) (S:Sto):j4 [.int (n:Int)] S=.ok (D5 0 n,n+1) S:=by
 unfold j4;have a:(n:Int)<1000:=by omega
 have b:(0:Int)<=n:=by omega
 have c:-(2 ^ 62)<=(n:Int)/\(n:Int)<2 ^ 62:=⟨Jt (by decide) b,Int.lt_trans a (by decide)⟩;simp only [if_pos c,Gn];rfl
theorem j9 {i:Nat} {d:D} (S:Sto) (h:ds[i]?=some d):ixD (.tup ds) (.int (i:Int)) S=.ok d S:=by
 show dL (atI ds (i:Int)) S=_;rw [aD h];rfl
theorem lM {i:Nat} {d:D} (S:Sto) (h:ds[i]?=some d):ixD (.lst ds) (.int (i:Int)) S=.ok d S:=by
 show dL (atI ds (i:Int)) S=_;rw [aD h];rfl
theorem CZ {i n:Nat} {d:D} {S:Sto} (e:S[n]?=some (.lst ds)) (h:ds[i]?=some d):ixD (.ref n) (.int (i:Int)) S=.ok d S:=by
 simp only [ixD,e,aD h];rfl
theorem u4 {b:Type} {src:Src} {l:List b} {h g:b->D} {p:b->Bool} {t:D->M Bool} {f:D->M D} {S:Sto} (hs:∀ i,src i S=some (l.map h)[i]?) (v:l.length<sizeLine) (o:∀ a∈l,t (h a) S=.ok (p a) S) (m:∀ a∈l,p a=true->f (h a) S=.ok (g a) S):f9 src t f (l.length+1) 0 [] S=.ok ((l.filter p).map g) S:=by
 obtain ⟨es,S',e,u,s⟩:=Ok.comp (src:=src) (n:=l.length) (λi S' es=>S'=S/\es=((l.take i).filter p).map g) (λS' es q=>by obtain ⟨q,_⟩:=q;subst q;rw [hs,FO (by simp)])
  (λi S' es c ⟨k,j⟩=>by
   subst k j;refine ⟨h l[i],?_,p l[i],S',o _ (FK c),?_⟩
   ·grind
   ·have r:=GP c;cases d:p l[i] with
    | true=>
     dsimp only;rw [if_pos rfl];refine ⟨g l[i],S',m _ (FK c) d,?_,rfl,?_⟩
     ·grind
     ·grind
    | false=>
     dsimp only;rw [if_neg Er];refine ⟨rfl,?_⟩;rw [r,HK,HP (by rw [d];exact Er),List.filter_nil,FM]) ⟨rfl,rfl⟩
 grind
theorem V6 (n i:Nat) (S:Sto):D5 0 n i S=some ((List.range n).map λ(k:Nat)=>D.int (k:Int))[i]?:=by
 show some (if i<n then some (D.int (0+i)) else none)=_;grind
theorem kO (e:S[n]?=some (.lst ds)) (i:Nat):eH n i S=some ds[i]?:=by
 simp only [eH,e]
theorem dU (ns:List Int):t8 (ns.map D.int)=some ns:=by
 induction ns with
 | nil=>rfl
 | cons n ns a=>simp only [Fs,t8,a,Jw]
theorem i4 {b c:Type} {f:b->c} {l:List b} {i:Nat} {a:b} (h:l[i]?=some a):(l.map f)[i]?=some (f a):=by grind
theorem gI (x:Int):∀ ns:List Int,((ns.map PyData.int).any λy=>PyData.eqv y (.int x))=decide (x∈ns)
 | []=>by simp
 | y :: ns=>by
  simp only [Fs,GC,gI x ns,PyData.eqv];rw [Hc,Iv,Fh,Fh,Ez];constructor
  ·grind
  ·grind
theorem jN (x:Int) (ns:List Int) (S:Sto):a9 .In (.int x) (.tup (ns.map D.int)) S=.ok (.bl (decide (x∈ns))) S:=by
 have e:d9 64 S (.tup (ns.map D.int))=some (.tuple (ns.map PyData.int)):=by
  show (f7 (d9 63 S) (ns.map D.int)).map PyData.tuple=_;rw [T6 62 S ns];rfl
 show inD false (.int x) (.tup (ns.map D.int)) S=_;unfold inD;rw [e];show Y8 false (.int x) (ns.map PyData.int) S=_;unfold Y8;have hd:PyData.depth (.int x)=0:=by simp [PyData.depth]
 rw [if_pos ⟨rfl,O9 ns,by rw [hd];omega⟩,gI];rfl
theorem T5 (e:S[n]?=some (.lst es)):lstOf (.ref n) S=.ok es S:=by simp only [lstOf,e]
theorem Be {n j:Nat} {es:List D} {y:D} (e:S[n]?=some (.lst es)) (h:es[j]?=some y) (hs:j<1000):popD (.ref n) [.int (j:Int)] S=.ok y (S.set n (.lst (es.eraseIdx j))):=by
 have hj:=(Eo.mp h).1;have c:-(2 ^ 63)<=(j:Int)/\(j:Int)<2 ^ 63:=⟨Jt (by decide) (Int.natCast_nonneg j),Int.lt_trans (show (j:Int)<1000 by omega) (by decide)⟩;have i:ixN es.length (j:Int)=some j:=by
  unfold ixN;rw [if_pos (by omega)];simp only [Gn];rw [if_pos (by omega)]
 simp only [popD,e,if_pos c,i,h]
theorem wL (e:S[n]?=some (.lst es)):p8 (.ref n) S=.ok (.int es.length) S:=by simp only [p8,e]
theorem cR {y:D} (e:S[n]?=some (.lst es)) (a:es.length<sizeLine):C9 (.ref n) [y] S=.ok .non (S.set n (.lst (es++[y]))):=by simp only [C9,e,if_pos a]
theorem Plns.sub {xs ys:List D} (h:Plns j ys) (hs:∀ d∈xs,d∈ys):Plns j xs:=Plns.of λd hd=>h.mem d (hs d hd)
theorem jQ (x y:Str):(x++y).length=x.length+y.length:=by show (x.cps++y.cps).size=x.cps.size+y.cps.size;simp
def Fw (ns:List Int) (p N:Nat) (S:Sto):Prop:=∃ a l t:Int,S[p]?=some (m9 ns a l t)/\0<=a/\0<=l/\0<=t/\t+N<1000000
theorem Fw.less {p N K:Nat} {S:Sto} (h:Fw ns p N S) (g:K<=N):Fw ns p K S:=by
 obtain ⟨a,l,t,e,b,d,c,f⟩:=h;exact ⟨a,l,t,e,b,d,c,by omega⟩
theorem Fw.keep (h:Fw ns p N S) (e:S'[p]?=S[p]?):Fw ns p N S':=by
 obtain ⟨a,l,t,c,b⟩:=h;exact ⟨a,l,t,by rw [e];exact c,b⟩
theorem Fw.lt (h:Fw ns p N S):p<S.length:=by
 obtain ⟨a,l,t,e,_⟩:=h;grind
theorem Fw.push (h:Fw ns p N S) (o:O):Fw ns p N (S++[o]):=h.keep (by rw [Et h.lt])
theorem nO {ns:List Int} {p N m:Nat} {S:Sto} (h:Fw ns p (N+1) S) (hm:0<m) (hm2:m<1073741824):Ok (ii (.ref p) (.int (m:Int))) S λd S'=>∃ r:Nat,d=.int (r:Int)/\r<m/\Fw ns p N S'/\S'.length=S.length/\∀ q,q≠p->S'[q]?=S[q]?:=by
 obtain ⟨a,l,t,e,h1,h2,h3,h4⟩:=h;obtain ⟨r,a',l',e1,r0,r1,ha,hl⟩:=qU (m:=(m:Int)) e h1 h2 h3 (by omega) (by omega) (by omega);obtain ⟨r,rfl⟩:=Gv r0;refine ⟨_,_,e1,r,rfl,by omega,⟨a',l',t+1,?_,ha,hl,by omega,by omega⟩,by simp,λq hq=>?_⟩
 ·rw [FA (Eo.mp e).1]
 ·rw [Ff (Ne.symm hq)]
def Xn {a:Type} (m:M a) (S:Sto) (Q:Nat->Sto->Prop):Prop:=∃ n S',m S=.exn n S'/\Q n S'
theorem Xn.bind {k:α->M β} {S:Sto} {Q:Nat->Sto->Prop} (h:Xn m S Q):Xn (L3.bind m k) S Q:=by
 obtain ⟨n,S',e,q⟩:=h;exact ⟨n,S',by unfold L3.bind;rw [e],q⟩
theorem Xn.ok {k:α->M β} {S:Sto} {Q:Nat->Sto->Prop} (h:Ok m S λa S1=>Xn (k a) S1 Q):Xn (L3.bind m k) S Q:=by
 obtain ⟨a,S1,e,n,S',b,q⟩:=h;exact ⟨n,S',by unfold L3.bind;rw [e];exact b,q⟩
theorem Xn.cg (e:m=m') (h:Xn m' S Q):Xn m S Q:=e▸h
theorem Ok.nx (h:Ok m S Q):Ok (L3.nx m) S Q:=by
 obtain ⟨a,S1,e,q⟩:=h;exact ⟨a,S1,by unfold L3.nx;rw [e],q⟩
theorem Ok.try_ {b:Nat->Bool} {c:Option Nat} {ρ:L3.Env} {S:Sto} {Q:Fl->Sto->Prop} (k:Ok (g ρ) S Q):Ok (aX g b c h ρ) S Q:=by
 obtain ⟨a,S1,e,q⟩:=k;exact ⟨a,S1,by unfold aX;rw [e],q⟩
theorem Ok.caught {a:Nat->Bool} {b:Option Nat} {ρ:L3.Env} {S:Sto} {Q:Fl->Sto->Prop} (k:Xn (g ρ) S λn S1=>∃ c fs,S1[n]?=some (.exc c fs)/\a c=true/\Ok (h (oK b n ρ)) S1 λd S2=>Q (jJ b d) S2):Ok (aX g a b h ρ) S Q:=by
 obtain ⟨n,S1,e,c,fs,j,hs,i⟩:=k;obtain ⟨d,S2,f,q⟩:=i;refine ⟨jJ b d,S2,?_,q⟩;unfold aX;rw [e];simp only [j,hs,JI];unfold L3.bind L3.nx;rw [f];rfl
def nxt {d:Type} (q:EvK) (e:Lc) (c:List Stmt) (k:Fl->M d):Fl->M d:=λb=>match b with
 | .nx a=>j6 q e c a k
 | b=>k b
section
variable {α:Type} {q:EvK} {lc:Lc} {st:Stmt} {sts:List Stmt} {ρ:L3.Env} {k:Fl->M α} {S:Sto} {Q:α->Sto->Prop} {P:Nat->Sto->Prop}
theorem Ok.first (h:Ok (q.s lc st ρ (nxt q lc sts k)) S Q):Ok (j6 q lc (st :: sts) ρ k) S Q:=h
theorem Ok.nxt (h:Ok (q.s lc st ρ (L3.nxt q lc sts k)) S Q):Ok (L3.nxt q lc (st :: sts) k (.nx ρ)) S Q:=h
theorem Xn.first (h:Xn (q.s lc st ρ (nxt q lc sts k)) S P):Xn (j6 q lc (st :: sts) ρ k) S P:=h
theorem Xn.nxt (h:Xn (q.s lc st ρ (L3.nxt q lc sts k)) S P):Xn (L3.nxt q lc (st :: sts) k (.nx ρ)) S P:=h
theorem Ok.pos [Decidable c] {a b:M α} (h:c) (k:Ok a S Q):Ok (if c then a else b) S Q:=by rw [if_pos h];exact k
theorem Ok.neg [Decidable c] {a b:M α} (h:¬ c) (k:Ok b S Q):Ok (if c then a else b) S Q:=by rw [if_neg h];exact k
theorem Xn.pos [Decidable c] {a b:M α} (h:c) (k:Xn a S P):Xn (if c then a else b) S P:=by rw [if_pos h];exact k
theorem Xn.neg [Decidable c] {a b:M α} (h:¬ c) (k:Xn b S P):Xn (if c then a else b) S P:=by rw [if_neg h];exact k
end
def fin {b:Type} (κ:Fl->M b):Fl->M b:=λa=>match a with
 | .nx ρ=>κ (.nx ρ)
 | a=>κ a
theorem Xn.cgS (e:m S=m' S) (h:Xn m' S Q):Xn m S Q:=by
 obtain ⟨n,S1,a,q⟩:=h;exact ⟨n,S1,by rw [e];exact a,q⟩
theorem Xn.eq {k:α->M β} {S S1:Sto} {a:α} {Q:Nat->Sto->Prop} (e:m S=.ok a S1) (h:Xn (k a) S1 Q):Xn (L3.bind m k) S Q:=Xn.ok ⟨a,S1,e,h⟩
theorem Xn.mono (h:Xn m S Q) (i:∀ n S1,Q n S1->Q' n S1):Xn m S Q':=by
 obtain ⟨n,S1,e,q⟩:=h;exact ⟨n,S1,e,i _ _ q⟩
theorem md {i:Nat} {x:D} {S:Sto} (h:i<ds.length) (n:ds.length<=1000) :
  Ok (bind (br (.int (i:Int))) λc=>bind (slD (.tup ds) none c) λk=>bind (i7 k (.tup [x])) λb=>bind (i7 (.int (i:Int)) (.int 1)) λj=>bind (br j) λf=>bind (slD (.tup ds) f none) λx6=>bind (i7 b x6) λx7=>ret x7) S λd S'=>d=.tup (ds.set i x)/\S'=S:=by
 have m:(1001:Nat)<=sizeLine:=by decide
 have e:((i:Int)+1)=((i+1:Nat):Int):=by omega
 have l:v5 ds none (some (i:Int))=ds.take i:=eR (by omega);have g:v5 ds (some ((i:Int)+1)) none=ds.drop (i+1):=by rw [e];exact fN (by omega)
 refine Ok.eq rfl (Ok.eq (a:=.tup (ds.take i)) (by rw [<- l];rfl) (Ok.eq (cat_tup (by simp;omega)) (Ok.eq rfl (Ok.eq rfl (Ok.eq (a:=.tup (ds.drop (i+1))) (by rw [<- g];rfl) (Ok.eq (cat_tup (by simp;omega)) (Ok.ret ⟨?_,rfl⟩)))))));rw [List.set_eq_take_append_cons_drop,if_pos h,HV];rfl
theorem tK (S:Sto) (a b:O):(S++[a]).set S.length b=S++[b]:=by simp
theorem xu {r:Nat} (h:r<100):Pln 0 (.int (r:Int)):=by
 show ((r:Int)).natAbs<=C7 0;have:C7 0≥100:=by decide +kernel
 omega
theorem jl:∀ {ds:List D},(∀ d∈ds,sz d<=n)->szs ds<=(n+2) * ds.length
 | [],_=>Es _
 | d :: ds,h=>by
  have c:=h d (by simp);have b:=jl (ds:=ds) λx a=>h x (by simp [a]);show sz d+2+szs ds<=(n+2) * (ds.length+1);rw [Nat.mul_add];omega
theorem Bl {ds:List D} {v:D} (e:S[n]?=some (.lst ds)) (h:i<ds.length):K1 (.ref n) (.int (i:Int)) v S=.ok .non (S.set n (.lst (ds.set i v))):=by
 have ix:ixN ds.length (i:Int)=some i:=by
  unfold ixN;rw [if_pos (by omega)];simp only [Gn];rw [if_pos (by omega)]
 simp only [K1,e,ix]
theorem qD (e:S[n]?=some (.lst ds)):u6 (.ref n) S=.ok (.tup ds) S:=a7 (by simp only [B1,lstOf,e])
theorem rf (ns:List Int):∃ ms:List Int,v5 (ns.map D.int) none (some 63)=ms.map D.int:=⟨(ns.drop (HT.sIx ns.length 0 none)).take (HT.sIx ns.length ns.length (some 63)-HT.sIx ns.length 0 none),by simp [v5,List.map_drop,List.map_take]⟩
theorem dh (h:n<=6):n<sizeLine:=Nat.lt_of_le_of_lt h (by decide)
theorem xI (hq:q<6):∃ m:Nat,([.int 6,.int 5,.int 4,.int 3,.int 2,.int 1]:List D)[q]?=some (.int (m:Int))/\0<m/\m<=6:=by
 have:q=0\/q=1\/q=2\/q=3\/q=4\/q=5:=by omega
 rcases this with rfl | rfl | rfl | rfl | rfl | rfl
 ·exact ⟨6,rfl,by omega,by omega⟩
 ·exact ⟨5,rfl,by omega,by omega⟩
 ·exact ⟨4,rfl,by omega,by omega⟩
 ·exact ⟨3,rfl,by omega,by omega⟩
 ·exact ⟨2,rfl,by omega,by omega⟩
 ·exact ⟨1,rfl,by omega,by omega⟩
theorem t0 (n:Nat) (S:Sto):D5 0 n n S=some none:=by
 show some (if n<n then _ else none)=some none;grind
theorem y4 {n i:Nat} (h:i<n) (S:Sto):D5 0 n i S=some (some (.int (i:Int))):=by rw [V6,i4 (List.getElem?_range h)]
theorem X9:p8 (.tup ds) S=.ok (.int ds.length) S:=rfl
structure Sml (n N:Nat) (d:D):Prop where
 pl:Pln 0 d
 dp:dp d<=n
 sz:sz d<=N
def Smls (n N:Nat) (ds:List D):Prop:=∀ d∈ds,Sml n N d
theorem Smls.nil:Smls n N []:=λd h=>by cases h
theorem Smls.cons (h:Sml n N d) (hs:Smls n N ds):Smls n N (d :: ds):=λx a=>by
 rcases Ez.mp a with z | z
 ·rw [z];exact h
 ·exact hs x z
theorem Smls.map {b:Type} {n N:Nat} {f:b->D} {l:List b} (h:∀ a∈l,Sml n N (f a)):Smls n N (l.map f):=λx c=>by
 obtain ⟨a,d,rfl⟩:=FX.mp c;exact h a d
theorem Sml.mono {d:D} (h:Sml n N d) (b:n<=n') (a:N<=N'):Sml n' N' d:=⟨h.pl,FD h.dp b,FD h.sz a⟩
theorem Sml.tup {ds:List D} (h:Smls n N ds) (a:ds.length<=m):Sml (n+1) ((N+2) * m+3) (.tup ds):=by
 have s:=jl λd hd=>(h d hd).sz;have b:=al λd hd=>(h d hd).dp;refine ⟨Plns.of λd hd=>(h d hd).pl,by show dps ds+1<=n+1;omega,?_⟩;show szs ds+3<=_;have:=Nat.mul_le_mul_left (N+2) a;omega
theorem Sml.nat {n N i:Nat} (h:i<100) (a:60<=N:=by decide):Sml n N (.int (i:Int)):=⟨xu h,FJ _,a⟩
theorem Sml.non {n N:Nat} (a:5<=N:=by decide):Sml n N .non:=⟨trivial,FJ _,a⟩
theorem Sml.w (h:smB n N d=true:=by decide +kernel):Sml n N d:=⟨(y3 h).1,(y3 h).2.1,(y3 h).2.2⟩
theorem Sml.any (h:Sml n N d) (hn:n<=43):Any 40 N d:=⟨h.pl.ups,by have:=h.dp;omega,h.sz⟩
theorem B5 (a b:Int) (S:Sto):a9 .Eq (.int a) (.int b) S=.ok (.bl (decide (a=b))) S:=rfl
theorem wN (a b:Int) (S:Sto):a9 .NotEq (.int a) (.int b) S=.ok (.bl (!decide (a=b))) S:=rfl
theorem ek (a b:Int) (S:Sto):a9 .LtE (.int a) (.int b) S=.ok (.bl (decide (a<=b))) S:=rfl
theorem cb (a b:Int) (S:Sto):a9 .Gt (.int a) (.int b) S=.ok (.bl (decide (b<a))) S:=rfl
theorem m7 (a b:Nat) (S:Sto):i7 (.int (a:Int)) (.int (b:Int)) S=.ok (.int ((a+b:Nat):Int)) S:=by
 show R.ok (D.int ((a:Int)+(b:Int))) S=_;grind
theorem hD {a b:Nat} (h:b<=a) (S:Sto):P1 (.int (a:Int)) (.int (b:Int)) S=.ok (.int ((a-b:Nat):Int)) S:=by
 show R.ok (D.int ((a:Int)-(b:Int))) S=_;grind
theorem nx_bind {k:α->M β} {S:Sto} {Q:β->Sto->Prop} (h:Ok m S λa S1=>Ok (k a) S1 Q):Ok (L3.bind (L3.nx m) k) S Q:=Ok.bind (Ok.nx h)
theorem j5 (h:Ok m S λd S'=>d=a/\S'=S):m S=.ok a S:=by
 obtain ⟨d,S',e,rfl,rfl⟩:=h;exact e
theorem raise_k {κ:Fl->M α} (b:ds.length=fs.length) (a:ds.all (B4 S)=true):Xn (L3.bind (P2 c fs ds) λd=>L3.bind (D4 d) κ) S λn S'=>n=S.length/\S'=S++[.exc c (fs.zip ds)]:=by
 refine Xn.ok ⟨_,_,zj b a,Xn.bind ⟨S.length,S++[.exc c (fs.zip ds)],?_,rfl,rfl⟩⟩;simp [D4]
theorem Ok.loop {n:Nat} (I:Nat->L3.Env->Sto->Prop) (f:∀ ρ S,I n ρ S->src n S=some none)
  (e:∀ i ρ S,i<n->I i ρ S->∃ d b,src i S=some (some d)/\tg d ρ=some b/\Ok (body b) S λc S'=>∃ a,(c=.nx a\/c=.ct a)/\I (i+1) a S') {ρ:L3.Env} {S:Sto} (h:I 0 ρ S) :
  Ok (h8 src tg body (n+1) 0 ρ) S λc S'=>∃ a,c=.nx a/\I n a S':=by
 refine (Ok.for_ I (λ_ _=>False) (λ_ _=>False) f (λi ρ S l h=>?_) n 0 ρ S (by omega) h).mono ?_
 ·obtain ⟨d,b,g,j,k⟩:=e i ρ S l h;refine ⟨d,b,g,j,k.mono ?_⟩;rintro c S' ⟨a,rfl | rfl,q⟩
  ·exact q
  ·exact q
 ·grind
theorem Xn.for_ {i0:Nat} (I:Nat->L3.Env->Sto->Prop)
  (e:∀ i ρ S,i<i0->I i ρ S->∃ d a,src i S=some (some d)/\tg d ρ=some a/\Ok (body a) S λl S'=>∃ c,l=.nx c/\I (i+1) c S')
  (f:∀ ρ S,I i0 ρ S->∃ d a,src i0 S=some (some d)/\tg d ρ=some a/\Xn (body a) S P) :
  ∀ (k i:Nat) (ρ:L3.Env) (S:Sto),i<=i0->i0<k+i->I i ρ S->Xn (h8 src tg body k i ρ) S P
 | 0,i,ρ,S,o,n,_=>by omega
 | k+1,i,ρ,S,o,n,h=>by
  have m:∀ d a,src i S=some (some d)->tg d ρ=some a->h8 src tg body (k+1) i ρ S=L3.bind (body a) (λl=>match l with
    | .nx b=>h8 src tg body k (i+1) b
    | .ct b=>h8 src tg body k (i+1) b
    | .bk b=>L3.ret (.nx b)
    | .rt d=>L3.ret (.rt d)) S:=λd a j g=>by
   conv=>lhs;unfold h8
   simp only [j,g]
   all_goals rfl
  by_cases z:i=i0
  ·subst z;obtain ⟨d,a,j,g,x⟩:=f ρ S h;exact Xn.cgS (m d a j g) (Xn.bind x)
  ·obtain ⟨d,a,j,g,x⟩:=e i ρ S (by omega) h;refine Xn.cgS (m d a j g) (Xn.ok (x.mono ?_));rintro _ S1 ⟨c,rfl,q⟩;exact Xn.for_ I e f k (i+1) c S1 (by omega) (by omega) q
theorem K6 {β:Type} (f:Nat->Option β) (n:Nat):((∀ i,i<n->f i=none)/\(List.range n).findSome? f=none)\/∃ i x,i<n/\f i=some x/\(∀ j,j<i->f j=none)/\(List.range n).findSome? f=some x:=by
 induction n with
 | zero=>exact .inl ⟨λi h=>by omega,rfl⟩
 | succ n ih=>
  rw [Iz,List.findSome?_append];rcases ih with ⟨a,b⟩ | ⟨i,x,h1,h2,h3,h4⟩
  ·rw [b];cases e:f n with
   | none=>exact .inl ⟨λi hi=>by
     by_cases z:i=n
     ·rw [z];exact e
     ·exact a i (by omega),by simp [e]⟩
   | some x=>exact .inr ⟨n,x,by omega,e,a,by simp [e]⟩
  ·exact .inr ⟨i,x,by omega,h2,h3,by rw [h4];rfl⟩
theorem gN:∀ ns:List Int,PyData.depthAll (ns.map PyData.int)<=1
 | []=>by simp [PyData.depthAll]
 | n :: ns=>by
  have:=gN ns;simp only [Fs,PyData.depthAll,PyData.depth];omega
theorem iU:∀ a b:List Int,PyData.eqvAll (a.map PyData.int) (b.map PyData.int)=decide (a=b)
 | [],[]=>rfl
 | [],_ :: _=>rfl
 | _ :: _,[]=>rfl
 | x :: a,y :: b=>by
  simp only [Fs,PyData.eqvAll,PyData.eqv,iU a b];by_cases h:x=y
  ·subst h;simp
  ·simp [h]
theorem dG (a b:List Int) (S:Sto):a9 .Eq (.lst (a.map D.int)) (.lst (b.map D.int)) S=.ok (.bl (decide (a=b))) S:=by
 show eqP false (.lst (a.map D.int)) (.lst (b.map D.int)) S=_;have e:∀ ns:List Int,d9 64 S (.lst (ns.map D.int))=some (.list (ns.map PyData.int)):=λns=>by
  show (f7 (d9 63 S) (ns.map D.int)).map PyData.list=_;rw [T6 62 S ns];rfl
 unfold eqP;rw [e,e];show (if PyData.canLay0 (.list (a.map PyData.int))=true/\PyData.canLay0 (.list (b.map PyData.int))=true/\min (PyData.depth (.list (a.map PyData.int))) (PyData.depth (.list (b.map PyData.int)))<=60 then ret (D.bl (PyData.eqv (.list (a.map PyData.int)) (.list (b.map PyData.int)))) else bad) S=_;have hd:PyData.depth (.list (a.map PyData.int))<=60:=by
  have:=gN a;simp only [PyData.depth];omega
 rw [if_pos ⟨by simp only [PyData.canLay0];exact O9 a,by simp only [PyData.canLay0];exact O9 b,by omega⟩];show R.ok (D.bl (PyData.eqvAll (a.map PyData.int) (b.map PyData.int))) S=_;rw [iU]
theorem rO (c:Bool) (a b:List Int) (S:Sto):eqP c (.tup (a.map D.int)) (.tup (b.map D.int)) S=.ok (.bl (if c=true then !decide (a=b) else decide (a=b))) S:=by
 have e:∀ ns:List Int,d9 64 S (.tup (ns.map D.int))=some (.tuple (ns.map PyData.int)):=λns=>by
  show (f7 (d9 63 S) (ns.map D.int)).map PyData.tuple=_;rw [T6 62 S ns];rfl
 unfold eqP;rw [e,e];have hd:PyData.depth (.tuple (a.map PyData.int))<=60:=by
  have:=gN a;simp only [PyData.depth];omega
 show (if PyData.canLay0 (.tuple (a.map PyData.int))=true/\PyData.canLay0 (.tuple (b.map PyData.int))=true/\min (PyData.depth (.tuple (a.map PyData.int))) (PyData.depth (.tuple (b.map PyData.int)))<=60 then ret (D.bl (if c=true then !PyData.eqv (.tuple (a.map PyData.int)) (.tuple (b.map PyData.int)) else PyData.eqv (.tuple (a.map PyData.int)) (.tuple (b.map PyData.int)))) else bad) S=_;rw [if_pos ⟨by simp only [PyData.canLay0];exact O9 a,by simp only [PyData.canLay0];exact O9 b,by omega⟩];have q:PyData.eqv (.tuple (a.map PyData.int)) (.tuple (b.map PyData.int))=decide (a=b):=(rfl).trans (iU a b);rw [q];rfl
theorem Bd (a b:List Int) (S:Sto):a9 .NotEq (.tup (a.map D.int)) (.tup (b.map D.int)) S=.ok (.bl (!decide (a=b))) S:=rO true a b S
theorem R0 (h:Any n N d) (hn:n<=40) (hc:Pln 0 c) (c1:dp c<=50) (neg:Bool) (S:Sto):eqP neg d c S=.ok (.bl (if neg=true then !PyData.eqv (py d) (py c) else PyData.eqv (py d) (py c))) S:=by
 have dp:=h.dp;have hd:=E3 d;unfold eqP;rw [A0 S d 64 h.pl (by omega),A0 S c 64 hc (by omega)];show (if PyData.canLay0 (py d)=true/\PyData.canLay0 (py c)=true/\min (PyData.depth (py d)) (PyData.depth (py c))<=60 then ret (D.bl (if neg=true then !PyData.eqv (py d) (py c) else PyData.eqv (py d) (py c))) else bad) S=_;rw [if_pos ⟨L6 _ h.pl,L6 _ hc,by omega⟩];rfl
theorem rW (d:D) (w:Str) (hs:∀ x,d≠.scr x) (hr:∀ x,d≠.ref x):PyData.eqv (py d) (.str w)=inW [w] d:=by
 cases d with
 | str x=>
  show (x==w)=decide (x∈[w]);rw [Hc,Fh,Fy];exact ⟨λh=>JD h,λh=>by rw [h];exact beq_self_eq_true _⟩
 | scr x=>grind
 | ref x=>grind
 | _=>rfl
theorem M8 (h:Any n N d) (hn:n<=40) {w:Str} (hw:Pln 0 (.str w)) (S:Sto):a9 .Eq d (.str w) S=.ok (.bl (inW [w] d)) S/\a9 .NotEq d (.str w) S=.ok (.bl (!inW [w] d)) S:=by
 have pl:=h.pl;have e0:=R0 h hn hw (FJ _) false S;have e1:=R0 h hn hw (FJ _) true S;cases d with
 | str x=>
  have q:inW [w] (.str x)=decide (x=w):=by
   show decide (x∈[w])=_;simp
  rw [q];exact ⟨rfl,rfl⟩
 | scr x=>exact pl.elim
 | ref x=>exact pl.elim
 | _=>exact ⟨e0,e1⟩
def is1 (w:Str) (d:D):Bool:=PyData.eqv (py d) (.tuple [.str w])
theorem sv (w:Str) (a:D) (hs:∀ x,a≠.scr x) (b:∀ x,a≠.ref x):is1 w (.tup [a])=inW [w] a:=by
 show (PyData.eqv (py a) (.str w)&&true)=_;rw [Im,rW a w hs b]
theorem mz {d:D} (h:∀ a,d≠.tup [a]):is1 w d=false:=by
 cases d with
 | tup ds=>
  cases ds with
  | nil=>rfl
  | cons a ds=>
   cases ds with
   | nil=>grind
   | cons b ds=>show (_&&false)=false;exact JC _
 | _=>rfl
theorem nB (h:Any n N d) (hn:n<=40) {w:Str} (hw:Pln 0 (.str w)) (S:Sto):a9 .Eq d (.tup [.str w]) S=.ok (.bl (is1 w d)) S/\a9 .NotEq d (.tup [.str w]) S=.ok (.bl (!is1 w d)) S:=by
 have pl:=h.pl;have e0:=R0 h hn (c:=.tup [.str w]) ⟨hw,trivial⟩ (by show max 0 0+1<=50;omega) false S;have e1:=R0 h hn (c:=.tup [.str w]) ⟨hw,trivial⟩ (by show max 0 0+1<=50;omega) true S;cases d with
 | scr x=>exact pl.elim
 | ref x=>exact pl.elim
 | _=>exact ⟨e0,e1⟩
def isW:D->Bool
 | .int _=>true
 | _=>false
def whB (lo a:Int):D->Bool
 | .int i=>decide (lo<=i)&&decide (i<=a)
 | _=>false
def E1 (n:Nat):D->Bool
 | .tup ds=>decide (ds.length=n)
 | _=>false
def els:D->List D
 | .tup ds=>ds
 | _=>[]
theorem u3 (h:Any n N (.tup ds)) {d:D} (hd:d∈ds):Any n N d:=by
 refine ⟨Plns.mem h.pl d hd,?_,?_⟩
 ·have:=R9 hd;have:dps ds+1<=3+n:=h.dp;omega
 ·have z:szs ds+3<=N:=h.sz;obtain ⟨i,a,e⟩:=Gy hd;have:=pr (by rw [Em a,e]);omega
theorem fy (a b:Nat):decide ((a:Int)=(b:Int))=decide (a=b):=by grind
theorem U0 {f:D->M D} {S:Sto} (a:ds.length<sizeLine) (b:∀ d∈ds,f d S=.ok (.bl (p d)) S):f9 (aZ ds) (λ_=>ret true) f (ds.length+1) 0 [] S=.ok ((ds.map p).map D.bl) S:=by
 have c:=dN (h:=id) (t:=λ_=>ret true) a (λ_ _=>rfl) (λd hd _=>b d hd);rw [List.map_id,HA.mpr (λ_ _=>rfl)] at c;simp_all
theorem Q8 (h:E1 m d=true):∃ ds,d=.tup ds/\ds.length=m:=by
 cases d with
 | tup ds=>exact ⟨ds,rfl,FG h⟩
 | _=>cases h
theorem all_map (ds:List D) (p:D->Bool):(ds.map p).all id=ds.all p:=by rw [List.all_map];rfl
theorem DY (ds:List D) (p:D->Bool):((ds.map p).any (·==false))=!ds.all p:=by
 induction ds with
 | nil=>rfl
 | cons d ds ih=>grind
theorem inF (ds:List D) (p:D->Bool) (S:Sto):a9 .In (.bl false) (.lst ((ds.map p).map D.bl)) S=.ok (.bl (!ds.all p)) S:=by
 show inD false _ _ S=_;rw [pL,if_neg Er,DY]
theorem jU {lo hi:Int} {d:D} (h:whB lo hi d=true):∃ i,d=.int i/\lo<=i/\i<=hi:=by
 cases d with
 | int i=>
  have h:(decide (lo<=i)&&decide (i<=hi))=true:=h;rw [Ep,Fh,Fh] at h;exact ⟨i,rfl,h⟩
 | _=>cases h
theorem yq (h:inW ws d=true):∃ w,d=.str w/\w∈ws:=by
 cases d with
 | str w=>exact ⟨w,rfl,FG h⟩
 | _=>cases h
theorem pY {c:Type} {p:D->Bool} {f:c->D} {q:c->Prop} (h:∀ d,p d=true->∃ b,f b=d/\q b):∀ {ds:List D},ds.all p=true->∃ a:List c,a.map f=ds/\∀ b∈a,q b
 | [],_=>⟨[],rfl,λb z=>by cases z⟩
 | d :: ds,e=>by
  rw [FV,Ep] at e;obtain ⟨b,rfl,g⟩:=h d e.1;obtain ⟨a,rfl,hs⟩:=pY h e.2;exact ⟨b :: a,rfl,λx i=>by
   rcases Ez.mp i with rfl | z
   ·exact g
   ·exact hs x z⟩
theorem rE {lo a g:Nat} (b:lo<=g) (c:g<=a):whB (lo:Int) (a:Int) (.int (g:Int))=true:=by
 show (decide ((lo:Int)<=(g:Int))&&decide ((g:Int)<=(a:Int)))=true;grind
def k9:D->Int
 | .int i=>i
 | _=>0
theorem U6 {lo e:Int}:∀ {ds:List D},ds.all (whB lo e)=true->ds=(ds.map k9).map D.int/\∀ x∈ds.map k9,lo<=x/\x<=e
 | [],_=>⟨rfl,λx c=>by cases c⟩
 | d :: ds,h=>by
  rw [FV,Ep] at h;obtain ⟨i,rfl,f,g⟩:=jU h.1;obtain ⟨a,b⟩:=U6 h.2;refine ⟨?_,λx c=>?_⟩
  ·simp only [Fs,k9];rw [<- a]
  ·simp only [Fs,k9] at c;rcases Ez.mp c with rfl | c
   ·exact ⟨f,g⟩
   ·exact b x c
theorem P4:∀ ns:List Int,t8 (ns.map D.int)=some ns
 | []=>rfl
 | n :: ns=>by
  have:=P4 ns;simp only [Fs,t8] at *;simp [f7] at *;first | exact this | simp [this]
theorem iR {v l:List Int} (f:v.Nodup) (h:∀ x∈v,x∈l):v.length<=l.length:=by
 induction v generalizing l with
 | nil=>exact FJ _
 | cons a v g=>
  have d:=h a (Fe ..);have b:=GK.mp f;have e:=HF d;have:=g (l:=l.erase a) b.2 λx c=>(Ir (λz=>b.1 (by rw [<- z];exact c))).mpr (h x (Fg _ c));have:=Ha d;rw [GE];omega
theorem fz {m:Nat} (h:∀ x∈ns,0<=x/\x<=(m:Int)-1):(A2 ns).length<=m:=by
 have:=iR (l:=(List.range m).map λ(i:Nat)=>(i:Int)) (dE ns) λx a=>by
  obtain ⟨b,c⟩:=h x (uniq_mem.mp a);exact FX.mpr ⟨x.toNat,Fq.mpr (by omega),by omega⟩
 grind
theorem eS (a:ns.length<4000) (b:(A2 ns).length<64) (S:Sto):I0 (.tup (ns.map D.int)) S=.ok (.lst ((srt (A2 ns)).map D.int)) S:=by
 unfold I0;rw [a7 (show B1 (.tup (ns.map D.int)) S=.ok (ns.map D.int) S from rfl)];simp only [P4,if_pos (And.intro a b)];rfl
theorem rises_iff:ns=srt (A2 ns)↔ns.Pairwise (· < ·):=by
 have f:∀ {l:List Int},l.Pairwise (·<=·)->l.Nodup->l.Pairwise (· < ·):=λ{l} h c=>by
  have:=h.and c;exact this.imp λ⟨a,b⟩=>by omega
 constructor
 ·intro e;have c:=(v7 _).nodup_iff.mpr (dE ns);rw [e];exact f (bQ _) c
 ·intro h;have c:ns.Nodup:=h.imp λa=>by omega
  have g:ns.Pairwise (·<=·):=h.imp λa=>by omega
  refine dk ?_ g (bQ _);refine List.Perm.trans ?_ (v7 _).symm;exact HT.perm_sub c (λx d=>uniq_mem.mpr d) (Nat.le_antisymm (iR c λx d=>uniq_mem.mpr d) (iR (dE ns) λx d=>uniq_mem.mp d))
theorem aj:∀ ns:List Int,szs (ns.map D.int)=62 * ns.length
 | []=>rfl
 | n :: ns=>by
  show 60+2+szs (ns.map D.int)=62 * (ns.length+1);rw [aj ns];omega
theorem vN {p:Nat->D->Bool} {t:D->M Bool} {f:D->M D} {S:Sto} (h:ds.length<sizeLine) (a:∀ (i:Nat) d,ds[i]?=some d->t (.tup [.int (i:Int),d]) S=.ok true S) (b:∀ (i:Nat) d,ds[i]?=some d->f (.tup [.int (i:Int),d]) S=.ok (.bl (p i d)) S):f9 (A3 ds) t f (ds.length+1) 0 [] S=.ok (((List.range ds.length).map λi=>p i (ds.getD i .non)).map D.bl) S:=by
 refine j5 ((Ok.comp (λi S' es=>S'=S/\es=((List.range i).map λi=>p i (ds.getD i .non)).map D.bl) (λS' es _=>?_) ?_ ⟨rfl,rfl⟩).mono ?_)
 ·have e:ds[ds.length]?=none:=FO (Es _);simp only [A3,e,JI]
 ·rintro i S' es c ⟨rfl,rfl⟩;have e:=Em c;have g:ds.getD i .non=ds[i]:=by rw [Fc,e];rfl
  refine ⟨.tup [.int (i:Int),ds[i]],by simp only [A3,e],true,S',a i _ e,?_⟩
  ·show if true=true then _ else _
   rw [if_pos rfl];refine ⟨_,_,b i _ e,?_,rfl,?_⟩
   ·grind
   ·rw [Iz,Gd,Gd,List.map_singleton,g];rfl
 ·grind
theorem pg (p:Nat->Bool):((List.range m).map p).all id=(List.range m).all p:=by rw [List.all_map];rfl
theorem chk {z:Type} {src:Src} {tg:D->L3.Env->Option L3.Env} {body:L3.Env->M Fl} {n:Nat} {f:Nat->Option z} {E:L3.Env->Prop} {S:Sto} {R:z->Nat->Sto->Prop} (m:src n S=some none)
  (k:∀ i,i<n->∃ d,src i S=some (some d)/\∀ ρ,E ρ->∃ g,tg d ρ=some g/\(f i=none->Ok (body g) S λl S'=>(∃ c,l=.nx c/\E c)/\S'=S)/\∀ x,f i=some x->Xn (body g) S (R x)) {ρ:L3.Env} (h:E ρ) :
  ((List.range n).findSome? f=none->Ok (h8 src tg body (n+1) 0 ρ) S λl S'=>∃ c,l=.nx c/\E c/\S'=S)/\∀ x,(List.range n).findSome? f=some x->Xn (h8 src tg body (n+1) 0 ρ) S (R x):=by
 rcases K6 f n with ⟨a,b⟩ | ⟨i,y,F,C,A,v⟩
 ·refine ⟨λ_=>?_,λx e=>(by rw [b] at e;cases e)⟩;refine Ok.loop (λ_ ρ S'=>E ρ/\S'=S) (λρ S' q=>by rw [q.2];exact m) (λi ρ S' w ⟨p,o⟩=>?_) ⟨h,rfl⟩;subst o;obtain ⟨d,r,s⟩:=k i w;obtain ⟨g,t,u,_⟩:=s ρ p;refine ⟨d,g,r,t,(u (a i w)).mono ?_⟩;rintro l S1 ⟨⟨c,rfl,q⟩,rfl⟩;exact ⟨c,.inl rfl,q,rfl⟩
 ·refine ⟨λe=>(by rw [v] at e;cases e),λx e=>?_⟩;rw [v] at e;cases e;refine Xn.for_ (i0:=i) (λ_ ρ S'=>E ρ/\S'=S) (λj ρ S' B ⟨p,o⟩=>?_) (λρ S' ⟨p,o⟩=>?_) (n+1) 0 ρ S (by omega) (by omega) ⟨h,rfl⟩
  ·subst o;obtain ⟨d,r,s⟩:=k j (by omega);obtain ⟨g,t,u,_⟩:=s ρ p;refine ⟨d,g,r,t,(u (A j B)).mono ?_⟩;rintro l S1 ⟨⟨c,rfl,q⟩,rfl⟩;exact ⟨c,rfl,q,rfl⟩
  ·grind
def Ans {c:Type} (g:c->D) (E:L3.Env->Prop):Option c->Fl->Prop
 | none,b=>∃ a,b=.nx a/\E a
 | some x,b=>b=.rt (g x)
theorem zg {n:Nat} {f:Nat->Option β} {g:β->D} {E:L3.Env->Prop} {S:Sto} (hend:src n S=some none)
  (step:∀ i,i<n->∃ d,src i S=some (some d)/\∀ ρ,E ρ->∃ ρ1,tg d ρ=some ρ1/\Ok (body ρ1) S λfl S'=>S'=S/\Ans g E (f i) fl) {ρ:L3.Env} (h:E ρ) :
  Ok (h8 src tg body (n+1) 0 ρ) S λfl S'=>S'=S/\Ans g E ((List.range n).findSome? f) fl:=by
 have fd:∀ (i:Nat) (x:β),i<n->f i=some x->(∀ j,j<i->f j=none)->(List.range n).findSome? f=some x:=λi x h1 h2 h3=>by
  rcases K6 f n with ⟨a,_⟩ | ⟨j,y,g1,g2,g3,g4⟩
  ·grind
  ·grind
 have fn:(∀ j,j<n->f j=none)->(List.range n).findSome? f=none:=λa=>by
  rcases K6 f n with ⟨_,e⟩ | ⟨j,y,g1,g2,g3,g4⟩
  ·exact e
  ·grind
 refine (Ok.for_ (λi ρ S'=>E ρ/\S'=S/\∀ j,j<i->f j=none) (λ_ _=>False) (λd S'=>S'=S/\∃ i x,i<n/\f i=some x/\(∀ j,j<i->f j=none)/\d=g x) (λρ S' q=>by rw [q.2.1];exact hend) (λi ρ S' hi ⟨e1,e2,all⟩=>?_) n 0 ρ S (by omega) ⟨h,rfl,λj hj=>by omega⟩).mono ?_
 ·subst e2;obtain ⟨d,s1,s2⟩:=step i hi;obtain ⟨ρ1,t1,t2⟩:=s2 ρ e1;refine ⟨d,ρ1,s1,t1,t2.mono ?_⟩;rintro fl S1 ⟨rfl,q⟩;cases e:f i with
  | none=>
   rw [e] at q;obtain ⟨ρ',rfl,q⟩:=q;exact ⟨q,rfl,λj hj=>by
    by_cases z:j=i
    ·rw [z];exact e
    ·exact all j (by omega)⟩
  | some x=>
   rw [e] at q;have q:=q;subst q;exact ⟨rfl,i,x,hi,e,all,rfl⟩
 ·rintro fl S1 hf;cases fl with
  | bk ρ=>exact hf.elim
  | ct ρ=>exact hf.elim
  | rt d=>
   obtain ⟨rfl,i,x,h1,h2,h3,rfl⟩:=hf;rw [fd i x h1 h2 h3];exact ⟨rfl,rfl⟩
  | nx ρ=>
   rcases hf with ⟨e1,rfl,all⟩ | hf
   ·rw [fn all];exact ⟨rfl,ρ,rfl,e1⟩
   ·exact hf.elim
theorem rA {c:Type} {f:c->D}:∀ {ds:List D} {q:Nat->c->Prop},(∀ (i:Nat) d,ds[i]?=some d->∃ b,f b=d/\q i b)->∃ a:List c,a.map f=ds/\∀ (i:Nat) b,a[i]?=some b->q i b
 | [],_,_=>⟨[],rfl,λi b z=>by simp at z⟩
 | d :: ds,q,h=>by
  obtain ⟨b,rfl,j⟩:=h 0 d rfl;obtain ⟨a,rfl,hs⟩:=rA λi d e=>h (i+1) d (by simpa using e);exact ⟨b :: a,rfl,λi x g=>by
   cases i with
   | zero=>grind
   | succ i=>exact hs i x (by simpa using g)⟩
theorem yC (h:is1 w (.tup [a])=true):a=.str w:=by
 have h:(PyData.eqv (py a) (.str w)&&true)=true:=h;rw [Im] at h;cases a with
 | str x=>
  have h:=h;rw [JD h]
 | _=>cases h
end L3
namespace L3.Lev
open PySem PySem.Spec PyProof.Rows L2
inductive Hd where
 | out | look (l:Nat) | put (l:Nat) | holds (v:List Nat)
def nD (n:Nat):D:=.int (n:Int)
def Hd.d:Hd->D
 | .out=>.tup [.str "out"]
 | .look l=>.tup [.str "look",.int (l:Int)]
 | .put l=>.tup [.str "put",.int (l:Int)]
 | .holds v=>.tup [.str "holds",.tup (v.map nD)]
def bxD:Option Nat->D
 | none=>.non
 | some b=>.int (b:Int)
def boxOf:Hd->Option Nat
 | .out=>none
 | .look l=>some l
 | .put l=>some (l+1)
 | .holds v=>some v.length
def upB (bx:List (Option Nat)) (m i:Nat):Bool:=match bx[i]? with
 | some (some b)=>decide (b<=m)
 | _=>false
def ups (bx:List (Option Nat)) (m:Nat):List Nat:=(List.range bx.length).filter (upB bx m)
def hat (hs:List Hd) (i:Nat):Hd:=hs.getD i .out
def bxB (l:Nat) (h:Hd):Bool:=match boxOf h with
 | some b=>decide (b<=l)
 | none=>false
def efB (l:Nat):Hd->Bool
 | .out=>false
 | .look e=>decide (e<=l)
 | .put e=>decide (e<=l)
 | .holds v=>decide (v.length<=l)
def nE (hs:List Hd) (l:Nat):Nat:=(List.range hs.length).countP λi=>efB l (hat hs i)
theorem dS (e:hs[i]?=some h):hat hs i=h:=by unfold hat;rw [Fc,e];rfl
theorem V0 {i:Nat} (a:i<hs.length):hs[i]?=some (hat hs i):=by
 have e:=Em a;rw [dS e,e]
theorem gz (hs:List Hd) (l i:Nat):upB (hs.map boxOf) l i=bxB l (hat hs i):=by
 unfold upB hat bxB;rw [Fz,Fc];cases hs[i]? with
 | none=>rfl
 | some h=>cases h <;> rfl
theorem CD (q:bxB l h=true):efB l h=true:=by
 cases h with
 | out=>cases q
 | look e=>exact q
 | put e=>
  have q:=q;exact Fa (by have:=FG q;omega)
 | holds v=>exact q
theorem tJ (hs:List Hd) (l:Nat):(ups (hs.map boxOf) l).length=(List.range hs.length).countP λi=>bxB l (hat hs i):=by
 unfold ups;rw [<- Hf,En];exact List.countP_congr λi _=>by rw [gz]
theorem vC {l i:Nat} (h:i∈ups (hs.map boxOf) l):i<hs.length/\bxB l (hat hs i)=true:=by
 obtain ⟨a,b⟩:=Go.mp h;rw [gz] at b;grind
theorem se {l i:Nat} (a:i<hs.length) (h:bxB l (hat hs i)=true):i∈ups (hs.map boxOf) l:=Go.mpr ⟨by rw [Fq,En];exact a,by rw [gz];exact h⟩
structure Good (hs:List Hd):Prop where
 cnt:∀ l,nE hs l<=l
 view:∀ i v,i<hs.length->hat hs i=.holds v->v=ups (hs.map boxOf) v.length
 top:∀ i b,i<hs.length->boxOf (hat hs i)=some b->b<=hs.length
theorem Good.pos (G:Good hs) {i:Nat} (b:i<hs.length):(∀ l,hat hs i=.look l->1<=l)/\∀ l,hat hs i=.put l->1<=l:=by
 have z:nE hs 0=0:=by have:=G.cnt 0;omega
 have a:=λq=>(List.countP_eq_zero.mp z) i (Fq.mpr b) q;refine ⟨λl e=>?_,λl e=>?_⟩
 ·rw [e] at a;have:¬ l<=0:=λq=>a (Fa q);omega
 ·rw [e] at a;have:¬ l<=0:=λq=>a (Fa q);omega
theorem Good.own (G:Good hs) {i:Nat} (a:i<hs.length) {v:List Nat} (e:hat hs i=.holds v):i∈v:=by
 rw [G.view i v a e];exact se a (by rw [e];exact Fa (Es _))
end L3.Lev
namespace L3.Un
open PySem PySem.Spec PyProof.Rows L2
theorem cj (h:ns.Nodup):V8 ns=ns.length:=by
 have g:∀ i,i<=ns.length->(firstMet (λi=>ns.getD i 0) i).length=i:=by
  intro i;induction i with
  | zero=>intro _;rfl
  | succ i d=>
   intro k;have e:(firstMet (λi=>ns.getD i 0) i).any (·==ns.getD i 0)=false:=by
    rw [firstMet_any,Ja];intro x c;obtain ⟨j,b,rfl⟩:=FX.mp c;have b:=Fq.mp b;have a:ns[j]?=some (ns.getD j 0):=by rw [Fc,Em (by omega)];rfl
    have f:ns[i]?=some (ns.getD i 0):=by rw [Fc,Em (by omega)];rfl
    intro z;have z:ns.getD j 0=ns.getD i 0:=by simpa using z
    rw [z,<- f] at a;have:=(List.getElem?_inj (by omega) h).mp a;omega
   rw [firstMet_succ];unfold step_dedup;simp only [e];rw [if_neg Er,FN,d (by omega)];rfl
 exact g ns.length (Es _)
end L3.Un
namespace L3.K22
open PySem PySem.Spec PyProof.Rows L2
def nth (l:List Stmt) (i:Nat):Stmt:=l.getD i (.Pass ⟨0,0,0,0⟩)
def top (i:Nat):Stmt:=nth PySem.Challenge.pw_handnames_k22_levels_judged.main.body i
def j8:Stmt->List Stmt
 | .For _ _ b _ _=>b
 | .While _ b _ _=>b
 | _=>[]
def zI:Stmt->Expr
 | .While c _ _ _=>c
 | _=>.Name "" ⟨0,0,0,0⟩
def tq:Stmt->List Stmt
 | .Try b _ _ _ _=>b
 | _=>[]
def vO:Stmt->List Stmt
 | .Try _ [.ExceptHandler _ _ b _] _ _ _=>b
 | _=>[]
abbrev wv:Fd:=q4 (top 9) []
abbrev wt:Fd:=q4 (top 10) []
abbrev AY:Fd:=q4 (top 11) []
abbrev At:Fd:=q4 (top 12) []
abbrev Ei:Fd:=q4 (top 14) []
abbrev Eb:Fd:=q4 (top 16) ["count"]
abbrev Ee:Fd:=q4 (top 17) []
abbrev Cz:Fd:=q4 (top 18) []
abbrev wZ:Fd:=q4 (top 19) []
abbrev wW:Fd:=q4 (top 21) []
abbrev wT:Fd:=q4 (top 22) []
abbrev wY:Fd:=q4 (top 23) []
abbrev wE:Fd:=q4 (top 24) []
abbrev Ec:Fd:=q4 (top 25) ["~","_law_found"]
abbrev mi:Fd:=q4 (top 26) []
abbrev K7:Fd:=q4 (top 27) []
abbrev Eg:Fd:=q4 (top 28) ["_law_rows","_law_inside"]
abbrev Ed:Fd:=q4 (top 29) ["_law_hands"]
abbrev Ef:Fd:=q4 (top 30) ["_law_boxes","_law_hands"]
abbrev wP:Fd:=q4 (top 31) []
abbrev CU:Fd:=q4 (top 32) []
abbrev wg:Fd:=q4 (top 33) []
abbrev wm:Fd:=q4 (top 34) []
abbrev Cl:Fd:=q4 (top 35) []
abbrev Eh:Fd:=q4 (top 36) []
abbrev BT:Fd:=q4 (top 37) []
abbrev BH:Fd:=q4 (top 38) []
abbrev law_F:Fd:=q4 (top 39) ["_law_things"]
abbrev yP:Nat:=0
abbrev gY:Nat:=1
abbrev Aw:Nat:=2
abbrev Ad:Nat:=3
abbrev kL:Nat:=4
abbrev jY:Nat:=5
abbrev Bj:Nat:=6
abbrev Co:Nat:=7
abbrev zm:Nat:=8
abbrev xz:Nat:=9
abbrev G2:Nat:=10
abbrev gC:Nat:=11
abbrev rG:Nat:=12
abbrev xM:Nat:=13
abbrev M2:Nat:=14
abbrev hX:Nat:=15
abbrev Ao:Nat:=16
abbrev zx:Nat:=17
abbrev Br:Nat:=18
abbrev gQ:Nat:=19
abbrev wf:Nat:=20
abbrev yH:Nat:=21
abbrev zR:Nat:=22
abbrev oY:Nat:=23
abbrev nz:Nat:=24
abbrev ze:Nat:=25
abbrev wM:Nat:=26
abbrev rY:Nat:=27
def Tb:List Fd:=[wv,wt,AY,At,Ei,Eb,Ee,Cz,wZ,wW,wT,wY,wE,Ec,mi,K7,Eg,Ed,Ef,wP,CU,wg,wm,Cl,Eh,BT,BH,law_F]
def Γ:Gm:=⟨("HandError",.err 0 []) :: ("NoStep",.err 1 ["hand"]) :: ("NoPaper",.err 2 ["word","at"]) :: ("NoStand",.err 3 ["word","at"]) :: ("TooMany",.err 4 ["word"]) :: ("NoType",.err 5 ["type_here"]) :: ("NoRow",.err 6 []) :: ("is_whole",.fn 0 1) :: ("is_within",.fn 1 3) :: ("is_tuple_of",.fn 2 2) :: ("are_rising_hands",.fn 3 2) :: ("hands_up_to",.fn 4 2) :: ("lets_levels",.fn 5 2) :: ("is_level_stand",.fn 6 2) :: ("is_hand_here",.fn 7 3) :: ("box_due",.fn 8 1) :: ("_law_well",.fn 9 2) :: ("_law_draw",.fn 10 2) :: ("_law_with",.fn 11 3) :: ("_law_seen",.fn 12 2) :: ("_law_refusal",.fn 13 1) :: ("_law_odd",.fn 14 1) :: ("_law_bent",.fn 15 2) :: ("_law_level_rows",.fn 16 2) :: ("_law_let_by",.fn 17 2) :: ("_law_any_levels",.fn 18 2) :: ("_law_is_whole",.fn 19 3) :: ("_law_is_level_hand",.fn 20 3) :: ("_law_is_levels",.fn 21 2) :: ("_law_box_of",.fn 22 1) :: ("_law_level_due",.fn 23 2) :: ("_law_level_told",.fn 24 2) :: ("_law_broken",.fn 25 2) :: ("_law_judged_right",.fn 26 2) :: ("law",.fn 27 1) :: [],λc c0=>c0==0||c==c0,["hand","word","at","type_here"],[13]⟩
def Rs:Rules:=⟨[zU,Bf,EW,DN,rIx,Dx,DZ,rFn,DO,EG,Bn,AR,AJ,tM,vt,EM,zk,CG,Bp,sJ,EN,EH,EI,BN,rIf,Dv,De,Dh,rSl,EJ,Dp,zv,zy,xY,rAppend,EE,tm],[xS,CS,DK,zw],[yM,Am,sIf,DU,xw,ED,Ai,lw,mf,Dc,Db,Cj,AM],[ve,vD,AU,Dq]⟩
abbrev rn (k i:Nat) (ds:List D):M D:=P9 Rs Γ Tb k i ds
section
variable (C:Cf) {α:Type} (κ:Fl->M α) {ua ub uc ud ue uf:D} {qa qb qc qd qe qf qg qh qi qj qk ql qm:Option D}
theorem tX:runK Rs Γ C wv [ua]=bind (J2 "int" (λ_=>false) ua) λx1=>bind (h7 x1) λc2=>if c2=true then (bind (J2 "bool" (λ_=>false) ua) λx3=>bind (h7 x3) λc4=>ret (.bl (!c4))) else (ret x1):=by kernel_rfl
theorem uH:runK Rs Γ C wt [ua,ub,uc]=bind (C 0 [ua]) λx1=>bind (h7 x1) λc2=>if c2=true then (bind (a9 .LtE ub ua) λx3=>bind (asB x3) λz4=>if z4=true then (bind (a9 .LtE ua uc) λx5=>ret x5) else (ret (.bl false))) else (ret x1):=by kernel_rfl
theorem zA:runK Rs Γ C AY [ua,ub]=bind (J2 "tuple" (λ_=>false) ua) λx1=>bind (h7 x1) λc2=>if c2=true then (bind (p8 ua) λx3=>bind (a9 .Eq x3 ub) λx4=>ret x4) else (ret x1):=by kernel_rfl
theorem zF:runK Rs Γ C At [ua,ub]=bind (J2 "tuple" (λ_=>false) ub) λx1=>bind (h7 x1) λz2=>if (!z2)=true then (ret (.bl false)) else (bind (nx (bind (O1 ub) λsm4=>f9 sm4.1 (λd3=>ret true) (λd3=>bind (P1 ua (.int 1)) λx5=>bind (C 1 [d3,(.int 0),x5]) λx6=>ret x6) sm4.2 0 [])) λl7=>bind (lq (.lst l7)) λx8=>bind (h7 x8) λz9=>if (!z9)=true then (ret (.bl false)) else (bind (fZ ub) λx10=>bind (I0 ub) λx11=>bind (a9 .Eq x10 x11) λx12=>ret x12)):=by kernel_rfl
def z9_L:Lc:=G6 Ei
def cO:Expr×List Expr×Scope:=match (nth Ei.body 0) with
 | .Return (some (.Call _ [.ListComp elt [⟨_,_,ifs,_⟩] scope _] _ _)) _=>(elt,ifs,scope)
 | _=>(.Name "" ⟨0,0,0,0⟩,[],default)
def nI (C:Cf) (ρ:L3.Env) (d:D):M Bool:=match f7 (f8 z9_L.N) (q5 cO.2.2) with
 | some caps=>mn (testsK (evK Rs Γ C 37) (k7 z9_L cO.2.2 ["hand","box"]) cO.2.1) (mk2 (E7 caps ρ) d)
 | none=>bad
theorem iT:nI C [qa,some ua] (.tup [ub,uc])=bind (a9 .IsNot uc .non) λx1=>bind (asB x1) λz2=>if z2=true then (bind (a9 .LtE uc ua) λx3=>bind (asB x3) λz4=>ret z4) else (ret false):=by kernel_rfl
def gM (C:Cf) (ρ:L3.Env) (d:D):M D:=match f7 (f8 z9_L.N) (q5 cO.2.2) with
 | some caps=>(evK Rs Γ C 37).e (k7 z9_L cO.2.2 ["hand","box"]) cO.1 (mk2 (E7 caps ρ) d) ret
 | none=>bad
theorem iL:gM C [qa,qb] (.tup [ua,ub])=ret ua:=by kernel_rfl
theorem zK:runK Rs Γ C Ei [ua,ub]=bind (nx (bind (Y1 ua) λsm1=>f9 sm1.1 (nI C [some ua,some ub]) (gM C [some ua,some ub]) sm1.2 0 [])) λl2=>bind (u6 (.lst l2)) λx3=>ret x3:=by kernel_rfl
def W1:Lc:=G6 Eb
theorem aw:runK Rs Γ C Eb [ua,ub]=j6 (evK Rs Γ C 40) W1 Eb.body [some ua,some ub,none,none,none,none,none] endD:=by kernel_rfl
theorem bK:Eb.body=[nth Eb.body 0,nth Eb.body 1,nth Eb.body 2,nth Eb.body 3,nth Eb.body 4,nth Eb.body 5]:=by kernel_rfl
theorem oh:(evK Rs Γ C 40).s W1 (nth Eb.body 0) [some ua,some ub,qa,qb,qc,qd,qe] κ=bind (C 6 [ua,ub]) λx1=>bind (h7 x1) λz2=>if (!z2)=true then (bind (P2 3 ["word","at"] [(.str "shape"),(.int 0)]) λx3=>bind (D4 x3) (fin κ)) else (κ (.nx [some ua,some ub,qa,qb,qc,qd,qe])):=by kernel_rfl
theorem vG:(evK Rs Γ C 40).s W1 (nth Eb.body 1) [qa,some ua,qb,qc,qd,qe,qf] κ=bind (Y6 (u8 [2,3]) ua [qa,some ua,qb,qc,qd,qe,qf]) κ:=by kernel_rfl
def dP:List Stmt:=j8 (nth Eb.body 2)
def S9 (C:Cf):L3.Env->M Fl:=λρ'=>j6 (evK Rs Γ C 39) W1 dP ρ' ret
theorem sG:(evK Rs Γ C 40).s W1 (nth Eb.body 2) [qa,qb,qc,some ua,qd,qe,qf] κ=bind (Y1 ua) λsm1=>bind (h8 sm1.1 (u8 [4,5]) (S9 C) sm1.2 0 [qa,qb,qc,some ua,qd,qe,qf]) κ:=by kernel_rfl
def eA:List Stmt:=j8 (nth Eb.body 3)
def U2 (C:Cf):L3.Env->M Fl:=λρ'=>j6 (evK Rs Γ C 39) W1 eA ρ' ret
theorem zY:(evK Rs Γ C 40).s W1 (nth Eb.body 3) [some ua,qa,qb,qc,qd,qe,qf] κ=bind (i7 ua (.int 1)) λx1=>bind (j4 [(.int 1),x1]) λsm2=>bind (h8 sm2.1 (λd ρ=>some (ρ.set 6 (some d))) (U2 C) sm2.2 0 [some ua,qa,qb,qc,qd,qe,qf]) κ:=by kernel_rfl
def dF:List Stmt:=j8 (nth Eb.body 4)
def R7 (C:Cf):L3.Env->M Fl:=λρ'=>j6 (evK Rs Γ C 39) W1 dF ρ' ret
theorem AV:(evK Rs Γ C 40).s W1 (nth Eb.body 4) [qa,qb,qc,some ua,qd,qe,qf] κ=bind (Y1 ua) λsm1=>bind (h8 sm1.1 (u8 [4,5]) (R7 C) sm1.2 0 [qa,qb,qc,some ua,qd,qe,qf]) κ:=by kernel_rfl
theorem EQ:(evK Rs Γ C 40).s W1 (nth Eb.body 5) [qa,qb,qc,qd,qe,qf,qg] κ=κ (.rt (.bl true)):=by kernel_rfl
theorem bA:dP=[nth dP 0]:=by kernel_rfl
theorem fS:(evK Rs Γ C 39).s W1 (nth dP 0) [qa,qb,some ua,qc,some ub,some uc,qd] κ=bind (ixD ua ub) λx1=>bind (C 8 [uc]) λx2=>bind (a9 .NotEq x1 x2) λx3=>bind (asB x3) λz4=>if z4=true then (bind (P2 3 ["word","at"] [(.str "box"),ub]) λx5=>bind (D4 x5) (fin κ)) else (κ (.nx [qa,qb,some ua,qc,some ub,some uc,qd])):=by kernel_rfl
theorem bb:eA=[nth eA 0]:=by kernel_rfl
theorem fC:(evK Rs Γ C 39).s W1 (nth eA 0) [qa,qb,some ua,some ub,qc,qd,some uc] κ=bind (C 4 [ua,uc]) λx1=>bind (p8 x1) λx2=>bind (tupOf ub) λ_=>bind (countG ub [(.tup [(.str "put"),uc])]) λx3=>bind (i7 x2 x3) λx4=>bind (a9 .Gt x4 uc) λx5=>bind (asB x5) λz6=>if z6=true then (bind (P2 3 ["word","at"] [(.str "many"),uc]) λx7=>bind (D4 x7) (fin κ)) else (κ (.nx [qa,qb,some ua,some ub,qc,qd,some uc])):=by kernel_rfl
theorem bF:dF=[nth dF 0]:=by kernel_rfl
theorem fK:(evK Rs Γ C 39).s W1 (nth dF 0) [qa,qb,some ua,qc,some ub,some uc,qd] κ=bind (ixD uc (.int 0)) λx1=>bind (a9 .Eq x1 (.str "holds")) λx2=>bind (asB x2) λz3=>if z3=true then (bind (ixD uc (.int 1)) λx4=>bind (ixD uc (.int 1)) λx5=>bind (p8 x5) λx6=>bind (C 4 [ua,x6]) λx7=>bind (a9 .NotEq x4 x7) λx8=>bind (asB x8) λz9=>if z9=true then (bind (P2 3 ["word","at"] [(.str "view"),ub]) λx10=>bind (D4 x10) (fin κ)) else (κ (.nx [qa,qb,some ua,qc,some ub,some uc,qd]))) else (κ (.nx [qa,qb,some ua,qc,some ub,some uc,qd])):=by kernel_rfl
def z1_L:Lc:=G6 Ee
theorem xh:runK Rs Γ C Ee [ua,ub]=j6 (evK Rs Γ C 40) z1_L Ee.body [some ua,some ub,none,none] endD:=by kernel_rfl
theorem zp:Ee.body=[nth Ee.body 0,nth Ee.body 1,nth Ee.body 2,nth Ee.body 3,nth Ee.body 4]:=by kernel_rfl
theorem DP:(evK Rs Γ C 40).s z1_L (nth Ee.body 0) [qa,some ua,qb,qc] κ=bind (C 2 [ua,(.int 2)]) λx1=>bind (h7 x1) λz2=>if (!z2)=true then (κ (.rt (.bl false))) else (κ (.nx [qa,some ua,qb,qc])):=by kernel_rfl
theorem EL:(evK Rs Γ C 40).s z1_L (nth Ee.body 1) [qa,some ua,qb,qc] κ=bind (Y6 (u8 [2,3]) ua [qa,some ua,qb,qc]) κ:=by kernel_rfl
theorem EX:(evK Rs Γ C 40).s z1_L (nth Ee.body 2) [some ua,qa,some ub,some uc] κ=bind (C 2 [ub,ua]) λx1=>bind (h7 x1) λz2=>if (!z2)=true then (κ (.rt (.bl false))) else (bind (C 2 [uc,ua]) λx3=>bind (h7 x3) λz4=>if (!z4)=true then (κ (.rt (.bl false))) else (κ (.nx [some ua,qa,some ub,some uc]))):=by kernel_rfl
theorem EB:(evK Rs Γ C 40).s z1_L (nth Ee.body 3) [some ua,qa,some ub,qb] κ=bind (nx (bind (O1 ub) λsm2=>f9 sm2.1 (λd1=>ret true) (λd1=>bind (a9 .Is d1 .non) λx3=>bind (h7 x3) λc4=>if c4=true then (ret x3) else (bind (C 1 [d1,(.int 1),ua]) λx5=>ret x5)) sm2.2 0 [])) λl6=>bind (lq (.lst l6)) λx7=>bind (h7 x7) λz8=>if (!z8)=true then (κ (.rt (.bl false))) else (κ (.nx [some ua,qa,some ub,qb])):=by kernel_rfl
def cU:Expr×List Expr×Scope:=match (nth Ee.body 4) with
 | .Return (some (.Call _ [.ListComp elt [⟨_,_,ifs,_⟩] scope _] _ _)) _=>(elt,ifs,scope)
 | _=>(.Name "" ⟨0,0,0,0⟩,[],default)
def hJ (C:Cf) (ρ:L3.Env) (d:D):M Bool:=match f7 (f8 z1_L.N) (q5 cU.2.2) with
 | some caps=>mn (testsK (evK Rs Γ C 37) (k7 z1_L cU.2.2 ["hand","here"]) cU.2.1) (mk2 (E7 caps ρ) d)
 | none=>bad
theorem gb:hJ C [qa,qb,qc,qd] (.tup [ua,ub])=ret true:=by kernel_rfl
def gJ (C:Cf) (ρ:L3.Env) (d:D):M D:=match f7 (f8 z1_L.N) (q5 cU.2.2) with
 | some caps=>(evK Rs Γ C 37).e (k7 z1_L cU.2.2 ["hand","here"]) cU.1 (mk2 (E7 caps ρ) d) ret
 | none=>bad
theorem gG:gJ C [some ua,qa,qb,qc] (.tup [ub,uc])=bind (C 7 [ua,ub,uc]) λx1=>ret x1:=by kernel_rfl
theorem ET:(evK Rs Γ C 40).s z1_L (nth Ee.body 4) [some ua,qa,qb,some ub] κ=bind (nx (bind (Y1 ub) λsm1=>f9 sm1.1 (hJ C [some ua,qa,qb,some ub]) (gJ C [some ua,qa,qb,some ub]) sm1.2 0 [])) λl2=>bind (lq (.lst l2)) λx3=>κ (.rt x3):=by kernel_rfl
theorem ym:runK Rs Γ C Cz [ua,ub,uc]=bind (a9 .Eq uc (.tup [(.str "out")])) λx1=>bind (asB x1) λz2=>if z2=true then (ret (.bl true)) else (bind (C 2 [uc,(.int 2)]) λx3=>bind (h7 x3) λz4=>if (!z4)=true then (ret (.bl false)) else (bind (ixD uc (.int 0)) λx5=>bind (a9 .Eq x5 (.str "holds")) λx6=>bind (asB x6) λz7=>if z7=true then (bind (ixD uc (.int 1)) λx8=>bind (C 3 [ua,x8]) λx9=>bind (h7 x9) λc10=>if c10=true then (bind (ixD uc (.int 1)) λx11=>bind (a9 .In ub x11) λx12=>ret x12) else (ret x9)) else (bind (ixD uc (.int 0)) λx13=>bind (a9 .Eq x13 (.str "put")) λx14=>bind (asB x14) λz15=>if z15=true then (bind (ixD uc (.int 1)) λx16=>bind (P1 ua (.int 1)) λx17=>bind (C 1 [x16,(.int 1),x17]) λx18=>ret x18) else (bind (ixD uc (.int 0)) λx19=>bind (a9 .Eq x19 (.str "look")) λx20=>bind (h7 x20) λc21=>if c21=true then (bind (ixD uc (.int 1)) λx22=>bind (C 1 [x22,(.int 1),ua]) λx23=>ret x23) else (ret x20))))):=by kernel_rfl
theorem uW:runK Rs Γ C wZ [ua]=bind (ixD ua (.int 0)) λx1=>bind (a9 .Eq x1 (.str "out")) λx2=>bind (asB x2) λz3=>if z3=true then (ret .non) else (bind (ixD ua (.int 0)) λx4=>bind (a9 .Eq x4 (.str "look")) λx5=>bind (asB x5) λz6=>if z6=true then (bind (ixD ua (.int 1)) λx7=>ret x7) else (bind (ixD ua (.int 0)) λx8=>bind (a9 .Eq x8 (.str "put")) λx9=>bind (asB x9) λz10=>if z10=true then (bind (ixD ua (.int 1)) λx11=>bind (i7 x11 (.int 1)) λx12=>ret x12) else (bind (ixD ua (.int 1)) λx13=>bind (p8 x13) λx14=>ret x14))):=by kernel_rfl
theorem sE:runK Rs Γ C wW [ua,ub]=bind (slD ua none (some 63)) λx1=>bind (cE (.int 17) ub) λx2=>bind (pS [((.str "cells"),x1),((.str "at"),ub),((.str "left"),(.int 0)),((.str "turn"),x2)]) λx3=>ret x3:=by kernel_rfl
theorem vA (C:Cf) (p x:D):runK Rs Γ C wT [p,x]=ii p x:=by kernel_rfl
theorem tT:runK Rs Γ C wY [ua,ub,uc]=bind (br ub) λn1=>bind (slD ua none n1) λx2=>bind (i7 x2 (.tup [uc])) λx3=>bind (i7 ub (.int 1)) λx4=>bind (br x4) λn5=>bind (slD ua n5 none) λx6=>bind (i7 x3 x6) λx7=>ret x7:=by kernel_rfl
theorem sF:runK Rs Γ C wE [ua,ub]=bind (nx (bind (p8 ua) λx2=>bind (j4 [x2]) λsm3=>f9 sm3.1 (λd1=>bind (ixD ua d1) λx4=>bind (a9 .IsNot x4 .non) λx5=>bind (asB x5) λz6=>if z6=true then (bind (ixD ua d1) λx7=>bind (a9 .LtE x7 ub) λx8=>bind (asB x8) λz9=>ret z9) else (ret false)) (λd1=>ret d1) sm3.2 0 [])) λl10=>bind (u6 (.lst l10)) λx11=>ret x11:=by kernel_rfl
def ae:Lc:=G6 Ec
theorem sg:runK Rs Γ C Ec [ua]=j6 (evK Rs Γ C 40) ae Ec.body [some ua,none] endD:=by kernel_rfl
theorem tj:Ec.body=[nth Ec.body 0,nth Ec.body 1,nth Ec.body 2,nth Ec.body 3,nth Ec.body 4,nth Ec.body 5]:=by kernel_rfl
theorem DE:(evK Rs Γ C 40).s ae (nth Ec.body 0) [qa,qb] κ=bind (newL []) λx1=>κ (.nx [qa,some x1]):=by kernel_rfl
theorem Ak:(evK Rs Γ C 40).s ae (nth Ec.body 1) [some ua,some ub] κ=bind (w6 (λc=>Γ.sub c 1) ua) λx1=>bind (h7 x1) λz2=>if z2=true then (bind (lstOf ub) λ_=>bind (cF "hand" ua) λx3=>bind (C9 ub [(.tup [(.str "step"),x3])]) λx4=>κ (.nx [some ua,some ub])) else (κ (.nx [some ua,some ub])):=by kernel_rfl
theorem AZ:(evK Rs Γ C 40).s ae (nth Ec.body 2) [some ua,some ub] κ=bind (w6 (λc=>Γ.sub c 3) ua) λx1=>bind (h7 x1) λz2=>if z2=true then (bind (lstOf ub) λ_=>bind (cF "word" ua) λx3=>bind (cF "at" ua) λx4=>bind (C9 ub [(.tup [(.str "stand"),x3,x4])]) λx5=>κ (.nx [some ua,some ub])) else (κ (.nx [some ua,some ub])):=by kernel_rfl
theorem CV:(evK Rs Γ C 40).s ae (nth Ec.body 3) [some ua,some ub] κ=bind (w6 (λc=>Γ.sub c 4) ua) λx1=>bind (h7 x1) λz2=>if z2=true then (bind (lstOf ub) λ_=>bind (cF "word" ua) λx3=>bind (C9 ub [(.tup [(.str "many"),x3])]) λx4=>κ (.nx [some ua,some ub])) else (κ (.nx [some ua,some ub])):=by kernel_rfl
theorem BW:(evK Rs Γ C 40).s ae (nth Ec.body 4) [some ua,some ub] κ=bind (w6 (λc=>[2,6,5].any λc0=>Γ.sub c c0) ua) λx1=>bind (h7 x1) λz2=>if z2=true then (bind (lstOf ub) λ_=>bind (C9 ub [(.tup [(.str "odd")])]) λx3=>κ (.nx [some ua,some ub])) else (bind (w6 (λ_=>true) ua) λx4=>bind (h7 x4) λz5=>if (!z5)=true then (bind (lstOf ub) λ_=>bind (C9 ub [(.tup [(.str "odd")])]) λx6=>κ (.nx [some ua,some ub])) else (κ (.nx [some ua,some ub]))):=by kernel_rfl
theorem Bo:(evK Rs Γ C 40).s ae (nth Ec.body 5) [qa,some ua] κ=bind (p8 ua) λx1=>bind (a9 .Eq x1 (.int 1)) λx2=>bind (asB x2) λz3=>if z3=true then (bind (ixD ua (.int 0)) λx4=>κ (.rt x4)) else (κ (.rt (.tup [(.str "odd")]))):=by kernel_rfl
def N6:Lc:=G6 Eg
theorem xi:runK Rs Γ C Eg [ua,ub]=j6 (evK Rs Γ C 40) N6 Eg.body [some ua,some ub,none,none,none,none,none] endD:=by kernel_rfl
theorem ye:Eg.body=[nth Eg.body 0,nth Eg.body 1,nth Eg.body 2,nth Eg.body 3]:=by kernel_rfl
theorem Ds:(evK Rs Γ C 40).s N6 (nth Eg.body 0) [qa,qb,qc,qd,qe,qf,qg] κ=bind (newL []) λx1=>κ (.nx [qa,qb,some x1,qd,qe,qf,qg]):=by kernel_rfl
def L8:List Stmt:=j8 (nth Eg.body 1)
def di (C:Cf):L3.Env->M Fl:=λρ'=>j6 (evK Rs Γ C 39) N6 L8 ρ' ret
theorem EU:(evK Rs Γ C 40).s N6 (nth Eg.body 1) [qa,some ua,qb,qc,qd,qe,qf] κ=bind (j4 [ua]) λsm1=>bind (h8 sm1.1 (λd ρ=>some (ρ.set 3 (some d))) (di C) sm1.2 0 [qa,some ua,qb,qc,qd,qe,qf]) κ:=by kernel_rfl
def J9:List Stmt:=j8 (nth Eg.body 2)
def jE (C:Cf):L3.Env->M Fl:=λρ'=>j6 (evK Rs Γ C 39) N6 J9 ρ' ret
theorem Dn:(evK Rs Γ C 40).s N6 (nth Eg.body 2) [qa,some ua,qb,qc,qd,qe,qf] κ=bind (j4 [(.int 1),ua]) λsm1=>bind (h8 sm1.1 (λd ρ=>some (ρ.set 4 (some d))) (jE C) sm1.2 0 [qa,some ua,qb,qc,qd,qe,qf]) κ:=by kernel_rfl
theorem Dl:(evK Rs Γ C 40).s N6 (nth Eg.body 3) [qa,qb,some ua,qc,qd,qe,qf] κ=κ (.rt ua):=by kernel_rfl
theorem iY:L8=[nth L8 0,nth L8 1,nth L8 2]:=by kernel_rfl
theorem nG:(evK Rs Γ C 39).s N6 (nth L8 0) [some ua,some ub,qa,qb,qc,qd,qe] κ=bind (C 10 [ua,ub]) λx1=>bind (i7 (.int 1) x1) λx2=>κ (.nx [some ua,some ub,qa,qb,some x2,qd,qe]):=by kernel_rfl
theorem pC:(evK Rs Γ C 39).s N6 (nth L8 1) [some ua,qa,qb,qc,qd,qe,qf] κ=bind (C 10 [ua,(.int 4)]) λx1=>κ (.nx [some ua,qa,qb,qc,qd,some x1,qf]):=by kernel_rfl
theorem nK:(evK Rs Γ C 39).s N6 (nth L8 2) [qa,qb,some ua,qc,some ub,some uc,qd] κ=bind (lstOf ua) λ_=>bind (a9 .Eq uc (.int 0)) λx1=>bind (asB x1) λz2=>if z2=true then (bind (C9 ua [.non]) λx3=>κ (.nx [qa,qb,some ua,qc,some ub,some uc,qd])) else (bind (a9 .Eq uc (.int 1)) λx4=>bind (h7 x4) λc5=>if c5=true then (bind (a9 .Gt ub (.int 1)) λx6=>bind (C9 ua [(.tup [ub,x6])]) λx7=>κ (.nx [qa,qb,some ua,qc,some ub,some uc,qd])) else (bind (C9 ua [(.tup [ub,x4])]) λx8=>κ (.nx [qa,qb,some ua,qc,some ub,some uc,qd]))):=by kernel_rfl
theorem iC:J9=[nth J9 0,nth J9 1]:=by kernel_rfl
theorem oA:(evK Rs Γ C 39).s N6 (nth J9 0) [qa,some ua,some ub,qb,some uc,qc,qd] κ=bind (nx (bind (j4 [ua]) λsm2=>f9 sm2.1 (λd1=>bind (ixD ub d1) λx3=>bind (a9 .IsNot x3 .non) λx4=>bind (asB x4) λz5=>if z5=true then (bind (ixD ub d1) λx6=>bind (ixD x6 (.int 0)) λx7=>bind (ixD ub d1) λx8=>bind (ixD x8 (.int 1)) λx9=>bind (lK x9) λx10=>bind (P1 x7 x10) λx11=>bind (a9 .LtE x11 uc) λx12=>bind (asB x12) λz13=>ret z13) else (ret false)) (λd1=>ret d1) sm2.2 0 [])) λl14=>bind (newL l14) λx15=>κ (.nx [qa,some ua,some ub,qb,some uc,qc,some x15]):=by kernel_rfl
def W2 (C:Cf):L3.Env->M Bool:=λρ'=>(evK Rs Γ C 38).t N6 (zI (nth J9 1)) ρ' ret
theorem cI:W2 C [qa,qb,qc,qd,some ua,qe,some ub]=bind (p8 ub) λx1=>bind (a9 .Gt x1 ua) λx2=>bind (asB x2) λz3=>ret z3:=by kernel_rfl
def G9:List Stmt:=j8 (nth J9 1)
def K0 (C:Cf):L3.Env->M Fl:=λρ'=>j6 (evK Rs Γ C 38) N6 G9 ρ' ret
theorem oJ:(evK Rs Γ C 39).s N6 (nth J9 1) [qa,qb,qc,qd,qe,qf,qg] κ=bind (C8 (W2 C) (K0 C) 10000 [qa,qb,qc,qd,qe,qf,qg]) κ:=by kernel_rfl
theorem bD:G9=[nth G9 0]:=by kernel_rfl
theorem dR:(evK Rs Γ C 38).s N6 (nth G9 0) [some ua,qa,some ub,qb,some uc,qc,some ud] κ=bind (i7 uc (.int 1)) λx1=>bind (lstOf ud) λ_=>bind (p8 ud) λx2=>bind (C 10 [ua,x2]) λx3=>bind (popD ud [x3]) λx4=>bind (K1 ub x4 (.tup [x1,(.bl false)])) λ_=>κ (.nx [some ua,qa,some ub,qb,some uc,qc,some ud]):=by kernel_rfl
def L9:Lc:=G6 Ed
theorem sn:runK Rs Γ C Ed [ua,ub]=j6 (evK Rs Γ C 40) L9 Ed.body [some ua,some ub,none,none,none,none,none,none] endD:=by kernel_rfl
theorem uN:Ed.body=[nth Ed.body 0,nth Ed.body 1,nth Ed.body 2,nth Ed.body 3,nth Ed.body 4]:=by kernel_rfl
theorem Cw:(evK Rs Γ C 40).s L9 (nth Ed.body 0) [some ua,some ub,qa,qb,qc,qd,qe,qf] κ=bind (C 16 [ua,ub]) λx1=>κ (.nx [some ua,some ub,some x1,qb,qc,qd,qe,qf]):=by kernel_rfl
theorem Bw:(evK Rs Γ C 40).s L9 (nth Ed.body 1) [qa,qb,some ua,qc,qd,qe,qf,qg] κ=bind (nx (bind (O1 ua) λsm2=>f9 sm2.1 (λd1=>ret true) (λd1=>bind (a9 .Is d1 .non) λx3=>bind (asB x3) λz4=>if z4=true then (ret .non) else (bind (ixD d1 (.int 0)) λx5=>ret x5)) sm2.2 0 [])) λl6=>bind (u6 (.lst l6)) λx7=>κ (.nx [qa,qb,some ua,qc,some x7,qe,qf,qg]):=by kernel_rfl
theorem AK:(evK Rs Γ C 40).s L9 (nth Ed.body 2) [qa,qb,qc,qd,qe,qf,qg,qh] κ=bind (newL []) λx1=>κ (.nx [qa,qb,qc,qd,qe,some x1,qg,qh]):=by kernel_rfl
def z0:List Stmt:=j8 (nth Ed.body 3)
def fH (C:Cf):L3.Env->M Fl:=λρ'=>j6 (evK Rs Γ C 39) L9 z0 ρ' ret
theorem DB:(evK Rs Γ C 40).s L9 (nth Ed.body 3) [qa,qb,some ua,qc,qd,qe,qf,qg] κ=bind (O1 ua) λsm1=>bind (h8 sm1.1 (λd ρ=>some (ρ.set 3 (some d))) (fH C) sm1.2 0 [qa,qb,some ua,qc,qd,qe,qf,qg]) κ:=by kernel_rfl
theorem BL:(evK Rs Γ C 40).s L9 (nth Ed.body 4) [qa,qb,qc,qd,some ua,some ub,qe,qf] κ=bind (u6 ub) λx1=>κ (.rt (.tup [ua,x1])):=by kernel_rfl
theorem fF:z0=[nth z0 0,nth z0 1,nth z0 2]:=by kernel_rfl
theorem lI:(evK Rs Γ C 39).s L9 (nth z0 0) [qa,qb,qc,qd,qe,qf,qg,qh] κ=κ (.nx [qa,qb,qc,qd,qe,qf,some (.tup [(.str "out")]),qh]):=by kernel_rfl
theorem kU:(evK Rs Γ C 39).s L9 (nth z0 1) [some ua,qa,qb,some ub,some uc,qc,qd,qe] κ=bind (a9 .IsNot ub .non) λx1=>bind (asB x1) λz2=>if z2=true then (bind (ixD ub (.int 1)) λx3=>bind (h7 x3) λz4=>if z4=true then (bind (ixD ub (.int 0)) λx5=>bind (P1 x5 (.int 1)) λx6=>bind (ixD ub (.int 0)) λx7=>bind (C 12 [uc,x7]) λx8=>bind (ixD ub (.int 1)) λx9=>bind (h7 x9) λz10=>if (!z10)=true then (bind (p8 x8) λx11=>bind (ixD ub (.int 0)) λx12=>bind (a9 .Eq x11 x12) λx13=>bind (asB x13) λz14=>if z14=true then (bind (C 10 [ua,(.int 3)]) λx15=>bind (a9 .Gt x15 (.int 0)) λx16=>bind (asB x16) λz17=>if z17=true then (κ (.nx [some ua,qa,qb,some ub,some uc,qc,some (.tup [(.str "holds"),x8]),some x8])) else (κ (.nx [some ua,qa,qb,some ub,some uc,qc,some (.tup [(.str "put"),x6]),some x8]))) else (κ (.nx [some ua,qa,qb,some ub,some uc,qc,some (.tup [(.str "put"),x6]),some x8]))) else (κ (.nx [some ua,qa,qb,some ub,some uc,qc,some (.tup [(.str "put"),x6]),some x8]))) else (bind (ixD ub (.int 0)) λx18=>bind (ixD ub (.int 0)) λx19=>bind (C 12 [uc,x19]) λx20=>bind (ixD ub (.int 1)) λx21=>bind (h7 x21) λz22=>if (!z22)=true then (bind (p8 x20) λx23=>bind (ixD ub (.int 0)) λx24=>bind (a9 .Eq x23 x24) λx25=>bind (asB x25) λz26=>if z26=true then (bind (C 10 [ua,(.int 3)]) λx27=>bind (a9 .Gt x27 (.int 0)) λx28=>bind (asB x28) λz29=>if z29=true then (κ (.nx [some ua,qa,qb,some ub,some uc,qc,some (.tup [(.str "holds"),x20]),some x20])) else (κ (.nx [some ua,qa,qb,some ub,some uc,qc,some (.tup [(.str "look"),x18]),some x20]))) else (κ (.nx [some ua,qa,qb,some ub,some uc,qc,some (.tup [(.str "look"),x18]),some x20]))) else (κ (.nx [some ua,qa,qb,some ub,some uc,qc,some (.tup [(.str "look"),x18]),some x20])))) else (κ (.nx [some ua,qa,qb,some ub,some uc,qc,qd,qe])):=by kernel_rfl
theorem mR:(evK Rs Γ C 39).s L9 (nth z0 2) [qa,qb,qc,qd,qe,some ua,some ub,qf] κ=bind (lstOf ua) λ_=>bind (C9 ua [ub]) λx1=>κ (.nx [qa,qb,qc,qd,qe,some ua,some ub,qf]):=by kernel_rfl
def T8:Lc:=G6 Ef
theorem AE:runK Rs Γ C Ef [ua,ub]=j6 (evK Rs Γ C 40) T8 Ef.body [some ua,some ub,none,none,none,none,none,none,none] endD:=by kernel_rfl
theorem xp:Ef.body=[nth Ef.body 0,nth Ef.body 1,nth Ef.body 2,nth Ef.body 3]:=by kernel_rfl
theorem DI:(evK Rs Γ C 40).s T8 (nth Ef.body 0) [qa,qb,qc,qd,qe,qf,qg,qh,qi] κ=bind (newL []) λx1=>κ (.nx [qa,qb,some x1,qd,qe,qf,qg,qh,qi]):=by kernel_rfl
theorem DT:(evK Rs Γ C 40).s T8 (nth Ef.body 1) [qa,qb,qc,qd,qe,qf,qg,qh,qi] κ=bind (newL []) λx1=>κ (.nx [qa,qb,qc,some x1,qe,qf,qg,qh,qi]):=by kernel_rfl
def m4:List Stmt:=j8 (nth Ef.body 2)
def jW (C:Cf):L3.Env->M Fl:=λρ'=>j6 (evK Rs Γ C 39) T8 m4 ρ' ret
theorem Do:(evK Rs Γ C 40).s T8 (nth Ef.body 2) [qa,some ua,qb,qc,qd,qe,qf,qg,qh] κ=bind (j4 [ua]) λsm1=>bind (h8 sm1.1 (λd ρ=>some (ρ.set 4 (some d))) (jW C) sm1.2 0 [qa,some ua,qb,qc,qd,qe,qf,qg,qh]) κ:=by kernel_rfl
theorem DM:(evK Rs Γ C 40).s T8 (nth Ef.body 3) [qa,qb,some ua,some ub,qc,qd,qe,qf,qg] κ=bind (u6 ua) λx1=>bind (u6 ub) λx2=>κ (.rt (.tup [x1,x2])):=by kernel_rfl
theorem gV:m4=[nth m4 0,nth m4 1,nth m4 2,nth m4 3,nth m4 4,nth m4 5,nth m4 6]:=by kernel_rfl
theorem pw:(evK Rs Γ C 39).s T8 (nth m4 0) [some ua,some ub,qa,qb,qc,qd,qe,qf,qg] κ=bind (C 10 [ua,ub]) λx1=>bind (i7 (.int 1) x1) λx2=>κ (.nx [some ua,some ub,qa,qb,qc,some x2,qe,qf,qg]):=by kernel_rfl
theorem oS:(evK Rs Γ C 39).s T8 (nth m4 1) [some ua,qa,qb,qc,qd,qe,qf,qg,qh] κ=bind (C 10 [ua,(.int 5)]) λx1=>κ (.nx [some ua,qa,qb,qc,qd,qe,some x1,qg,qh]):=by kernel_rfl
theorem mo:(evK Rs Γ C 39).s T8 (nth m4 2) [some ua,some ub,qa,qb,some uc,qc,qd,qe,qf] κ=bind (nx (bind (j4 [ub]) λsm2=>f9 sm2.1 (λd1=>bind (a9 .Eq d1 uc) λx3=>bind (asB x3) λz4=>if z4=true then (ret true) else (bind (C 10 [ua,(.int 2)]) λx5=>bind (a9 .Eq x5 (.int 0)) λx6=>bind (asB x6) λz7=>ret z7)) (λd1=>ret d1) sm2.2 0 [])) λl8=>bind (u6 (.lst l8)) λx9=>κ (.nx [some ua,some ub,qa,qb,some uc,qc,qd,some x9,qf]):=by kernel_rfl
theorem rN:(evK Rs Γ C 39).s T8 (nth m4 3) [qa,qb,qc,qd,qe,some ua,some ub,some uc,qf] κ=bind (P1 ua (.int 1)) λx1=>bind (ixD (.lst [(.tup [(.str "out")]),(.tup [(.str "look"),ua]),(.tup [(.str "put"),x1]),(.tup [(.str "holds"),uc]),(.tup [(.str "look"),ua])]) ub) λx2=>κ (.nx [qa,qb,qc,qd,qe,some ua,some ub,some uc,some x2]):=by kernel_rfl
theorem qS:(evK Rs Γ C 39).s T8 (nth m4 4) [qa,qb,qc,qd,qe,some ua,some ub,qf,qg] κ=bind (a9 .Eq ub (.int 2)) λx1=>bind (asB x1) λz2=>if z2=true then (bind (a9 .Eq ua (.int 1)) λx3=>bind (asB x3) λz4=>if z4=true then (κ (.nx [qa,qb,qc,qd,qe,some ua,some ub,qf,some (.tup [(.str "look"),(.int 1)])])) else (κ (.nx [qa,qb,qc,qd,qe,some ua,some ub,qf,qg]))) else (κ (.nx [qa,qb,qc,qd,qe,some ua,some ub,qf,qg])):=by kernel_rfl
theorem ni:(evK Rs Γ C 39).s T8 (nth m4 5) [qa,qb,qc,some ua,qd,qe,qf,qg,some ub] κ=bind (lstOf ua) λ_=>bind (C9 ua [ub]) λx1=>κ (.nx [qa,qb,qc,some ua,qd,qe,qf,qg,some ub]):=by kernel_rfl
theorem qZ:(evK Rs Γ C 39).s T8 (nth m4 6) [qa,qb,some ua,qc,qd,some ub,some uc,some ud,qe] κ=bind (lstOf ua) λ_=>bind (p8 ud) λx1=>bind (ixD (.lst [.non,ub,ub,x1,ub]) uc) λx2=>bind (C9 ua [x2]) λx3=>κ (.nx [qa,qb,some ua,qc,qd,some ub,some uc,some ud,qe]):=by kernel_rfl
theorem tW:runK Rs Γ C wP [ua,ub,uc]=bind (J2 "int" (λ_=>false) ua) λx1=>bind (h7 x1) λc2=>if c2=true then (bind (J2 "bool" (λ_=>false) ua) λx3=>bind (h7 x3) λc4=>bind (h7 (.bl (!c4))) λc5=>if c5=true then (bind (a9 .LtE ub ua) λx6=>bind (asB x6) λz7=>if z7=true then (bind (a9 .LtE ua uc) λx8=>ret x8) else (ret (.bl false))) else (ret (.bl (!c4)))) else (ret x1):=by kernel_rfl
theorem xJ:runK Rs Γ C CU [ua,ub,uc]=bind (J2 "tuple" (λ_=>false) ua) λx1=>bind (h7 x1) λz2=>if (!z2)=true then (ret (.bl false)) else (bind (p8 ua) λx3=>bind (a9 .NotIn x3 (.tup [(.int 1),(.int 2)])) λx4=>bind (asB x4) λz5=>if z5=true then (ret (.bl false)) else (bind (ixD ua (.int 0)) λx6=>bind (J2 "str" (λ_=>false) x6) λx7=>bind (h7 x7) λz8=>if (!z8)=true then (ret (.bl false)) else (bind (p8 ua) λx9=>bind (a9 .Eq x9 (.int 1)) λx10=>bind (asB x10) λz11=>if z11=true then (bind (a9 .Eq ua (.tup [(.str "out")])) λx12=>ret x12) else (bind (ixD ua (.int 0)) λx13=>bind (a9 .Eq x13 (.str "out")) λx14=>bind (asB x14) λz15=>if z15=true then (bind (a9 .Eq ua (.tup [(.str "out")])) λx16=>ret x16) else (bind (ixD ua (.int 0)) λx17=>bind (a9 .In x17 (.tup [(.str "look"),(.str "put")])) λx18=>bind (asB x18) λz19=>if z19=true then (bind (ixD ua (.int 1)) λx20=>bind (ixD ua (.int 0)) λx21=>bind (a9 .Eq x21 (.str "put")) λx22=>bind (lK x22) λx23=>bind (P1 ub x23) λx24=>bind (C 19 [x20,(.int 1),x24]) λx25=>ret x25) else (bind (ixD ua (.int 0)) λx26=>bind (a9 .NotEq x26 (.str "holds")) λx27=>bind (asB x27) λz28=>if z28=true then (ret (.bl false)) else (bind (ixD ua (.int 1)) λx29=>bind (J2 "tuple" (λ_=>false) x29) λx30=>bind (h7 x30) λz31=>if (!z31)=true then (ret (.bl false)) else (bind (nx (bind (ixD ua (.int 1)) λx33=>bind (O1 x33) λsm34=>f9 sm34.1 (λd32=>ret true) (λd32=>bind (P1 ub (.int 1)) λx35=>bind (C 19 [d32,(.int 0),x35]) λx36=>ret x36) sm34.2 0 [])) λl37=>bind (a9 .In (.bl false) (.lst l37)) λx38=>bind (asB x38) λz39=>if z39=true then (ret (.bl false)) else (bind (ixD ua (.int 1)) λx40=>bind (a9 .In uc x40) λx41=>bind (h7 x41) λc42=>if c42=true then (bind (ixD ua (.int 1)) λx43=>bind (I0 x43) λx44=>bind (ixD ua (.int 1)) λx45=>bind (fZ x45) λx46=>bind (a9 .Eq x44 x46) λx47=>ret x47) else (ret x41)))))))))):=by kernel_rfl
theorem sw:runK Rs Γ C wg [ua,ub]=bind (J2 "tuple" (λ_=>false) ub) λx1=>bind (h7 x1) λz2=>if (!z2)=true then (ret (.bl false)) else (bind (p8 ub) λx3=>bind (a9 .NotEq x3 (.int 2)) λx4=>bind (asB x4) λz5=>if z5=true then (ret (.bl false)) else (bind (nx (bind (O1 ub) λsm7=>f9 sm7.1 (λd6=>ret true) (λd6=>bind (J2 "tuple" (λ_=>false) d6) λx8=>ret x8) sm7.2 0 [])) λl9=>bind (a9 .In (.bl false) (.lst l9)) λx10=>bind (asB x10) λz11=>if z11=true then (ret (.bl false)) else (bind (nx (bind (O1 ub) λsm13=>f9 sm13.1 (λd12=>ret true) (λd12=>bind (p8 d12) λx14=>ret x14) sm13.2 0 [])) λl15=>bind (a9 .NotEq (.lst l15) (.lst [ua,ua])) λx16=>bind (asB x16) λz17=>if z17=true then (ret (.bl false)) else (bind (nx (bind (ixD ub (.int 0)) λx19=>bind (O1 x19) λsm20=>f9 sm20.1 (λd18=>ret true) (λd18=>bind (a9 .Is d18 .non) λx21=>bind (h7 x21) λc22=>if c22=true then (ret x21) else (bind (C 19 [d18,(.int 1),ua]) λx23=>ret x23)) sm20.2 0 [])) λl24=>bind (a9 .In (.bl false) (.lst l24)) λx25=>bind (asB x25) λz26=>if z26=true then (ret (.bl false)) else (bind (nx (bind (j4 [ua]) λsm28=>f9 sm28.1 (λd27=>ret true) (λd27=>bind (ixD ub (.int 1)) λx29=>bind (ixD x29 d27) λx30=>bind (C 20 [x30,ua,d27]) λx31=>ret x31) sm28.2 0 [])) λl32=>bind (a9 .NotIn (.bl false) (.lst l32)) λx33=>ret x33))))):=by kernel_rfl
theorem sd:runK Rs Γ C wm [ua]=bind (ixD ua (.int 0)) λx1=>bind (a9 .In x1 (.tup [(.str "look"),(.str "put")])) λx2=>bind (asB x2) λz3=>if z3=true then (bind (ixD ua (.int 1)) λx4=>bind (ixD ua (.int 0)) λx5=>bind (a9 .Eq x5 (.str "put")) λx6=>bind (lK x6) λx7=>bind (i7 x4 x7) λx8=>ret x8) else (bind (ixD ua (.int 0)) λx9=>bind (a9 .Eq x9 (.str "out")) λx10=>bind (asB x10) λz11=>if z11=true then (ret .non) else (bind (ixD ua (.int 1)) λx12=>bind (p8 x12) λx13=>ret x13)):=by kernel_rfl
def B9:Lc:=G6 Cl
theorem ir:runK Rs Γ C Cl [ua,ub]=j6 (evK Rs Γ C 40) B9 Cl.body [some ua,some ub,none,none,none,none,none] endD:=by kernel_rfl
theorem kC:Cl.body=[nth Cl.body 0,nth Cl.body 1,nth Cl.body 2,nth Cl.body 3,nth Cl.body 4,nth Cl.body 5]:=by kernel_rfl
theorem wu:(evK Rs Γ C 40).s B9 (nth Cl.body 0) [some ua,some ub,qa,qb,qc,qd,qe] κ=bind (C 21 [ua,ub]) λx1=>bind (h7 x1) λz2=>if (!z2)=true then (κ (.rt (.tup [(.str "stand"),(.str "shape"),(.int 0)]))) else (κ (.nx [some ua,some ub,qa,qb,qc,qd,qe])):=by kernel_rfl
theorem BP:(evK Rs Γ C 40).s B9 (nth Cl.body 1) [qa,some ua,qb,qc,qd,qe,qf] κ=bind (Y6 (u8 [2,3]) ua [qa,some ua,qb,qc,qd,qe,qf]) κ:=by kernel_rfl
def Z6:List Stmt:=j8 (nth Cl.body 2)
def bY (C:Cf):L3.Env->M Fl:=λρ'=>j6 (evK Rs Γ C 39) B9 Z6 ρ' ret
theorem BZ:(evK Rs Γ C 40).s B9 (nth Cl.body 2) [some ua,qa,qb,qc,qd,qe,qf] κ=bind (j4 [ua]) λsm1=>bind (h8 sm1.1 (λd ρ=>some (ρ.set 4 (some d))) (bY C) sm1.2 0 [some ua,qa,qb,qc,qd,qe,qf]) κ:=by kernel_rfl
def M1:List Stmt:=j8 (nth Cl.body 3)
def bO (C:Cf):L3.Env->M Fl:=λρ'=>j6 (evK Rs Γ C 39) B9 M1 ρ' ret
theorem BO:(evK Rs Γ C 40).s B9 (nth Cl.body 3) [some ua,qa,qb,qc,qd,qe,qf] κ=bind (i7 ua (.int 1)) λx1=>bind (j4 [(.int 1),x1]) λsm2=>bind (h8 sm2.1 (λd ρ=>some (ρ.set 5 (some d))) (bO C) sm2.2 0 [some ua,qa,qb,qc,qd,qe,qf]) κ:=by kernel_rfl
def aG:List Stmt:=j8 (nth Cl.body 4)
def bM (C:Cf):L3.Env->M Fl:=λρ'=>j6 (evK Rs Γ C 39) B9 aG ρ' ret
theorem AS:(evK Rs Γ C 40).s B9 (nth Cl.body 4) [some ua,qa,qb,qc,qd,qe,qf] κ=bind (j4 [ua]) λsm1=>bind (h8 sm1.1 (λd ρ=>some (ρ.set 4 (some d))) (bM C) sm1.2 0 [some ua,qa,qb,qc,qd,qe,qf]) κ:=by kernel_rfl
theorem Bk:(evK Rs Γ C 40).s B9 (nth Cl.body 5) [qa,qb,qc,qd,qe,qf,qg] κ=κ (.rt (.str "let by")):=by kernel_rfl
theorem eM:Z6=[nth Z6 0]:=by kernel_rfl
theorem mU:(evK Rs Γ C 39).s B9 (nth Z6 0) [qa,qb,some ua,some ub,some uc,qc,qd] κ=bind (ixD ua uc) λx1=>bind (ixD ub uc) λx2=>bind (C 22 [x2]) λx3=>bind (a9 .NotEq x1 x3) λx4=>bind (asB x4) λz5=>if z5=true then (κ (.rt (.tup [(.str "stand"),(.str "box"),uc]))) else (κ (.nx [qa,qb,some ua,some ub,some uc,qc,qd])):=by kernel_rfl
theorem fh:M1=[nth M1 0,nth M1 1]:=by kernel_rfl
theorem kt:(evK Rs Γ C 39).s B9 (nth M1 0) [some ua,qa,some ub,some uc,qb,some ud,qc] κ=bind (C 12 [ub,ud]) λx1=>bind (nx (bind (j4 [ua]) λsm3=>f9 sm3.1 (λd2=>bind (ixD uc d2) λx4=>bind (a9 .Eq x4 (.tup [(.str "put"),ud])) λx5=>bind (asB x5) λz6=>ret z6) (λd2=>ret d2) sm3.2 0 [])) λl7=>bind (u6 (.lst l7)) λx8=>bind (i7 x1 x8) λx9=>κ (.nx [some ua,qa,some ub,some uc,qb,some ud,some x9]):=by kernel_rfl
theorem lN:(evK Rs Γ C 39).s B9 (nth M1 1) [qa,qb,qc,qd,qe,some ua,some ub] κ=bind (G5 ub) λx1=>bind (a9 .Gt x1 ua) λx2=>bind (asB x2) λz3=>if z3=true then (κ (.rt (.tup [(.str "stand"),(.str "many"),ua]))) else (κ (.nx [qa,qb,qc,qd,qe,some ua,some ub])):=by kernel_rfl
theorem fJ:aG=[nth aG 0]:=by kernel_rfl
theorem km:(evK Rs Γ C 39).s B9 (nth aG 0) [qa,qb,some ua,some ub,some uc,qc,qd] κ=bind (ixD ub uc) λx1=>bind (ixD x1 (.int 0)) λx2=>bind (a9 .Eq x2 (.str "holds")) λx3=>bind (asB x3) λz4=>if z4=true then (bind (ixD ub uc) λx5=>bind (ixD x5 (.int 1)) λx6=>bind (ixD ub uc) λx7=>bind (ixD x7 (.int 1)) λx8=>bind (p8 x8) λx9=>bind (C 12 [ua,x9]) λx10=>bind (a9 .NotEq x6 x10) λx11=>bind (asB x11) λz12=>if z12=true then (κ (.rt (.tup [(.str "stand"),(.str "view"),uc]))) else (κ (.nx [qa,qb,some ua,some ub,some uc,qc,qd]))) else (κ (.nx [qa,qb,some ua,some ub,some uc,qc,qd])):=by kernel_rfl
def Q6:Lc:=G6 Eh
theorem sX:runK Rs Γ C Eh [ua,ub]=j6 (evK Rs Γ C 40) Q6 Eh.body [some ua,some ub,none,none] endD:=by kernel_rfl
theorem tF:Eh.body=[nth Eh.body 0,nth Eh.body 1,nth Eh.body 2]:=by kernel_rfl
theorem An:(evK Rs Γ C 40).s Q6 (nth Eh.body 0) [qa,qb,qc,qd] κ=κ (.nx [qa,qb,some (.tup [(.str "odd")]),qd]):=by kernel_rfl
def qA (C:Cf):L3.Env->M Fl:=bX (eIK (evK Rs Γ C 39) Γ C Q6) Q6 (nth (tq (nth Eh.body 1)) 0)
theorem bU:qA C [some ua,some ub,qa,qb]=bind (bind (C 5 [ua,ub]) λx1=>mE (λ_=>nx (ret (.str "let by"))) (λ_=>nx (ret (.tup [(.str "odd")]))) [some ua,some ub,qa,qb] x1 (.bl true)) λx2=>ret (.nx [some ua,some ub,some x2,qb]):=by kernel_rfl
def R3:List Stmt:=vO (nth Eh.body 1)
def xO (C:Cf):L3.Env->M Fl:=λρ'=>j6 (evK Rs Γ C 39) (J7 Q6) R3 ρ' ret
theorem CN:(evK Rs Γ C 40).s Q6 (nth Eh.body 1) [qa,qb,qc,qd] κ=bind (aX (qA C) (λc=>Γ.sub c 0) (some 3) (xO C) [qa,qb,qc,qd]) κ:=by kernel_rfl
theorem wQ:(evK Rs Γ C 40).s Q6 (nth Eh.body 2) [qa,qb,some ua,qc] κ=κ (.rt ua):=by kernel_rfl
theorem eU:R3=[nth R3 0]:=by kernel_rfl
theorem lE:(evK Rs Γ C 39).s (J7 Q6) (nth R3 0) [qa,qb,qc,some ua] κ=bind (nx (C 13 [ua])) λx1=>κ (.nx [qa,qb,some x1,some ua]):=by kernel_rfl
def y8:Lc:=G6 BT
theorem vR:runK Rs Γ C BT [ua,ub]=j6 (evK Rs Γ C 40) y8 BT.body [some ua,some ub,none,none,none,none,none,none,none,none,none,none,none,none] endD:=by kernel_rfl
theorem tL:BT.body=[nth BT.body 0,nth BT.body 1,nth BT.body 2,nth BT.body 3,nth BT.body 4,nth BT.body 5,nth BT.body 6,nth BT.body 7,nth BT.body 8,nth BT.body 9,nth BT.body 10,nth BT.body 11,nth BT.body 12,nth BT.body 13]:=by kernel_rfl
theorem CP:(evK Rs Γ C 40).s y8 (nth BT.body 0) [qa,some ua,qb,qc,qd,qe,qf,qg,qh,qi,qj,qk,ql,qm] κ=bind (Y6 (u8 [2,3]) ua [qa,some ua,qb,qc,qd,qe,qf,qg,qh,qi,qj,qk,ql,qm]) κ:=by kernel_rfl
theorem CL:(evK Rs Γ C 40).s y8 (nth BT.body 1) [qa,qb,some ua,qc,qd,qe,qf,qg,qh,qi,qj,qk,ql,qm] κ=bind (p8 ua) λx1=>κ (.nx [qa,qb,some ua,qc,some x1,qe,qf,qg,qh,qi,qj,qk,ql,qm]):=by kernel_rfl
theorem Cp:(evK Rs Γ C 40).s y8 (nth BT.body 2) [some ua,qa,qb,qc,some ub,qd,qe,qf,qg,qh,qi,qj,qk,ql] κ=bind (C 10 [ua,ub]) λx1=>κ (.nx [some ua,qa,qb,qc,some ub,some x1,qe,qf,qg,qh,qi,qj,qk,ql]):=by kernel_rfl
theorem Ci:(evK Rs Γ C 40).s y8 (nth BT.body 3) [some ua,qa,qb,qc,some ub,qd,qe,qf,qg,qh,qi,qj,qk,ql] κ=bind (C 18 [ua,ub]) λx1=>κ (.nx [some ua,qa,qb,qc,some ub,qd,some x1,qf,qg,qh,qi,qj,qk,ql]):=by kernel_rfl
theorem Bx:(evK Rs Γ C 40).s y8 (nth BT.body 4) [some ua,qa,qb,qc,qd,qe,qf,qg,qh,qi,qj,qk,ql,qm] κ=bind (C 10 [ua,(.int 6)]) λx1=>κ (.nx [some ua,qa,qb,qc,qd,qe,qf,some x1,qh,qi,qj,qk,ql,qm]):=by kernel_rfl
theorem Cc:(evK Rs Γ C 40).s y8 (nth BT.body 5) [some ua,qa,some ub,some uc,some ud,some ue,qb,some uf,qc,qd,qe,qf,qg,qh] κ=bind (a9 .Eq uf (.int 0)) λx1=>bind (asB x1) λz2=>if z2=true then (bind (C 10 [ua,ud]) λx3=>bind (i7 (.int 1) x3) λx4=>bind (C 10 [ua,(.int 2)]) λx5=>bind (ixD (.lst [.non,x4]) x5) λx6=>bind (C 11 [ub,ue,x6]) λx7=>κ (.rt (.tup [x7,uc]))) else (κ (.nx [some ua,qa,some ub,some uc,some ud,some ue,qb,some uf,qc,qd,qe,qf,qg,qh])):=by kernel_rfl
theorem CB:(evK Rs Γ C 40).s y8 (nth BT.body 6) [qa,qb,some ua,some ub,qc,some uc,some ud,some ue,qd,qe,qf,qg,qh,qi] κ=bind (a9 .Eq ue (.int 1)) λx1=>bind (asB x1) λz2=>if z2=true then (bind (ixD ud (.int 1)) λx3=>bind (ixD x3 uc) λx4=>bind (C 11 [ub,uc,x4]) λx5=>κ (.rt (.tup [ua,x5]))) else (κ (.nx [qa,qb,some ua,some ub,qc,some uc,some ud,some ue,qd,qe,qf,qg,qh,qi])):=by kernel_rfl
theorem CA:(evK Rs Γ C 40).s y8 (nth BT.body 7) [qa,qb,some ua,some ub,qc,some uc,some ud,some ue,qd,qe,qf,qg,qh,qi] κ=bind (a9 .Eq ue (.int 2)) λx1=>bind (asB x1) λz2=>if z2=true then (bind (ixD ud (.int 0)) λx3=>bind (ixD x3 uc) λx4=>bind (C 11 [ua,uc,x4]) λx5=>bind (ixD ud (.int 1)) λx6=>bind (ixD x6 uc) λx7=>bind (C 11 [ub,uc,x7]) λx8=>κ (.rt (.tup [x5,x8]))) else (κ (.nx [qa,qb,some ua,some ub,qc,some uc,some ud,some ue,qd,qe,qf,qg,qh,qi])):=by kernel_rfl
theorem Ab:(evK Rs Γ C 40).s y8 (nth BT.body 8) [some ua,qa,some ub,some uc,some ud,qb,qc,some ue,qd,qe,qf,qg,qh,qi] κ=bind (a9 .Eq ue (.int 3)) λx1=>bind (asB x1) λz2=>if z2=true then (bind (C 10 [ua,ud]) λx3=>bind (i7 (.int 1) x3) λx4=>bind (nx (bind (j4 [ud]) λsm6=>f9 sm6.1 (λd5=>bind (C 10 [ua,(.int 2)]) λx7=>bind (a9 .Eq x7 (.int 0)) λx8=>bind (asB x8) λz9=>ret z9) (λd5=>ret d5) sm6.2 0 [])) λl10=>bind (nx (bind (j4 [ud]) λsm12=>f9 sm12.1 (λd11=>ret true) (λd11=>bind (a9 .In d11 (.lst l10)) λx13=>bind (asB x13) λz14=>if z14=true then (ret x4) else (bind (ixD ub d11) λx15=>ret x15)) sm12.2 0 [])) λl16=>bind (u6 (.lst l16)) λx17=>bind (nx (bind (j4 [ud]) λsm19=>f9 sm19.1 (λd18=>ret true) (λd18=>bind (a9 .In d18 (.lst l10)) λx20=>bind (asB x20) λz21=>if z21=true then (ret (.tup [(.str "look"),x4])) else (bind (ixD uc d18) λx22=>ret x22)) sm19.2 0 [])) λl23=>bind (u6 (.lst l23)) λx24=>κ (.rt (.tup [x17,x24]))) else (κ (.nx [some ua,qa,some ub,some uc,some ud,qb,qc,some ue,qd,qe,qf,qg,qh,qi])):=by kernel_rfl
theorem Bz:(evK Rs Γ C 40).s y8 (nth BT.body 9) [qa,qb,some ua,qc,qd,some ub,qe,qf,qg,qh,qi,qj,qk,ql] κ=bind (ixD ua ub) λx1=>bind (a9 .IsNot x1 .non) λx2=>bind (asB x2) λz3=>if z3=true then (bind (ixD ua ub) λx4=>κ (.nx [qa,qb,some ua,qc,qd,some ub,qe,qf,qg,qh,some x4,qj,qk,ql])) else (κ (.nx [qa,qb,some ua,qc,qd,some ub,qe,qf,qg,qh,some (.int 1),qj,qk,ql])):=by kernel_rfl
theorem zf:(evK Rs Γ C 40).s y8 (nth BT.body 10) [some ua,qa,qb,qc,some ub,qd,qe,qf,qg,qh,qi,qj,qk,ql] κ=bind (C 10 [ua,ub]) λx1=>κ (.nx [some ua,qa,qb,qc,some ub,qd,qe,qf,qg,qh,qi,some x1,qk,ql]):=by kernel_rfl
theorem zD:(evK Rs Γ C 40).s y8 (nth BT.body 11) [qa,qb,qc,qd,some ua,some ub,qe,qf,qg,qh,qi,some uc,qj,qk] κ=bind (nx (bind (j4 [ua]) λsm2=>f9 sm2.1 (λd1=>bind (i7 d1 uc) λx3=>bind (G3 x3 ua) λx4=>bind (a9 .NotEq x4 ub) λx5=>bind (asB x5) λz6=>ret z6) (λd1=>bind (i7 d1 uc) λx7=>bind (G3 x7 ua) λx8=>ret x8) sm2.2 0 [])) λl9=>κ (.nx [qa,qb,qc,qd,some ua,some ub,qe,qf,qg,qh,qi,some uc,some (.lst l9),qk]):=by kernel_rfl
theorem yX:(evK Rs Γ C 40).s y8 (nth BT.body 12) [qa,qb,qc,qd,qe,some ua,qf,qg,qh,qi,some ub,qj,some uc,qk] κ=bind (P1 ub (.int 1)) λx1=>bind (br x1) λn2=>bind (slD uc none n2) λx3=>bind (i7 (.lst [ua]) x3) λx4=>bind (M6 x4) λx5=>bind (u6 x5) λx6=>κ (.nx [qa,qb,qc,qd,qe,some ua,qf,qg,qh,qi,some ub,qj,some uc,some x6]):=by kernel_rfl
theorem yJ:(evK Rs Γ C 40).s y8 (nth BT.body 13) [qa,qb,some ua,some ub,qc,some uc,qd,qe,qf,qg,qh,qi,qj,some ud] κ=bind (p8 ud) λx1=>bind (C 11 [ua,uc,x1]) λx2=>bind (C 11 [ub,uc,(.tup [(.str "holds"),ud])]) λx3=>κ (.rt (.tup [x2,x3])):=by kernel_rfl
theorem AA:runK Rs Γ C BH [ua,ub]=bind (bV ub) λx1=>bind (C 24 [ua,ub]) λx2=>bind (C 23 [ua,ub]) λx3=>bind (a9 .Eq x2 x3) λx4=>bind (h7 x4) λc5=>if c5=true then (bind (bV ub) λx6=>bind (a9 .Eq x6 x1) λx7=>ret x7) else (ret x4):=by kernel_rfl
def m8:Lc:=G6 law_F
theorem uM:runK Rs Γ C law_F [ua]=j6 (evK Rs Γ C 40) m8 law_F.body [some ua,none,none,none,none,none,none,none,none] endD:=by kernel_rfl
theorem vE:law_F.body=[nth law_F.body 0,nth law_F.body 1]:=by kernel_rfl
def e9:List Stmt:=j8 (nth law_F.body 0)
def fu (C:Cf):L3.Env->M Fl:=λρ'=>j6 (evK Rs Γ C 39) m8 e9 ρ' ret
theorem CW:(evK Rs Γ C 40).s m8 (nth law_F.body 0) [qa,qb,qc,qd,qe,qf,qg,qh,qi] κ=bind (j4 [(.int 5)]) λsm1=>bind (h8 sm1.1 (λd ρ=>some (ρ.set 1 (some d))) (fu C) sm1.2 0 [qa,qb,qc,qd,qe,qf,qg,qh,qi]) κ:=by kernel_rfl
theorem Cs:(evK Rs Γ C 40).s m8 (nth law_F.body 1) [qa,qb,qc,qd,qe,qf,qg,qh,qi] κ=κ (.rt (.bl true)):=by kernel_rfl
theorem ed:e9=[nth e9 0,nth e9 1,nth e9 2,nth e9 3,nth e9 4,nth e9 5,nth e9 6,nth e9 7,nth e9 8]:=by kernel_rfl
theorem kr:(evK Rs Γ C 39).s m8 (nth e9 0) [some ua,some ub,qa,qb,qc,qd,qe,qf,qg] κ=bind (C 9 [ua,ub]) λx1=>κ (.nx [some ua,some ub,some x1,qb,qc,qd,qe,qf,qg]):=by kernel_rfl
theorem lY:(evK Rs Γ C 39).s m8 (nth e9 1) [qa,qb,some ua,qc,qd,qe,qf,qg,qh] κ=bind (C 10 [ua,(.int 6)]) λx1=>bind (ixD (.lst [(.int 6),(.int 5),(.int 4),(.int 3),(.int 2),(.int 1)]) x1) λx2=>κ (.nx [qa,qb,some ua,some x2,qd,qe,qf,qg,qh]):=by kernel_rfl
theorem kW:(evK Rs Γ C 39).s m8 (nth e9 2) [qa,qb,some ua,some ub,qc,qd,qe,qf,qg] κ=bind (C 17 [ua,ub]) λx1=>κ (.nx [qa,qb,some ua,some ub,some x1,qd,qe,qf,qg]):=by kernel_rfl
theorem lf:(evK Rs Γ C 39).s m8 (nth e9 3) [qa,qb,qc,some ua,some ub,qd,qe,qf,qg] κ=bind (C 24 [ua,ub]) λx1=>bind (a9 .NotEq x1 (.str "let by")) λx2=>bind (asB x2) λz3=>if z3=true then (κ (.rt (.bl false))) else (κ (.nx [qa,qb,qc,some ua,some ub,qd,qe,qf,qg])):=by kernel_rfl
theorem mP:(evK Rs Γ C 39).s m8 (nth e9 4) [qa,qb,some ua,some ub,some uc,qc,qd,qe,qf] κ=bind (C 18 [ua,ub]) λx1=>bind (C 18 [ua,ub]) λx2=>bind (fZ uc) λx3=>bind (ixD uc (.int 0)) λx4=>bind (i7 uc (.tup [(.tup [])])) λx5=>bind (newL [uc,x1,x2,x3,x4,x5]) λx6=>κ (.nx [qa,qb,some ua,some ub,some uc,some x6,qd,qe,qf]):=by kernel_rfl
def j0:List Stmt:=j8 (nth e9 5)
def G1 (C:Cf):L3.Env->M Fl:=λρ'=>j6 (evK Rs Γ C 38) m8 j0 ρ' ret
theorem kT:(evK Rs Γ C 39).s m8 (nth e9 5) [qa,qb,qc,qd,qe,qf,qg,qh,qi] κ=bind (j4 [(.int 8)]) λsm1=>bind (h8 sm1.1 (λd ρ=>some (ρ.set 6 (some d))) (G1 C) sm1.2 0 [qa,qb,qc,qd,qe,qf,qg,qh,qi]) κ:=by kernel_rfl
def t9:List Stmt:=j8 (nth e9 6)
def F7 (C:Cf):L3.Env->M Fl:=λρ'=>j6 (evK Rs Γ C 38) m8 t9 ρ' ret
theorem kn:(evK Rs Γ C 39).s m8 (nth e9 6) [qa,qb,qc,qd,qe,qf,qg,qh,qi] κ=bind (j4 [(.int 8)]) λsm1=>bind (h8 sm1.1 (λd ρ=>some (ρ.set 6 (some d))) (F7 C) sm1.2 0 [qa,qb,qc,qd,qe,qf,qg,qh,qi]) κ:=by kernel_rfl
def B2:List Stmt:=j8 (nth e9 7)
def G4 (C:Cf):L3.Env->M Fl:=λρ'=>j6 (evK Rs Γ C 38) m8 B2 ρ' ret
theorem mS:(evK Rs Γ C 39).s m8 (nth e9 7) [qa,qb,qc,qd,qe,some ua,qf,qg,qh] κ=bind (i7 ua (.lst [.non,(.bl true),(.tup []),(.str "levels"),(.int 0)])) λx1=>bind (O1 x1) λsm2=>bind (h8 sm2.1 (λd ρ=>some (ρ.set 7 (some d))) (G4 C) sm2.2 0 [qa,qb,qc,qd,qe,some ua,qf,qg,qh]) κ:=by kernel_rfl
theorem lJ:(evK Rs Γ C 39).s m8 (nth e9 8) [qa,qb,qc,some ua,some ub,qd,qe,qf,qg] κ=bind (G3 ua (.int 6)) λx1=>bind (i7 x1 (.int 1)) λx2=>bind (C 26 [x2,ub]) λx3=>bind (h7 x3) λz4=>if (!z4)=true then (κ (.rt (.bl false))) else (bind (i7 ua (.int 4)) λx5=>bind (G3 x5 (.int 6)) λx6=>bind (i7 x6 (.int 1)) λx7=>bind (C 26 [x7,ub]) λx8=>bind (h7 x8) λz9=>if (!z9)=true then (κ (.rt (.bl false))) else (κ (.nx [qa,qb,qc,some ua,some ub,qd,qe,qf,qg]))):=by kernel_rfl
theorem Y9:j0=[nth j0 0,nth j0 1,nth j0 2]:=by kernel_rfl
theorem cH:(evK Rs Γ C 38).s m8 (nth j0 0) [qa,qb,some ua,qc,some ub,qd,qe,qf,qg] κ=bind (C 25 [ua,ub]) λx1=>κ (.nx [qa,qb,some ua,qc,some ub,qd,qe,some x1,qg]):=by kernel_rfl
def t6:List Stmt:=j8 (nth j0 1)
def E2 (C:Cf):L3.Env->M Fl:=λρ'=>j6 (evK Rs Γ C 37) m8 t6 ρ' ret
theorem bn:(evK Rs Γ C 38).s m8 (nth j0 1) [qa,qb,some ua,qc,qd,qe,qf,qg,qh] κ=bind (C 10 [ua,(.int 4)]) λx1=>bind (ixD (.lst [(.int 0),(.int 0),(.int 1),(.int 2)]) x1) λx2=>bind (j4 [x2]) λsm3=>bind (h8 sm3.1 (λd ρ=>some (ρ.set 8 (some d))) (E2 C) sm3.2 0 [qa,qb,some ua,qc,qd,qe,qf,qg,qh]) κ:=by kernel_rfl
theorem bu:(evK Rs Γ C 38).s m8 (nth j0 2) [qa,qb,qc,qd,qe,some ua,qf,some ub,qg] κ=bind (lstOf ua) λ_=>bind (C9 ua [ub]) λx1=>κ (.nx [qa,qb,qc,qd,qe,some ua,qf,some ub,qg]):=by kernel_rfl
theorem Z1:t9=[nth t9 0,nth t9 1]:=by kernel_rfl
theorem cA:(evK Rs Γ C 38).s m8 (nth t9 0) [qa,qb,some ua,qc,some ub,qd,qe,qf,qg] κ=bind (C 15 [ua,ub]) λx1=>κ (.nx [qa,qb,some ua,qc,some ub,qd,qe,some x1,qg]):=by kernel_rfl
theorem bz:(evK Rs Γ C 38).s m8 (nth t9 1) [qa,qb,some ua,qc,qd,some ub,qe,some uc,qf] κ=bind (lstOf ub) λ_=>bind (C 10 [ua,(.int 3)]) λx1=>bind (a9 .Eq x1 (.int 0)) λx2=>bind (asB x2) λz3=>if z3=true then (bind (C 15 [ua,uc]) λx4=>bind (C9 ub [x4]) λx5=>κ (.nx [qa,qb,some ua,qc,qd,some ub,qe,some uc,qf])) else (bind (C9 ub [uc]) λx6=>κ (.nx [qa,qb,some ua,qc,qd,some ub,qe,some uc,qf])):=by kernel_rfl
theorem Y7:B2=[nth B2 0]:=by kernel_rfl
theorem bv:(evK Rs Γ C 38).s m8 (nth B2 0) [qa,qb,qc,some ua,qd,qe,qf,some ub,qg] κ=bind (C 26 [ua,ub]) λx1=>bind (h7 x1) λz2=>if (!z2)=true then (κ (.rt (.bl false))) else (κ (.nx [qa,qb,qc,some ua,qd,qe,qf,some ub,qg])):=by kernel_rfl
theorem N8:t6=[nth t6 0]:=by kernel_rfl
theorem Q7:(evK Rs Γ C 37).s m8 (nth t6 0) [qa,qb,some ua,qc,qd,qe,qf,some ub,qg] κ=bind (C 25 [ua,ub]) λx1=>κ (.nx [qa,qb,some ua,qc,qd,qe,qf,some x1,qg]):=by kernel_rfl
end
theorem i6 {p N m:Nat} {S:Sto} (h:Fw ns p (N+1) S) (b:0<m) (a:m<1073741824) (k:Nat):Ok (rn (k+1) G2 [.ref p,.int (m:Int)]) S λd S'=>∃ r:Nat,d=.int (r:Int)/\r<m/\Fw ns p N S'/\S'.length=S.length/\∀ q,q≠p->S'[q]?=S[q]?:=by
 rw [rn,b9 rfl,vA];exact nO h b a
def Kp (p:Nat) (S S':Sto):Prop:=S'.length=S.length/\∀ q,q≠p->S'[q]?=S[q]?
theorem Kp.tr (a:Kp p S T) (b:Kp p T U):Kp p S U:=⟨b.1.trans a.1,λq h=>(b.2 q h).trans (a.2 q h)⟩
theorem aA {S:Sto} {ds:List D} (h:Fw ns p (N+1) S) (f:0<m) (l:ds.length=m) (b:m<1000000) (k:Nat):Ok (bind (rn (k+1) G2 [.ref p,.int (m:Int)]) λi=>bind (ixD (.lst ds) i) ret) S λd S'=>d∈ds/\Fw ns p N S'/\Kp p S S':=by
 refine Ok.bind ((i6 h f (by omega) k).mono ?_);rintro _ S1 ⟨r,rfl,j,g,e,c⟩;have a:r<ds.length:=by omega
 exact Ok.eq (lM S1 (Em a)) (Ok.ret ⟨FK a,g,e,c⟩)
section
variable (C:Cf) (p:D) (ds:List D)
def odds:List D:=[.non,.bl true,.bl false,.int 0,.int 1,.int 2,.int (-1),.int 7,.int 1000000000000000000000000000000000000000,.str "",.str "out",.str "look",.str "holds",.tup [],.lst [],.tup [.int 0],.tup [.str "out"],.tup [.str "rests"]]
theorem uP:runK Rs Γ C mi [p]=bind (C G2 [p,.int 18]) λi=>bind (ixD (.lst odds) i) ret:=by kernel_rfl
def bIn:M D:=bind (C G2 [p,.int ds.length]) λa=>bind (br a) λu=>bind (slD (.tup ds) none u) λh=>bind (ixD (.tup ds) a) λy=>bind (C hX [p,y]) λd=>bind (i7 h (.tup [d])) λb=>bind (i7 a (.int 1)) λc=>bind (br c) λl=>bind (slD (.tup ds) l none) λr=>bind (i7 b r) ret
def me:M D:=bind (i7 (.tup ds) (.tup (v5 ds (some (-1)) none))) λm2=>bind (C M2 [p]) λo=>bind (C G2 [p,.int 8]) λi=>bind (ixD (.lst [.lst ds,.tup (v5 ds (some 1) none),.tup (v5 ds none (some (-1))),m2,.tup ds.reverse,.tup [],.tup [.tup ds],o]) i) ret
theorem pM:runK Rs Γ C K7 [p,.tup ds]=bind (a9 .NotEq (.tup ds) (.tup [])) λe=>bind (asB e) λz=>if z=true then (bind (C G2 [p,.int 5]) λq=>bind (a9 .Gt q (.int 0)) λe=>bind (asB e) λz=>if z=true then bIn C p ds else me C p ds) else me C p ds:=by kernel_rfl
theorem vM (z:Bool):runK Rs Γ C K7 [p,.bl z]=bind (C M2 [p]) ret:=by kernel_rfl
theorem oR:runK Rs Γ C K7 [p,.non]=bind (C M2 [p]) ret:=by kernel_rfl
theorem nc:runK Rs Γ C K7 [p,.lst ds]=bind (C M2 [p]) ret:=by kernel_rfl
theorem rR (i:Int):runK Rs Γ C K7 [p,.int i]=bind (tf (.int i)) λs=>bind (C M2 [p]) λo=>bind (C G2 [p,.int 8]) λn=>bind (ixD (.lst [.int (i+1),.int (i-1),.bl (decide (i=1)),.bl (decide (i=0)),.non,s,.int (-i),o]) n) ret:=by kernel_rfl
def words:List D:=[.str "out",.str "ask",.str "close",.str "look",.str "holds",.str "put",.str "rests",.str "tries",.str "right",.str "down"]
theorem rK (x:Str):runK Rs Γ C K7 [p,.str x]=bind (i7 (.str x) (.str "x")) λa=>bind (i7 (.lst (words++[a,.str ""])) (.lst [.lst [],.lst [.str x]])) λl=>bind (C G2 [p,.int 14]) λn=>bind (ixD l n) ret:=by kernel_rfl
end
theorem nC:odds.all (smB 1 100)=true:=by decide +kernel
theorem av (h:Fw ns p (N+1) S) (k:Nat):Ok (rn (k+2) M2 [.ref p]) S λd S'=>(Pln 0 d/\dp d<=1/\sz d<=100)/\Fw ns p N S'/\Kp p S S':=by
 rw [rn,b9 rfl,uP];refine (aA (m:=18) h (by omega) rfl (by omega) k).mono ?_;rintro d S' ⟨hd,f,g⟩;exact ⟨y3 (Fi.mp nC d hd),f,g⟩
structure Bt (j:Nat) (d d':D):Prop where
 pl:Pln (j+1) d'
 dp:dp d'<=dp d+1
 sz:sz d'<=2 * sz d+500
theorem Bt.odd {d o:D} (h:Pln 0 o/\L3.dp o<=1/\L3.sz o<=100):Bt j d o:=⟨h.1.ups,by omega,by omega⟩
theorem kS {S:Sto} {ds:List D} (h:Fw ns p (N+2) S) (pl:Plns j ds) (hz:szs ds<=1000000) (k:Nat):Ok (me (rn (k+2)) (.ref p) ds) S λd' S'=>Bt j (.tup ds) d'/\Fw ns p N S'/\Kp p S S':=by
 have r:=aH ds;have b:=Plns.up ds pl;have c:=eD ds (some (-1)) none;have f:=eD ds (some 1) none;have e:=eD ds none (some (-1));have t:=dY c;have x:=dY f;have y:=dY e;have v:=c.length_le;refine Ok.eq (cat_tup (by rw [Fp];omega)) (Ok.bind ((av h k).mono ?_));rintro o S1 ⟨s,i,g⟩;refine (aA (m:=8) i (by omega) rfl (by omega) (k+1)).mono ?_;rintro d' S2 ⟨hd,n,l⟩;refine ⟨?_,n,g.tr l⟩;have u:dp (.tup ds)=dps ds+1:=rfl;have w:sz (.tup ds)=szs ds+3:=rfl;simp at hd;rcases hd with rfl | rfl | rfl | rfl | rfl | rfl | rfl | rfl
 ·exact ⟨b,by show dps ds+1<=_;omega,by show szs ds+3<=_;omega⟩
 ·exact ⟨b.sub λd hd=>f.subset hd,by have:=aE λd hd=>f.subset hd;show dps _+1<=_;omega,by show szs _+3<=_;omega⟩
 ·exact ⟨b.sub λd hd=>e.subset hd,by have:=aE λd hd=>e.subset hd;show dps _+1<=_;omega,by show szs _+3<=_;omega⟩
 ·have a:∀ d∈ds++v5 ds (some (-1)) none,d∈ds:=λd hd=>by
   rcases Fo.mp hd with q | q
   ·exact q
   ·exact c.subset q
  exact ⟨b.sub a,by have:=aE a;show dps _+1<=_;omega,by show szs _+3<=_;rw [M0];omega⟩
 ·have a:∀ d∈ds.reverse,d∈ds:=λd hd=>List.mem_reverse.mp hd;exact ⟨b.sub a,by have:=aE a;show dps _+1<=_;omega,by show szs _+3<=_;rw [jX];omega⟩
 ·exact ⟨trivial,by show 0+1<=_;omega,by show 0+3<=_;omega⟩
 ·exact ⟨⟨b,trivial⟩,by show max (dps ds+1) 0+1<=_;omega,by show szs ds+3+2+0+3<=_;omega⟩
 ·exact Bt.odd s
def wF (ns:List Int) (p k:Nat):Prop:=∀ (d:D) (j N:Nat) (S:Sto),Pln j d->dp d<=k->dp d<=3+j->j<=40->sz d<=1000000->Fw ns p (N+4 * (k+1)) S->Ok (rn (k+3) hX [.ref p,d]) S λd' S'=>Bt j d d'/\Fw ns p N S'/\Kp p S S'
theorem cp {ns:List Int} {p:Nat} (k:Nat) (ih:∀ k',k=k'+1->wF ns p k'):∀ (d:D) (j N:Nat) (S:Sto),Pln j d->dp d<=k->dp d<=3+j->j<=40->sz d<=1000000->Fw ns p (N+4 * (k+1)) S->Ok (rn (k+3) hX [.ref p,d]) S λd' S'=>Bt j d d'/\Fw ns p N S'/\Kp p S S'
 | .non,j,N,S,pl,hd,hdj,hj,hz,h=>by
  rw [rn,b9 (fd:=K7) rfl,oR];refine Ok.bind ((av (N:=N) (h.less (by omega)) k).mono ?_);rintro o S1 ⟨ho,f1,g1⟩;exact Ok.ret ⟨Bt.odd ho,f1,g1⟩
 | .lst ds,j,N,S,pl,hd,hdj,hj,hz,h=>by
  rw [rn,b9 (fd:=K7) rfl,nc];refine Ok.bind ((av (N:=N) (h.less (by omega)) k).mono ?_);rintro o S1 ⟨ho,f1,g1⟩;exact Ok.ret ⟨Bt.odd ho,f1,g1⟩
 | .bl b,j,N,S,pl,hd,hdj,hj,hz,h=>by
  rw [rn,b9 (fd:=K7) rfl,vM];refine Ok.bind ((av (N:=N) (h.less (by omega)) k).mono ?_);rintro o S1 ⟨ho,f1,g1⟩;exact Ok.ret ⟨Bt.odd ho,f1,g1⟩
 | .int i,j,N,S,pl,hd,hdj,hj,hz,h=>by
  rw [rn,b9 (fd:=K7) rfl,rR];have pl:i.natAbs<=C7 j:=pl;have lg:=FG (je pl (by omega));have Z0:sz (.int i)=60:=rfl;have hl:(Str.ofString (toString i)).length<=41:=by
   have e:=int_text_length_le10 (k:=40) (a:=i) (by decide) (by unfold C7 at pl;omega);rw [PySem.ofString_length];omega
  refine Ok.eq (show tf (.int i) S=.ok (.str (Str.ofString (toString i))) S by
   show (if i.natAbs.log2<1920 then ret (D.str (toString i)) else bad) S=_;rw [if_pos lg];rfl) (Ok.bind ((av (N:=N+1) (h.less (by omega)) k).mono ?_))
  rintro o S1 ⟨ho,f1,g1⟩;refine (aA (m:=8) f1 (by omega) rfl (by omega) (k+1)).mono ?_;rintro d' S2 ⟨hd,f2,g2⟩;refine ⟨?_,f2,g1.tr g2⟩;simp only [Ez,Ge,Ia] at hd;rcases hd with rfl | rfl | rfl | rfl | rfl | rfl | rfl | rfl
  ·exact ⟨by show (i+1).natAbs<=C7 (j+1);unfold C7 at *;omega,FJ _,by show 60<=_;omega⟩
  ·exact ⟨by show (i-1).natAbs<=C7 (j+1);unfold C7 at *;omega,FJ _,by show 60<=_;omega⟩
  ·exact ⟨trivial,FJ _,by show 5<=_;omega⟩
  ·exact ⟨trivial,FJ _,by show 5<=_;omega⟩
  ·exact Bt.odd ⟨trivial,FJ _,by decide⟩
  ·exact ⟨⟨by omega,uC i⟩,FJ _,by show 10 * _+2<=_;omega⟩
  ·exact ⟨by show (-i).natAbs<=C7 (j+1);unfold C7 at *;omega,FJ _,by show 60<=_;omega⟩
  ·exact Bt.odd ho
 | .str x,j,N,S,pl,hd,hdj,hj,hz,h=>by
  rw [rn,b9 rfl,rK];have pl:=pl;obtain ⟨p1,p2⟩:=pl;have Z0:sz (.str x)=10 * x.length+2:=rfl;have lx:("x" : Str).length=1:=by decide +kernel
  have ax:Asc ("x" : Str):=by unfold Asc;decide +kernel
  refine Ok.eq (show i7 (.str x) (.str "x") S=.ok (.str (x ++ "x")) S by
   show (if x.length+("x" : Str).length<=sizeLine then ret (D.str (x ++ "x")) else bad) S=_;rw [if_pos (by rw [lx,Fp];omega)];rfl) (Ok.eq (show i7 (.lst (words++[.str (x ++ "x"),.str ""])) (.lst [.lst [],.lst [.str x]]) S=.ok (.lst (words++[.str (x ++ "x"),.str "",.lst [],.lst [.str x]])) S by kernel_rfl) ?_)
  refine (aA (m:=14) (N:=N) (h.less (by omega)) (by omega) rfl (by omega) (k+1)).mono ?_;rintro d' S2 ⟨hd,f2,g2⟩;refine ⟨?_,f2,g2⟩;rcases Fo.mp hd with q | q
  ·exact Bt.odd (y3 (Fi.mp (show words.all (smB 1 100)=true by decide +kernel) d' q))
  ·simp at q;rcases q with rfl | rfl | rfl | rfl
   ·exact ⟨⟨by rw [jQ,lx];omega,sW p2 ax⟩,FJ _,by show 10 * _+2<=_;rw [jQ,lx];omega⟩
   ·exact Bt.odd (y3 (by decide +kernel))
   ·exact Bt.odd (y3 (by decide +kernel))
   ·exact ⟨⟨⟨by omega,p2⟩,trivial⟩,by show max 0 0+1<=_;omega,by show 10 * x.length+2+2+0+3<=_;omega⟩
 | .tup ds,j,N,S,pl,hd,hdj,hj,hz,h=>by
  have pl:=pl;have hd:=hd;have hdj:=hdj;have hz:=hz;have len:=aH ds;have D0:dp (.tup ds)=dps ds+1:=rfl;have Z0:sz (.tup ds)=szs ds+3:=rfl;rw [rn,b9 rfl,pM];refine Ok.eq (iW ⟨pl,hdj,hz⟩ hj S) (Ok.eq (c9 _ S) ?_);by_cases he:ds=[]
  ·subst he;rw [if_neg (by simp)];exact kS (h.less (by omega)) pl (by omega) k
  ·have hp:=List.length_pos_iff.mpr he;rw [if_pos (by simp [he])];refine Ok.bind ((i6 (m:=5) (N:=N+4 * k+3) (h.less (by omega)) (by omega) (by omega) (k+1)).mono ?_);rintro _ S1 ⟨q,rfl,hq,f1,l1,k1⟩;have g1:Kp p S S1:=⟨l1,k1⟩;refine Ok.eq (show a9 .Gt (.int (q:Int)) (.int 0) S1=.ok (.bl (decide ((0:Int)<(q:Int)))) S1 from rfl) (Ok.eq (c9 _ S1) ?_);by_cases hz2:(0:Int)<(q:Int)
   ·rw [Fa hz2,if_pos rfl];refine Ok.bind ((i6 (N:=N+4 * k) (f1.less (by omega)) hp (by omega) (k+1)).mono ?_);rintro _ S2 ⟨r,rfl,hr,f2,l2,k2⟩;have g2:Kp p S1 S2:=⟨l2,k2⟩;have er:=Em hr;refine Ok.eq (rfl) (Ok.eq (show slD (.tup ds) none (some (r:Int)) S2=.ok (.tup (ds.take r)) S2 by
     show R.ok (D.tup (v5 ds none (some (r:Int)))) S2=_;rw [eR (by omega)]) (Ok.eq (j9 S2 er) ?_))
    obtain ⟨k',rfl⟩:∃ k',k=k'+1:=⟨k-1,by omega⟩;have hm:=R9 (FK hr);have za:=pr er;refine Ok.bind ((ih k' rfl ds[r] j N S2 (pl.mem _ (FK hr)) (by omega) (by omega) hj (by omega) (f2.less (by omega))).mono ?_);rintro y S3 ⟨hy,f3,g3⟩;refine Ok.eq (cat_tup (by rw [GD,Fp];simp;omega)) (Ok.eq (bH _ _ S3) (Ok.eq (rfl) (Ok.eq (show slD (.tup ds) (some ((r:Int)+1)) none S3=.ok (.tup (ds.drop (r+1))) S3 by
     show R.ok (D.tup (v5 ds (some ((r:Int)+1)) none)) S3=_;rw [show (r:Int)+1=((r+1:Nat):Int) by omega,fN (by omega)]) (Ok.eq (cat_tup (by rw [FN,GD,Hq,Fp];simp;omega)) (Ok.ret ⟨?_,f3,g1.tr (g2.tr g3)⟩)))))
    have mem:∀ d∈ds.take r++[y]++ds.drop (r+1),d∈ds\/d=y:=λd hd=>by
     rcases Fo.mp hd with q | q
     ·grind
     ·grind
    refine ⟨Plns.of λd hd=>?_,?_,?_⟩
    ·rcases mem d hd with q | rfl
     ·exact (pl.mem d q).up
     ·exact hy.pl
    ·have:dps (ds.take r++[y]++ds.drop (r+1))<=dps ds+1:=al λd hd=>by
      rcases mem d hd with q | rfl
      ·have:=R9 q;omega
      ·have:=hy.dp;omega
     show dps _+1<=_;omega
    ·have:=hy.sz;show szs _+3<=_;rw [M0,M0];show szs _+(sz y+2+0)+szs _+3<=_;omega
   ·rw [Fv hz2,if_neg Er];exact (kS (f1.less (by omega)) pl (by omega) k).mono λd' S' h=>⟨h.1,h.2.1,g1.tr h.2.2⟩
 | .scr _,_,_,_,pl,_,_,_,_,_=>pl.elim
 | .ref _,_,_,_,pl,_,_,_,_,_=>pl.elim
theorem du {ns:List Int} {p:Nat}:∀ k:Nat,wF ns p k
 | 0=>cp 0 λ_ h=>nomatch h
 | k+1=>cp (k+1) λ_ h=>by cases h;exact du k
end L3.K22
namespace L3.Lev
open PySem PySem.Spec PyProof.Rows L2
theorem fk (hb:upB bx m i=b):(List.range (i+1)).filter (upB bx m)=(List.range i).filter (upB bx m)++(if b=true then [i] else []):=by
 rw [Iz,HK];grind
theorem vV {bx:List (Option Nat)} {i:Nat} {o:Option Nat} (h:bx[i]?=some o) (S:Sto):A3 (bx.map bxD) i S=some (some (.tup [.int (i:Int),bxD o])):=by
 have e:(bx.map bxD)[i]?=some (bxD o):=i4 h;simp only [A3,e]
theorem oU (bx:List (Option Nat)) (S:Sto):A3 (bx.map bxD) bx.length S=some none:=by
 have e:(bx.map bxD)[bx.length]?=none:=FO (by simp);simp only [A3,e,En,JI]
theorem pW {m i:Nat} {o:Option Nat} (h:bx[i]?=some o) (S:Sto):(bind (a9 .IsNot (bxD o) .non) λc=>bind (asB c) λd=>if d=true then (bind (a9 .LtE (bxD o) (.int (m:Int))) λe=>bind (asB e) λa=>ret a) else (ret false)) S=.ok (upB bx m i) S:=by
 cases o with
 | none=>
  have:upB bx m i=false:=by unfold upB;rw [h]
  rw [this];rfl
 | some b=>
  have:upB bx m i=decide ((b:Int)<=(m:Int)):=by
   unfold upB;rw [h];by_cases q:b<=m
   ·grind
   ·grind
  rw [this];rfl
theorem jp {m i:Nat} {S:Sto} {f:M D} (d:bx.length<=1000) (c:i<bx.length) (b:f S=.ok (nD i) S):if upB bx m i=true then Ok f S λy S2=>(((List.range i).filter (upB bx m)).map nD).length<sizeLine/\S2=S/\((List.range i).filter (upB bx m)).map nD++[y]=((List.range (i+1)).filter (upB bx m)).map nD else (S=S/\((List.range i).filter (upB bx m)).map nD=((List.range (i+1)).filter (upB bx m)).map nD):=by
 cases a:upB bx m i with
 | true=>
  rw [if_pos rfl];refine ⟨_,_,b,?_,rfl,?_⟩
  ·rw [En,Fp];have:=Gr (upB bx m) (List.range i);rw [Fu] at this;omega
  ·rw [fk a,if_pos rfl,Gd];rfl
 | false=>
  rw [if_neg Er];exact ⟨rfl,by rw [fk a];simp⟩
theorem nJ (h:bx.length<=6):(ups bx l).length<=6/\∀ x∈ups bx l,x<bx.length:=by
 refine ⟨FD (Gr _ _) (by rw [Fu];exact h),λx a=>?_⟩;exact Fq.mp (Go.mp a).1
theorem cj (f:ns.Nodup):V8 ns=ns.length:=by
 have d:∀ i,i<=ns.length->(firstMet (λi=>ns.getD i 0) i).length=i:=by
  intro i;induction i with
  | zero=>intro _;rfl
  | succ i g=>
   intro k;have e:(firstMet (λi=>ns.getD i 0) i).any (·==ns.getD i 0)=false:=by
    rw [firstMet_any,Ja];intro x c;obtain ⟨j,b,rfl⟩:=FX.mp c;have b:=Fq.mp b;have a:ns[j]?=some (ns.getD j 0):=by rw [Fc,Em (by omega)];rfl
    have h:ns[i]?=some (ns.getD i 0):=by rw [Fc,Em (by omega)];rfl
    intro z;have z:ns.getD j 0=ns.getD i 0:=by simpa using z
    rw [z,<- h] at a;have:=(List.getElem?_inj (by omega) f).mp a;omega
   rw [firstMet_succ];unfold step_dedup;simp only [e];rw [if_neg Er,FN,g (by omega)];rfl
 exact d ns.length (Es _)
theorem rM {ns:List Int} (h:ns.length<4000) (nd:ns.Nodup) (S:Sto):G5 (.lst (ns.map D.int)) S=.ok (.int (ns.length:Int)) S:=by
 show bind (B1 (.lst (ns.map D.int))) _ S=_;rw [a7 (show B1 (.lst (ns.map D.int)) S=.ok (ns.map D.int) S from rfl),dU];show (if ns.length<4000 then ret (D.int (V8 ns:Nat)) else bad) S=_;rw [if_pos h,cj nd];rfl
theorem BQ {v l:List Nat} (f:v.Nodup) (h:∀ x∈v,x∈l):v.length<=l.length:=by
 induction v generalizing l with
 | nil=>exact FJ _
 | cons a v g=>
  have d:=h a (Fe ..);have b:=GK.mp f;have e:=HF d;have:=g (l:=l.erase a) b.2 λx c=>(Ir (λz=>b.1 (by rw [<- z];exact c))).mpr (h x (Fg _ c));have:=Ha d;rw [GE];omega
abbrev Rw:=Option (Nat×Bool)
def rwD:Rw->D
 | none=>.non
 | some (l,b)=>.tup [.int (l:Int),.bl b]
def RwOk (m:Nat) (rs:List Rw):Prop:=∀ l b,some (l,b)∈rs->1<=l/\l<=m/\(b=true->2<=l)
theorem RwOk.snoc (h:RwOk m rs) {r:Rw} (c:∀ l b,r=some (l,b)->1<=l/\l<=m/\(b=true->2<=l)):RwOk m (rs++[r]):=λl b a=>by
 rcases Fo.mp a with z | z
 ·exact h l b z
 ·grind
theorem RwOk.put (h:RwOk m rs) {r:Rw} {i:Nat} (c:∀ l b,r=some (l,b)->1<=l/\l<=m/\(b=true->2<=l)):RwOk m (rs.set i r):=λl b a=>by
 rcases Hx a with z | z
 ·exact h l b z
 ·exact c l b z.symm
def rat (rs:List Rw) (i:Nat):Rw:=rs.getD i none
def Z2 (l:Nat):Rw->Bool
 | none=>false
 | some (e,b)=>decide (e-b.toNat<=l)
def nR (rs:List Rw) (l:Nat):Nat:=(List.range rs.length).countP λj=>Z2 l (rat rs j)
theorem aO (e:rs[i]?=some r):rat rs i=r:=by unfold rat;rw [Fc,e];rfl
theorem jx {i:Nat} (hi:i<rs.length) (r:Rw) (j:Nat):rat (rs.set i r) j=if j=i then r else rat rs j:=by
 unfold rat;grind
theorem xD {x L l:Nat} (a:x<rs.length) (h:l<=L):nR (rs.set x (some (L+1,false))) l<=nR rs l:=by
 unfold nR;rw [List.length_set];refine List.countP_mono_left λj _ q=>?_;rw [jx a] at q;by_cases z:j=x
 ·rw [if_pos z] at q;have:L+1-0<=l:=FG q;omega
 ·grind
theorem lQ {v:List Nat} {j x y:Nat} (d:v[j]?=some x) (a:y∈v) (b:y≠x):y∈v.eraseIdx j:=by
 obtain ⟨i,c⟩:=List.getElem?_of_mem a;refine List.mem_eraseIdx_iff_getElem?.mpr ⟨i,λz=>b ?_,c⟩;grind
theorem mM {v:List Nat} {L:Nat} (h:∀ j,j<rs.length->Z2 L (rat rs j)=true->j∈v):nR rs L<=v.length:=by
 unfold nR;rw [Hf];refine BQ (List.nodup_range.filter _) λx hx=>?_;grind
theorem kH {m:Nat} (h0:0<m) (h:m<1000) (S:Sto):j4 [.int 1,.int (m:Int)] S=.ok (D5 1 (m-1),m-1+1) S:=by
 unfold j4;have c:-(2 ^ 62)<=(1:Int)/\(1:Int)<2 ^ 62/\-(2 ^ 62)<=(m:Int)/\(m:Int)<2 ^ 62:=⟨by decide,by decide,Jt (by decide) (show (0:Int)<=m by omega),Int.lt_trans (show (m:Int)<1000 by omega) (by decide)⟩;have e:((m:Int)-1).toNat=m-1:=by omega
 simp only [if_pos c,e];rfl
theorem jo {n i:Nat} (h:i<n) (S:Sto):D5 1 n i S=some (some (.int ((1+i:Nat):Int))):=by
 show some (if i<n then some (D.int (1+(i:Int))) else none)=_;grind
theorem bB (n:Nat) (S:Sto):D5 1 n n S=some none:=by
 show some (if n<n then _ else none)=some none;grind
theorem cy {b c:Type} (f:b->c):∀ (l:List b) (j:Nat),(l.map f).eraseIdx j=(l.eraseIdx j).map f
 | [],_=>rfl
 | _ :: _,0=>rfl
 | a :: l,j+1=>by
  show f a :: (l.map f).eraseIdx j=f a :: (l.eraseIdx j).map f;rw [cy f l j]
end L3.Lev
namespace L3.K22
open PySem PySem.Spec PyProof.Rows L2 L3.Lev
theorem oQ {ns:List Int} {p q N m:Nat} {S0:Sto} (hpq:q≠p) (F:Fw ns p (N+2 * m) S0) (e0:S0[q]?=some (.lst [])) (h0:0<m) (h6:m<=6) (o4 o5 o6 o7:Option D) (k:Nat):Ok (h8 (D5 0 m) (λd ρ=>some (ρ.set 3 (some d))) (di (rn (k+1))) (m+1) 0 [some (.ref p),some (.int (m:Int)),some (.ref q),o4,o5,o6,o7]) S0 λfl S'=>∃ ρ,fl=.nx ρ/\Fw ns p N S'/\∃ (rs:List Rw) (o4 o5 o6:Option D),S'[q]?=some (.lst (rs.map rwD))/\rs.length=m/\RwOk m rs/\ρ=[some (.ref p),some (.int (m:Int)),some (.ref q),o4,o5,o6,o7]:=by
 refine (Ok.loop (n:=m) (λi ρ S'=>Fw ns p (N+2 * (m-i)) S'/\∃ (rs:List Rw) (o4 o5 o6:Option D),S'[q]?=some (.lst (rs.map rwD))/\rs.length=i/\RwOk m rs/\ρ=[some (.ref p),some (.int (m:Int)),some (.ref q),o4,o5,o6,o7]) (λρ S' _=>t0 m S') ?_ ⟨F,[],_,_,_,e0,rfl,(λl b z=>by cases z),rfl⟩).mono ?_
 ·rintro i ρ S hi ⟨F,rs,o4,o5,o6,er,hl,ok,rfl⟩;refine ⟨.int (i:Int),_,y4 hi S,rfl,?_⟩;unfold di;rw [iY];refine Ok.first<|Ok.cg (nG ..)<|Ok.bind ((i6 (N:=N+2 * (m-(i+1))+1) (F.less (by omega)) h0 (by omega) k).mono ?_);rintro _ S1 ⟨l,rfl,hl1,F1,_,k1⟩;refine Ok.eq (m7 1 l S1)<|Ok.nxt<|Ok.cg (pC ..)<|Ok.bind ((i6 (N:=N+2 * (m-(i+1))) (m:=4) (F1.less (by omega)) (by omega) (by omega) k).mono ?_);rintro _ S2 ⟨w,rfl,hw,F2,_,k2⟩;have e2:S2[q]?=some (.lst (rs.map rwD)):=by rw [k2 _ hpq,k1 _ hpq];exact er
  have ql:q<S2.length:=(Eo.mp e2).1;have fin:∀ (r:Rw),(∀ l b,r=some (l,b)->1<=l/\l<=m/\(b=true->2<=l))->Ok (bind (C9 (.ref q) [rwD r]) λx3=>nxt (evK Rs Γ (rn (k+1)) 39) N6 [] ret (.nx [some (.ref p),some (.int (m:Int)),some (.ref q),some (.int (i:Int)),some (.int ((1+l:Nat):Int)),some (.int (w:Int)),o7])) S2 λfl S'=>∃ ρ',(fl=.nx ρ'\/fl=.ct ρ')/\Fw ns p (N+2 * (m-(i+1))) S'/\∃ (rs:List Rw) (o4 o5 o6:Option D),S'[q]?=some (.lst (rs.map rwD))/\rs.length=i+1/\RwOk m rs/\ρ'=[some (.ref p),some (.int (m:Int)),some (.ref q),o4,o5,o6,o7]:=by
   intro r hr;refine Ok.eq (cR e2 (by rw [En,Fp];omega))<|Ok.ret ⟨_,.inl rfl,F2.keep (by rw [Ff hpq]),rs++[r],_,_,_,?_,by simp [hl],ok.snoc hr,rfl⟩;rw [FA ql,Gd];rfl
  refine Ok.nxt<|Ok.cg (nK ..)<|Ok.eq (T5 e2)<|Ok.eq (B5 _ _ _)<|Ok.eq (c9 _ _)<|Ok.ite (λ_=>fin none λl b z=>by cases z) λ_=>Ok.eq (B5 _ _ _)<|Ok.eq (a:=decide ((w:Int)=1)) rfl<|Ok.ite (λ_=>?_) λz=>?_
  ·exact Ok.eq (cb _ _ _) (fin (some (1+l,_)) λl' b z=>by cases z;exact ⟨by omega,by omega,λy=>by have:=FG y;omega⟩)
  ·exact fin (some (1+l,_)) λl' b y=>by cases y;exact ⟨by omega,by omega,λy=>absurd y z⟩
 ·rintro _ S' ⟨ρ,rfl,F',rs,o4,o5,o6,e,hl,ok,rfl⟩;exact ⟨_,rfl,F'.less (by omega),rs,_,_,_,e,hl,ok,rfl⟩
theorem rw_tst {q j L:Nat} {rs:List Rw} {r:Rw} (e:S[q]?=some (.lst (rs.map rwD))) (p:rs[j]?=some r) (i:∀ l b,r=some (l,b)->1<=l):Ok (bind (ixD (.ref q) (.int (j:Int))) λn=>bind (a9 .IsNot n .non) λk=>bind (asB k) λm=>if m=true then (bind (ixD (.ref q) (.int (j:Int))) λx6=>bind (ixD x6 (.int 0)) λx7=>bind (ixD (.ref q) (.int (j:Int))) λx8=>bind (ixD x8 (.int 1)) λo=>bind (lK o) λf=>bind (P1 x7 f) λc=>bind (a9 .LtE c (.int (L:Int))) λh=>bind (asB h) λd=>ret d) else (ret false)) S λb S'=>b=Z2 L r/\S'=S:=by
 have g:=CZ e (i4 p);refine Ok.eq g ?_;cases r with
 | none=>exact Ok.eq rfl<|Ok.eq rfl<|Ok.neg (by decide)<|Ok.ret ⟨rfl,rfl⟩
 | some r=>
  obtain ⟨l,b⟩:=r;have s:=i l b rfl;refine Ok.eq rfl<|Ok.eq rfl<|Ok.pos rfl<|Ok.eq g<|Ok.eq rfl<|Ok.eq g<|Ok.eq rfl<|Ok.eq (a:=.int (if b=true then 1 else 0)) (by cases b <;> rfl)<|Ok.eq rfl<|Ok.eq (ek _ _ _)<|Ok.eq (c9 _ _)<|Ok.ret ⟨?_,rfl⟩;cases b with
  | true=>
   rw [if_pos rfl];show _=decide (l-1<=L);by_cases q:l-1<=L
   ·grind
   ·grind
  | false=>
   rw [if_neg Er];show _=decide (l-0<=L);by_cases q:l-0<=L
   ·grind
   ·grind
theorem pk {ns:List Int} {p q u N m L:Nat} {S0:Sto} {rs:List Rw} {v:List Nat} (hpq:q≠p) (hup:u≠p) (huq:u≠q) (F:Fw ns p (N+v.length) S0) (er:S0[q]?=some (.lst (rs.map rwD))) (eu:S0[u]?=some (.lst (v.map nD))) (hl:rs.length=m) (ok:RwOk m rs) (hv:∀ x∈v,x<m) (hi:∀ j,j<m->Z2 L (rat rs j)=true->j∈v) (hc:∀ l,l<L->nR rs l<=l) (v6:v.length<=6) (hL:L+1<=m) (o4 o6:Option D) (k:Nat) :
  Ok (C8 (W2 (rn (k+1))) (K0 (rn (k+1))) 10000 [some (.ref p),some (.int (m:Int)),some (.ref q),o4,some (.int (L:Int)),o6,some (.ref u)]) S0 λfl S'=>fl=.nx [some (.ref p),some (.int (m:Int)),some (.ref q),o4,some (.int (L:Int)),o6,some (.ref u)]/\Fw ns p N S'/\∃ rs:List Rw,S'[q]?=some (.lst (rs.map rwD))/\rs.length=m/\RwOk m rs/\∀ l,l<=L->nR rs l<=l:=by
 refine (Ok.while_ (λc ρ S=>ρ=[some (.ref p),some (.int (m:Int)),some (.ref q),o4,some (.int (L:Int)),o6,some (.ref u)]/\∃ (rs:List Rw) (v:List Nat),Fw ns p (N+v.length) S/\S[q]?=some (.lst (rs.map rwD))/\S[u]?=some (.lst (v.map nD))/\rs.length=m/\RwOk m rs/\(∀ j,j<m->Z2 L (rat rs j)=true->j∈v)/\(∀ l,l<L->nR rs l<=l)/\(∀ x∈v,x<m)/\v.length=c/\c<=6) (λρ S=>ρ=[some (.ref p),some (.int (m:Int)),some (.ref q),o4,some (.int (L:Int)),o6,some (.ref u)]/\Fw ns p N S/\∃ rs:List Rw,S[q]?=some (.lst (rs.map rwD))/\rs.length=m/\RwOk m rs/\∀ l,l<=L->nR rs l<=l) (λ_ _=>False) ?_ 10000 v.length _ _ (by omega) ⟨rfl,rs,v,F,er,eu,hl,ok,hi,hc,hv,rfl,v6⟩).mono ?_
 ·rintro c ρ S ⟨rfl,rs,v,F,er,eu,hl,ok,hi,hn,hv,hc,c6⟩;have ln:p8 (.ref u) S=.ok (.int (v.length:Int)) S:=(wL eu).trans (by rw [En]);rw [cI];refine Ok.eq ln<|Ok.eq (cb _ _ _)<|Ok.eq (c9 _ _)<|Ok.ret ?_;by_cases g:(L:Int)<(v.length:Int)
  ·rw [if_pos (Fa g)];unfold K0;rw [bD];refine Ok.first<|Ok.cg (dR ..)<|Ok.eq (m7 L 1 S)<|Ok.eq (T5 eu)<|Ok.eq ln<|Ok.bind ((i6 (N:=N+(v.length-1)) (F.less (by omega)) (by omega) (by omega) k).mono ?_);rintro _ S1 ⟨j,rfl,hj,F1,_,k1⟩;have eu1:S1[u]?=some (.lst (v.map nD)):=by rw [k1 _ hup];exact eu
   have er1:S1[q]?=some (.lst (rs.map rwD)):=by rw [k1 _ hpq];exact er
   obtain ⟨x,hx⟩:∃ x,v[j]?=some x:=⟨_,Em hj⟩;have xm:x<m:=hv x (Fk hx);have er2:(S1.set u (.lst ((v.map nD).eraseIdx j)))[q]?=some (.lst (rs.map rwD)):=by rw [Ff huq];exact er1
   have ul:u<S1.length:=(Eo.mp eu1).1;have ql:q<(S1.set u (.lst ((v.map nD).eraseIdx j))).length:=(Eo.mp er2).1;have em:(v.map nD).eraseIdx j=(v.eraseIdx j).map nD:=cy nD v j;have le:(v.eraseIdx j).length=v.length-1:=List.length_eraseIdx_of_lt hj;refine Ok.eq (Be eu1 (i4 hx) (by omega))<|Ok.eq (Bl (i:=x) er2 (by rw [En,hl];exact xm))<|Ok.ret ⟨v.length-1,by omega,rfl,rs.set x (some (L+1,false)),v.eraseIdx j,?_,?_,?_,by simp [hl],ok.put (λl b z=>by cases z;exact ⟨by omega,by omega,λz=>by cases z⟩),?_,λl hl'=>FD (xD (by rw [hl];exact xm) (HQ hl')) (hn l hl'),λy hy=>hv y (List.mem_of_mem_eraseIdx hy),le,by omega⟩
   ·rw [le];exact F1.keep (by rw [Ff hpq,Ff hup])
   ·rw [FA ql,List.map_set];rfl
   ·rw [Ff (Ne.symm huq),FA ul,em]
   ·intro y hy q;rw [jx (by rw [hl];exact xm)] at q;by_cases z:y=x
    ·rw [if_pos z] at q;have:L+1-0<=L:=FG q;omega
    ·rw [if_neg z] at q;exact lQ hx (hi y hy q) z
  ·rw [if_neg (by rw [Fv g];decide)];refine ⟨rfl,F.less (by omega),rs,er,hl,ok,λl hl'=>?_⟩;by_cases z:l=L
   ·rw [z];have:=mM (rs:=rs) (v:=v) (L:=L) (by rw [hl];exact hi);omega
   ·exact hn l (by omega)
 ·rintro fl S' hf;cases fl with
  | nx ρ=>obtain ⟨rfl,h⟩:=hf;exact ⟨rfl,h⟩
  | rt d=>exact hf.elim
  | bk ρ=>exact hf.elim
  | ct ρ=>exact hf.elim
theorem vk {p N m:Nat} {S:Sto} (F:Fw ns p (N+50) S) (O:0<m) (X:m<=6) (k:Nat):Ok (rn (k+2) Ao [.ref p,.int (m:Int)]) S λd S'=>Fw ns p N S'/\∃ (q:Nat) (rs:List Rw),d=.ref q/\q≠p/\S'[q]?=some (.lst (rs.map rwD))/\rs.length=m/\RwOk m rs/\∀ l,nR rs l<=l:=by
 have hp:=F.lt;have c0:∀ rs:List Rw,RwOk m rs->nR rs 0<=0:=λrs a=>by
  refine Nat.le_of_eq (List.countP_eq_zero.mpr λj c q=>?_);have c:=Fq.mp c;obtain ⟨r,f⟩:∃ r,rs[j]?=some r:=⟨_,Em c⟩;rw [aO f] at q;cases r with
  | none=>cases q
  | some r=>
   obtain ⟨l,b⟩:=r;obtain ⟨a1,a2,T⟩:=a l b (Fk f);have q:=FG q;cases b with
   | true=>have:=T rfl;have q:l-1<=0:=q;omega
   | false=>have q:l-0<=0:=q;omega
 rw [rn,b9 rfl,xi,ye];refine Ok.first<|Ok.cg (Ds ..)<|Ok.eq (rfl)<|Ok.nxt<|Ok.cg (EU ..)<|Ok.eq (p6 (by omega) _)<|Ok.bind ((oQ (N:=N+36) (by omega) ((F.push _).less (by omega)) (by simp) O X _ _ _ _ k).mono ?_);rintro _ S1 ⟨ρ,rfl,P,rs,s,t,u,J,g,a,rfl⟩;generalize hq:S.length=q at J ⊢;have n:q≠p:=by omega
 refine Ok.nxt<|Ok.cg (Dn ..)<|Ok.eq (kH O (by omega) _)<|Ok.bind ((Ok.loop (λi ρ S'=>Fw ns p (N+6 * (m-1-i)) S'/\∃ (rs:List Rw) (s t u A:Option D),S'[q]?=some (.lst (rs.map rwD))/\rs.length=m/\RwOk m rs/\(∀ l,l<=i->nR rs l<=l)/\ρ=[some (.ref p),some (.int (m:Int)),some (.ref q),s,t,u,A]) (λρ S' _=>bB _ S') ?_ ⟨P.less (by omega),rs,_,_,_,_,J,g,a,(λl h=>by rw [show l=0 by omega];exact c0 rs a),rfl⟩).mono ?_)
 ·rintro i ρ S2 Y ⟨K,rs,s,t,u,A,y,g,a,H,rfl⟩;refine ⟨.int ((1+i:Nat):Int),_,jo Y S2,rfl,?_⟩;unfold jE;rw [iC];refine Ok.first<|Ok.cg (oA ..)<|nx_bind<|Ok.eq (p6 (by omega) _) ((Ok.comp (λj S' es=>S'=S2/\es=((List.range j).filter λx=>Z2 (1+i) (rat rs x)).map nD) (λS' es _=>t0 m S') ?_ ⟨rfl,rfl⟩).mono ?_)
  ·rintro j S' es c ⟨o,rfl⟩;cases o;obtain ⟨r,f⟩:∃ r,rs[j]?=some r:=⟨_,Em (by omega)⟩;refine ⟨.int (j:Int),y4 c S2,(rw_tst y f λl b z=>(a l b (by rw [<- z];exact Fk f)).1).mono ?_⟩;rintro b M ⟨C,o⟩;cases o;rw [<- aO f] at C;rw [Iz,HK];cases b with
   | true=>
    rw [if_pos rfl];refine Ok.ret ⟨?_,rfl,?_⟩
    ·rw [En,Fp];have:=Gr (λx=>Z2 (1+i) (rat rs x)) (List.range j);rw [Fu] at this;omega
    ·rw [List.filter_cons_of_pos (p:=λx=>Z2 (1+i) (rat rs x)) C.symm,Gd];rfl
   | false=>
    rw [if_neg Er];refine ⟨rfl,?_⟩;rw [HP (by rw [<- C];exact Er)];simp
  rintro _ M ⟨o,rfl⟩;cases o;generalize e:(List.range m).filter (λx=>Z2 (1+i) (rat rs x))=v;have hv:∀ x∈v,x<m:=λx L=>by rw [<- e] at L;exact Fq.mp (Go.mp L).1
  have V:v.length<=m:=by
   rw [<- e];have:=Gr (λx=>Z2 (1+i) (rat rs x)) (List.range m);rwa [Fu] at this
  have I:∀ j,j<m->Z2 (1+i) (rat rs j)=true->j∈v:=λj c q=>by rw [<- e];exact Go.mpr ⟨Fq.mpr c,q⟩
  have W:=(Eo.mp y).1;have pl:=K.lt;have R:newL (v.map nD) S2=.ok (.ref S2.length) (S2++[.lst (v.map nD)]):=by
   unfold newL;rw [if_pos (by rw [En,Fp];omega)]
  refine Ok.eq R<|Ok.nxt<|Ok.cg (oJ ..)<|Ok.bind ((pk (N:=N+6 * (m-1-(i+1))) n (by omega) (by omega) ((K.push _).less (by omega)) (by rw [Et W];exact y) (by simp) g a hv I (λl h=>H l (by omega)) (by omega) (by omega) _ _ k).mono ?_);rintro _ S4 ⟨rfl,F4,w,Q,E,B,G⟩;exact Ok.ret ⟨_,.inl rfl,F4,w,_,_,_,_,Q,E,B,(λl h=>G l (by omega)),rfl⟩
 ·rintro _ M ⟨ρ,rfl,U,rs,s,t,u,A,Z,g,a,H,rfl⟩;refine Ok.nxt<|Ok.cg (Dl ..)<|Ok.ret ⟨U.less (by omega),q,rs,rfl,n,Z,g,a,λl=>?_⟩;by_cases z:l<=m-1
  ·exact H l z
  ·have:nR rs l<=m:=by
    refine FD List.countP_le_length ?_;rw [Fu,g];exact Es _
   omega
end L3.K22
namespace L3.Lev
open PySem PySem.Spec PyProof.Rows L2
def rwB:Rw->Option Nat:=λr=>r.map (·.1)
theorem rw0 (l:Nat) (b:Bool) (S:Sto):ixD (rwD (some (l,b))) (.int 0) S=.ok (.int (l:Int)) S:=by kernel_rfl
theorem rw1 (l:Nat) (b:Bool) (S:Sto):ixD (rwD (some (l,b))) (.int 1) S=.ok (.bl b) S:=by kernel_rfl
def RH (bx:List (Option Nat)):Rw->Hd->Prop
 | none,h=>h=.out
 | some (l,true),h=>h=.put (l-1)
 | some (l,false),h=>h=.look l\/(h=.holds (ups bx l)/\(ups bx l).length=l)
def lvD (hs:List Hd):D:=.tup [.tup ((hs.map boxOf).map bxD),.tup (hs.map Hd.d)]
theorem RH.box (q:RH bx r h) (c:∀ l b,r=some (l,b)->1<=l/\(b=true->2<=l)):boxOf h=rwB r/\∀ l,efB l h=Z2 l r:=by
 cases r with
 | none=>
  have q:=q;subst q;exact ⟨rfl,λl=>rfl⟩
 | some r=>
  obtain ⟨l,b⟩:=r;have o:=c l b rfl;cases b with
  | true=>
   have q:=q;subst q;have:=o.2 rfl;exact ⟨by show some (l-1+1)=some l;rw [show l-1+1=l by omega],λa=>rfl⟩
  | false=>
   rcases (q) with q | ⟨q,e⟩
   ·subst q;exact ⟨rfl,λa=>rfl⟩
   ·subst q;refine ⟨by show some _=some l;rw [e],λa=>?_⟩;show decide ((ups bx l).length<=a)=decide (l-0<=a);rw [e];rfl
theorem Good.of {rs:List Rw} {m:Nat} (k:hs.length=m) (s:rs.length=m) (o:RwOk m rs) (p:∀ l,nR rs l<=l) (h:∀ i,i<m->RH (rs.map rwB) (rat rs i) (hat hs i)):Good hs/\hs.map boxOf=rs.map rwB:=by
 have a:∀ i,i<m->∀ l b,rat rs i=some (l,b)->1<=l/\l<=m/\(b=true->2<=l):=λi d l b e=>by
  obtain ⟨r,g⟩:∃ r,rs[i]?=some r:=⟨_,Em (by omega)⟩;rw [aO g] at e;subst e;exact o l b (Fk g)
 have n:hs.map boxOf=rs.map rwB:=by
  refine List.ext_getElem? λi=>?_;rw [Fz,Fz];by_cases d:i<m
  ·obtain ⟨r,g⟩:∃ r,rs[i]?=some r:=⟨_,Em (by omega)⟩;rw [V0 (by omega),g];have:=(h i d).box λl b e=>⟨(a i d l b e).1,(a i d l b e).2.2⟩;rw [aO g] at this;show some _=some _;rw [this.1]
  ·grind
 refine ⟨⟨λl=>?_,λi v d e=>?_,λi b d e=>?_⟩,n⟩
 ·refine FD (Nat.le_of_eq ?_) (p l);unfold nE nR;rw [k,s];refine List.countP_congr λj f=>?_;have f:=Fq.mp f;rw [((h j f).box λl b e=>⟨(a j f l b e).1,(a j f l b e).2.2⟩).2 l]
 ·have q:=h i (by omega);rw [e] at q;rw [n];cases c:rat rs i with
  | none=>rw [c] at q;cases q
  | some r=>
   obtain ⟨l,b⟩:=r;rw [c] at q;cases b with
   | true=>cases q
   | false=>
    rcases (q) with q | ⟨q,e2⟩
    ·cases q
    ·grind
 ·have q:=((h i (by omega)).box λl b e=>⟨(a i (by omega) l b e).1,(a i (by omega) l b e).2.2⟩).1;rw [e] at q;cases c:rat rs i with
  | none=>rw [c] at q;cases q
  | some r=>
   obtain ⟨l,t⟩:=r;rw [c] at q;cases q;rw [k];exact (a i (by omega) _ _ c).2.1
end L3.Lev
namespace L3.K22
open PySem PySem.Spec PyProof.Rows L2 L3.Lev
theorem jL {m k:Nat} {S:Sto} (c:bx.length<1000):Ok (rn (k+1) rG [.tup (bx.map bxD),.int (m:Int)]) S λd S'=>d=.tup ((ups bx m).map nD)/\S'=S:=by
 rw [rn,b9 rfl,sF];refine nx_bind (Ok.eq (U4 _ S) ?_);rw [En];refine Ok.eq (p6 (by omega) _) ((Ok.comp (λi S' es=>S'=S/\es=((List.range i).filter (upB bx m)).map nD) (λS' es _=>t0 _ S') ?_ ⟨rfl,rfl⟩).mono ?_)
 ·rintro i S' es a ⟨rfl,rfl⟩;have h:=Em a;generalize bx[i]=o at h;refine ⟨.int (i:Int),y4 a S',upB bx m i,S',?_,?_⟩
  ·rw [a7 (j9 S' (i4 h))];have:=pW (m:=m) h S';cases o with
   | none=>exact this
   | some b=>
    rw [<- this];show L3.bind (ixD (.tup (bx.map bxD)) (.int (i:Int))) _ S'=_;rw [a7 (j9 S' (i4 h))];rfl
  ·exact jp (by omega) a rfl
 ·rintro es S' ⟨rfl,rfl⟩;exact Ok.eq rfl (Ok.ret ⟨rfl,rfl⟩)
theorem zc {ns:List Int} {p N m:Nat} {S:Sto} (F:Fw ns p (N+60) S) (h0:0<m) (h6:m<=6) (k:Nat):Ok (rn (k+3) zx [.ref p,.int (m:Int)]) S λd S'=>Fw ns p N S'/\∃ hs:List Hd,d=lvD hs/\hs.length=m/\Good hs:=by
 rw [rn,b9 (fd:=Ed) rfl,sn,uN];refine Ok.first<|Ok.cg (Cw ..)<|Ok.bind ((vk (N:=N+6) (F.less (by omega)) h0 h6 k).mono ?_);rintro _ S1 ⟨F1,q,rs,rfl,hpq,er,hl,ok,cn⟩;have sr:∀ {S:Sto},S[q]?=some (.lst (rs.map rwD))->O1 (.ref q) S=.ok (eH q,rs.length+1) S:=λ{S} e=>by
  simp only [O1,e,En]
 have ql:q<S1.length:=(Eo.mp er).1;refine Ok.nxt<|Ok.cg (Bw ..)<|nx_bind<|Ok.eq (sr er) ((Ok.comp (n:=rs.length) (λj S' es=>S'=S1/\es=((rs.take j).map rwB).map bxD) (λS' es h=>by rw [h.1];show eH q rs.length S1=_;rw [kO er,FO (by rw [En];omega)]) ?_ ⟨rfl,rfl⟩).mono ?_)
 ·rintro j S' es hj ⟨hS,rfl⟩;cases hS;obtain ⟨r,hr⟩:∃ r,rs[j]?=some r:=⟨_,Em hj⟩;have ta:rs.take (j+1)=rs.take j++[r]:=by rw [GP hj,(Eo.mp hr).2]
  refine ⟨rwD r,by show eH q j S1=_;rw [kO er,i4 hr],Ok.ret ?_⟩;rw [if_pos rfl];have fin:∀ d:D,d=bxD (rwB r)->(((rs.take j).map rwB).map bxD).length<sizeLine/\S1=S1/\((rs.take j).map rwB).map bxD++[d]=((rs.take (j+1)).map rwB).map bxD:=λd hd=>by
   refine ⟨by rw [En,En,GD,Fp];omega,rfl,?_⟩;rw [ta,hd,Gd,Gd];rfl
  cases r with
  | none=>exact Ok.eq (a:=.bl true) rfl<|Ok.eq rfl<|Ok.pos rfl<|Ok.ret (fin _ rfl)
  | some r=>
   obtain ⟨l,b⟩:=r;exact Ok.eq (a:=.bl false) rfl<|Ok.eq rfl<|Ok.neg (by decide)<|Ok.eq (a:=.int (l:Int)) rfl<|Ok.ret (fin _ rfl)
 rintro _ S2 ⟨hS,rfl⟩;cases hS;rw [List.take_length];generalize hbx:rs.map rwB=bx;have bl:bx.length=m:=by rw [<- hbx,En,hl]
 refine Ok.eq (a:=.tup (bx.map bxD)) rfl<|Ok.nxt<|Ok.cg (AK ..)<|Ok.eq (show newL [] S1=.ok (.ref S1.length) (S1++[.lst []]) from rfl) ?_;have F2:Fw ns p (N+6) (S1++[.lst []]):=F1.push _;have er2:(S1++[O.lst []])[q]?=some (.lst (rs.map rwD)):=by rw [Et ql];exact er
 have eu2:(S1++[O.lst []])[S1.length]?=some (.lst []):=by simp
 have pl:=F1.lt;generalize hu:S1.length=u at eu2 ⊢;have hup:u≠p:=by omega
 have huq:u≠q:=by omega
 generalize S1++[O.lst []]=S3 at F2 er2 eu2;refine Ok.nxt<|Ok.cg (DB ..)<|Ok.eq (sr er2)<|Ok.bind ((Ok.loop (n:=rs.length) (λi ρ S'=>Fw ns p (N+(m-i)) S'/\∃ (hs:List Hd) (o4 o7 o8:Option D),S'[q]?=some (.lst (rs.map rwD))/\S'[u]?=some (.lst (hs.map Hd.d))/\hs.length=i/\(∀ j,j<hs.length->RH bx (rat rs j) (hat hs j))/\ρ=[some (.ref p),some (.int (m:Int)),some (.ref q),o4,some (.tup (bx.map bxD)),some (.ref u),o7,o8]) (λρ S' h=>by obtain ⟨_,hs,_,_,_,e,_⟩:=h;show eH q rs.length S'=_;rw [kO e,FO (by rw [En];omega)]) ?_ ⟨F2.less (by omega),[],_,_,_,er2,eu2,rfl,(λj z=>absurd z (Jx _)),rfl⟩).mono ?_)
 ·rintro i ρ S4 hi ⟨F4,hs,o4,o7,o8,er4,eu4,hl4,ok4,rfl⟩;obtain ⟨r,hr⟩:∃ r,rs[i]?=some r:=⟨_,Em hi⟩;refine ⟨rwD r,_,by show eH q i S4=_;rw [kO er4,i4 hr],rfl,?_⟩;unfold fH;rw [fF];have last:∀ (h:Hd) (o8:Option D) (S':Sto),RH bx r h->Fw ns p (N+(m-(i+1))) S'->(∀ x,x≠p->S'[x]?=S4[x]?)->Ok (nxt (evK Rs Γ (rn (k+2)) 39) L9 [nth z0 2] ret (.nx [some (.ref p),some (.int (m:Int)),some (.ref q),some (rwD r),some (.tup (bx.map bxD)),some (.ref u),some h.d,o8])) S' λfl S'=>∃ ρ',(fl=.nx ρ'\/fl=.ct ρ')/\Fw ns p (N+(m-(i+1))) S'/\∃ (hs:List Hd) (o4 o7 o8:Option D),S'[q]?=some (.lst (rs.map rwD))/\S'[u]?=some (.lst (hs.map Hd.d))/\hs.length=i+1/\(∀ j,j<hs.length->RH bx (rat rs j) (hat hs j))/\ρ'=[some (.ref p),some (.int (m:Int)),some (.ref q),o4,some (.tup (bx.map bxD)),some (.ref u),o7,o8]:=by
   intro h o8 S' ho F' kk;have eu':S'[u]?=some (.lst (hs.map Hd.d)):=by rw [kk _ hup];exact eu4
   have ul:u<S'.length:=(Eo.mp eu').1;refine Ok.nxt<|Ok.cg (mR ..)<|Ok.eq (T5 eu')<|Ok.eq (cR eu' (by rw [En,Fp];omega))<|Ok.ret ⟨_,.inl rfl,F'.keep (by rw [Ff hup]),hs++[h],_,_,_,?_,?_,by simp [hl4],λj hj=>?_,rfl⟩
   ·rw [Ff huq,kk _ hpq];exact er4
   ·rw [FA ul,Gd];rfl
   ·rw [FN,List.length_singleton] at hj;by_cases z:j<hs.length
    ·have e:hat (hs++[h]) j=hat hs j:=by unfold hat;rw [Fc,Fc,Et z]
     rw [e];exact ok4 j z
    ·have ej:j=hs.length:=by omega
     have e:hat (hs++[h]) j=h:=dS (by rw [ej,FF (Es _),Nat.sub_self];rfl);rw [e,aO (show rs[j]?=some r by rw [ej,hl4];exact hr)];exact ho
  refine Ok.first<|Ok.cg (lI ..)<|Ok.nxt<|Ok.cg (kU ..) ?_;have F5:Fw ns p (N+(m-(i+1))) S4:=F4.less (by omega);cases r with
  | none=>exact Ok.eq (a:=.bl false) rfl<|Ok.eq rfl<|Ok.neg (by decide)<|last .out _ S4 rfl F5 λ_ _=>rfl
  | some r=>
   obtain ⟨l,b⟩:=r;have lo:=ok l b (Fk hr);have bi:bx[i]?=some (some l):=by rw [<- hbx,Fz,hr];rfl
   obtain ⟨_,_,es,rfl,rfl⟩:=jL (bx:=bx) (m:=l) (k:=k+1) (S:=S4) (by omega);obtain ⟨u1,u2⟩:=nJ (l:=l) (show bx.length<=6 by omega);rw [bl] at u2;cases b with
   | true=>exact Ok.eq (a:=.bl true) rfl<|Ok.eq rfl<|Ok.pos rfl<|Ok.eq (rw1 l _ _)<|Ok.eq (a:=true) rfl<|Ok.pos rfl<|Ok.eq (rw0 l _ _)<|Ok.eq (hD (b:=1) (by omega) _)<|Ok.eq (rw0 l _ _)<|Ok.eq es<|Ok.eq (rw1 l _ _)<|Ok.eq (a:=true) rfl<|Ok.neg (by decide)<|last (.put (l-1)) _ _ rfl F5 λ_ _=>rfl
   | false=>
    have lk:RH bx (some (l,false)) (.look l):=.inl rfl;have ln:∀ S,p8 (.tup ((ups bx l).map nD)) S=.ok (.int ((ups bx l).length:Int)) S:=λS=>(U4 _ S).trans (by rw [En]);refine Ok.eq (a:=.bl true) rfl<|Ok.eq rfl<|Ok.pos rfl<|Ok.eq (rw1 l _ _)<|Ok.eq (a:=false) rfl<|Ok.neg (by decide)<|Ok.eq (rw0 l _ _)<|Ok.eq (rw0 l _ _)<|Ok.eq es<|Ok.eq (rw1 l _ _)<|Ok.eq (a:=false) rfl<|Ok.pos rfl<|Ok.eq (ln _)<|Ok.eq (rw0 l _ _)<|Ok.eq (B5 _ _ _)<|Ok.eq (c9 _ _)<|Ok.ite (λhq=>?_) λ_=>last (.look l) _ _ lk F5 λ_ _=>rfl;refine Ok.bind ((i6 (N:=N+(m-(i+1))) (m:=3) (F4.less (by omega)) (by omega) (by omega) (k+1)).mono ?_);rintro _ S5 ⟨w,rfl,_,F6,_,k6⟩;exact Ok.eq (cb _ _ _)<|Ok.eq (c9 _ _)<|Ok.ite (λ_=>last (.holds (ups bx l)) _ _ (.inr ⟨rfl,by have:=FG hq;omega⟩) F6 k6) λ_=>last (.look l) _ _ lk F6 k6
 ·rintro _ S4 ⟨ρ,rfl,F4,hs,o4,o7,o8,er4,eu4,hl4,ok4,rfl⟩;have hm:hs.length=m:=by omega
  obtain ⟨G,bq⟩:=Good.of hm hl ok cn (λi hi=>by rw [hbx];exact ok4 i (by omega));exact Ok.nxt<|Ok.cg (BL ..)<|Ok.eq (qD eu4)<|Ok.ret ⟨F4.less (by omega),hs,by unfold lvD;rw [bq,hbx],hm,G⟩
theorem qL {m k:Nat} {S:Sto} (b:bx.length<=1000):Ok (rn (k+1) kL [.tup (bx.map bxD),.int (m:Int)]) S λd S'=>d=.tup ((ups bx m).map nD)/\S'=S:=by
 rw [rn,b9 rfl,zK];refine nx_bind (Ok.eq (by show R.ok (A3 (bx.map bxD),(bx.map bxD).length+1) S=_;rw [En]) ((Ok.comp (λi S' es=>S'=S/\es=((List.range i).filter (upB bx m)).map nD) (λS' es _=>oU bx S') ?_ ⟨rfl,rfl⟩).mono ?_))
 ·rintro i S' es a ⟨rfl,rfl⟩;have h:=Em a;generalize bx[i]=o at h;refine ⟨_,vV h S',upB bx m i,S',?_,?_⟩
  ·rw [iT];exact pW h S'
  ·have:=jp (m:=m) (S:=S') (f:=gM (rn k) [some (.tup (bx.map bxD)),some (.int (m:Int))] (.tup [.int (i:Int),bxD o])) b a (by rw [iL];rfl);exact this
 ·rintro es S' ⟨rfl,rfl⟩;exact Ok.eq rfl (Ok.ret ⟨rfl,rfl⟩)
section
variable {n N:Nat} {d:D} (h:Any n N d) (hn:n<=40) (k:Nat) (S:Sto)
include h
theorem tz:rn (k+1) yP [d] S=.ok (.bl (isW d)) S:=by
 have pl:=h.pl;rw [rn,b9 rfl,tX];cases d <;> first | exact pl.elim | rfl
theorem Q2 (lo hi:Int):rn (k+2) gY [d,.int lo,.int hi] S=.ok (.bl (whB lo hi d)) S:=by
 refine j5 ?_;rw [rn,b9 rfl,uH];refine Ok.eq (tz h k S) ?_;cases d with
 | int i=>
  refine Ok.eq rfl<|Ok.pos rfl<|Ok.eq (ek lo i S)<|Ok.eq (c9 _ S) ?_;by_cases q:lo<=i
  ·rw [Fa q];exact Ok.pos rfl<|Ok.eq (ek i hi S)<|Ok.ret ⟨by show _=D.bl (decide (lo<=i)&&decide (i<=hi));rw [Fa q];rfl,rfl⟩
  ·rw [Fv q];exact Ok.neg (by decide)<|Ok.ret ⟨by show _=D.bl (decide (lo<=i)&&decide (i<=hi));rw [Fv q];rfl,rfl⟩
 | _=>exact Ok.eq (a:=false) rfl<|Ok.neg (by decide)<|Ok.ret ⟨rfl,rfl⟩
theorem R5 (lo hi:Int):rn (k+1) gQ [d,.int lo,.int hi] S=.ok (.bl (whB lo hi d)) S:=by
 have pl:=h.pl;refine j5 ?_;rw [rn,b9 rfl,tW];cases d with
 | int i=>
  refine Ok.eq rfl<|Ok.eq rfl<|Ok.pos rfl<|Ok.eq rfl<|Ok.eq rfl<|Ok.eq rfl<|Ok.pos rfl<|Ok.eq (ek lo i S)<|Ok.eq (c9 _ S) ?_;by_cases q:lo<=i
  ·rw [Fa q];exact Ok.pos rfl<|Ok.eq (ek i hi S)<|Ok.ret ⟨by show _=D.bl (decide (lo<=i)&&decide (i<=hi));rw [Fa q];rfl,rfl⟩
  ·rw [Fv q];exact Ok.neg (by decide)<|Ok.ret ⟨by show _=D.bl (decide (lo<=i)&&decide (i<=hi));rw [Fv q];rfl,rfl⟩
 | bl b=>exact ⟨_,_,rfl,rfl,rfl⟩
 | scr _=>exact pl.elim
 | ref _=>exact pl.elim
 | _=>exact ⟨_,_,rfl,rfl,rfl⟩
theorem Z9 (m:Nat):rn (k+1) Aw [d,.int (m:Int)] S=.ok (.bl (E1 m d)) S:=by
 have pl:=h.pl;refine j5 ?_;rw [rn,b9 rfl,zA];cases d with
 | tup ds=>exact Ok.eq rfl<|Ok.eq rfl<|Ok.pos rfl<|Ok.eq (X9)<|Ok.eq (B5 _ _ S)<|Ok.ret ⟨congrArg D.bl (fy ..),rfl⟩
 | scr _=>exact pl.elim
 | ref _=>exact pl.elim
 | _=>exact ⟨_,_,rfl,rfl,rfl⟩
end
def rsB (m:Nat):D->Bool
 | .tup ds=>ds.all (whB 0 ((m:Int)-1))&&decide (ds.map k9=srt (A2 (ds.map k9)))
 | _=>false
def vwB (m i:Nat):D->Bool
 | .tup ds=>rsB m (.tup ds)&&decide ((i:Int)∈ds.map k9)
 | _=>false
def hdB (m i:Nat):D->Bool
 | .tup [a]=>is1 "out" (.tup [a])
 | .tup [a,b]=>if inW ["holds"] a=true then vwB m i b else if inW ["put"] a=true then whB 1 ((m:Int)-1) b else inW ["look"] a&&whB 1 m b
 | _=>false
theorem xy:Pln 0 (.str "out"):=(y3 (n:=1) (N:=100) (by decide +kernel)).1
theorem mZ:Pln 0 (.str "holds"):=(y3 (n:=1) (N:=100) (by decide +kernel)).1
theorem CI:Pln 0 (.str "put"):=(y3 (n:=1) (N:=100) (by decide +kernel)).1
theorem Bh:Pln 0 (.str "look"):=(y3 (n:=1) (N:=100) (by decide +kernel)).1
theorem xT (m:Nat) (S:Sto):P1 (.int (m:Int)) (.int 1) S=.ok (.int ((m:Int)-1)) S:=rfl
theorem jb (h:Any n N (.tup ds)) (hN:N<=100000):ds.length<=50000:=by
 have:=aH ds;have z:szs ds+3<=N:=h.sz;omega
section
variable {n N:Nat} {d:D} (h:Any n N d) (hn:n<=40) (hN:N<=100000) {m:Nat} (m6:m<=6) (k:Nat) (S:Sto)
include h hN m6
theorem rX:rn (k+3) Ad [.int (m:Int),d] S=.ok (.bl (rsB m d)) S:=by
 have pl:=h.pl;refine j5 ?_;rw [rn,b9 rfl,zF];cases d with
 | tup ds=>
  have sl:ds.length<sizeLine:=by rw [Fp];have:=jb h hN;omega
  have c:=U0 (f:=λd3=>bind (P1 (.int (m:Int)) (.int 1)) λx5=>bind (rn (k+2) gY [d3,(.int 0),x5]) λx6=>ret x6) sl (λd hd=>by
   rw [a7 (xT m S),a7 (Q2 (u3 h hd) k S 0 ((m:Int)-1))];rfl)
  refine Ok.eq rfl<|Ok.eq rfl<|Ok.neg (by decide)<|nx_bind<|Ok.eq (N5 _ S)<|Ok.of c<|Ok.eq (hR _ S)<|Ok.eq rfl ?_;show Ok _ _ λd' S'=>d'=D.bl (ds.all (whB 0 ((m:Int)-1))&&decide (ds.map k9=srt (A2 (ds.map k9))))/\S'=S;rw [all_map];cases z:ds.all (whB 0 ((m:Int)-1)) with
  | false=>exact Ok.pos rfl<|Ok.ret ⟨rfl,rfl⟩
  | true=>
   obtain ⟨e,b⟩:=U6 z;have ln:szs ds+3<=N:=h.sz;have u:=fz b;generalize ds.map k9=ns at e b u;subst e;rw [aj] at ln;exact Ok.neg (by decide)<|Ok.eq rfl<|Ok.eq (eS (by omega) (by omega) S)<|Ok.eq (dG _ _ S)<|Ok.ret ⟨by simp,rfl⟩
 | scr _=>exact pl.elim
 | ref _=>exact pl.elim
 | _=>exact ⟨_,_,rfl,rfl,rfl⟩
include hn
theorem zL (i:Nat):rn (k+4) Co [.int (m:Int),.int (i:Int),d] S=.ok (.bl (hdB m i d)) S:=by
 have e:=(nB h hn xy S).1;have t:=Z9 h (k+2) S 2;refine j5 ?_;rw [rn,b9 rfl,ym];refine Ok.eq e<|Ok.eq (c9 _ S) ?_;cases q:is1 "out" d with
 | true=>
  refine Ok.pos rfl<|Ok.ret ⟨?_,rfl⟩;by_cases z:∃ a,d=.tup [a]
  ·obtain ⟨a,rfl⟩:=z;show _=D.bl (is1 "out" (.tup [a]));rw [q]
  ·rw [mz λa z2=>z ⟨a,z2⟩] at q;cases q
 | false=>
  refine Ok.neg (by decide)<|Ok.eq t ?_;cases d with
  | tup ds=>
   match ds with
   | []=>exact Ok.eq rfl<|Ok.pos (by decide)<|Ok.ret ⟨rfl,rfl⟩
   | [a]=>exact Ok.eq (a:=false) rfl<|Ok.pos (by decide)<|Ok.ret ⟨by show _=D.bl (is1 "out" (.tup [a]));rw [q],rfl⟩
   | [a,b]=>
    have ha:=u3 h (d:=a) (by simp);have hb:=u3 h (d:=b) (by simp);have r:=rX hb hN m6 k S;refine Ok.eq (a:=true) rfl<|Ok.neg (by decide)<|Ok.eq (j9 S rfl)<|Ok.eq (M8 ha hn mZ S).1<|Ok.eq (c9 _ S) ?_;show Ok _ _ λd' S'=>d'=D.bl (if inW ["holds"] a=true then vwB m i b else if inW ["put"] a=true then whB 1 ((m:Int)-1) b else inW ["look"] a&&whB 1 m b)/\S'=S;cases w:inW ["holds"] a with
    | true=>
     refine Ok.pos rfl<|Ok.eq (j9 S rfl)<|Ok.eq r ?_;rw [if_pos rfl];cases z:rsB m b with
     | false=>
      refine Ok.eq rfl<|Ok.neg (by decide)<|Ok.ret ⟨?_,rfl⟩;cases b with
      | tup ds=>show _=D.bl (rsB m (.tup ds)&&_);rw [z];rfl
      | _=>rfl
     | true=>
      cases b with
      | tup ds=>
       have z':(ds.all (whB 0 ((m:Int)-1))&&decide (ds.map k9=srt (A2 (ds.map k9))))=true:=z;rw [Ep] at z';obtain ⟨e,_⟩:=U6 z'.1;have i1:=jN (i:Int) (ds.map k9) S;rw [<- e] at i1;refine Ok.eq rfl<|Ok.pos rfl<|Ok.eq (j9 S rfl)<|Ok.eq i1<|Ok.ret ⟨?_,rfl⟩;show _=D.bl (rsB m (.tup ds)&&_);rw [z];rfl
      | _=>cases z
    | false=>
     refine Ok.neg (by decide)<|Ok.eq (j9 S rfl)<|Ok.eq (M8 ha hn CI S).1<|Ok.eq (c9 _ S) ?_;rw [if_neg Er];cases w2:inW ["put"] a with
     | true=>exact Ok.pos rfl<|Ok.eq (j9 S rfl)<|Ok.eq (xT m S)<|Ok.eq (Q2 hb (k+1) S 1 ((m:Int)-1))<|Ok.ret ⟨by rw [if_pos rfl],rfl⟩
     | false=>
      refine Ok.neg (by decide)<|Ok.eq (j9 S rfl)<|Ok.eq (M8 ha hn Bh S).1 ?_;rw [if_neg Er];cases w3:inW ["look"] a with
      | true=>exact Ok.eq rfl<|Ok.pos rfl<|Ok.eq (j9 S rfl)<|Ok.eq (Q2 hb (k+1) S 1 m)<|Ok.ret ⟨by rw [Bool.true_and],rfl⟩
      | false=>exact Ok.eq rfl<|Ok.neg (by decide)<|Ok.ret ⟨rfl,rfl⟩
   | a :: b :: c :: l=>
    have z:E1 2 (.tup (a :: b :: c :: l))=false:=by
     show decide ((a :: b :: c :: l).length=2)=false;exact Fv (by simp)
    rw [z];exact Ok.eq rfl<|Ok.pos (by decide)<|Ok.ret ⟨rfl,rfl⟩
  | _=>exact Ok.eq (a:=false) rfl<|Ok.pos (by decide)<|Ok.ret ⟨rfl,rfl⟩
end
def N7 (m:Nat):D->Bool
 | .non=>true
 | d=>whB 1 (m:Int) d
def bt (m:Nat) (hs:List D):Bool:=(List.range hs.length).all λi=>hdB m i (hs.getD i .non)
def rl (m:Nat):D->Bool
 | .tup [b,h]=>E1 m b&&(E1 m h&&((els b).all (N7 m)&&bt m (els h)))
 | _=>false
theorem Ah (l:Nat) (h:l=1\/l=2) (S:Sto):a9 .NotIn (.int (l:Int)) (.tup [.int 1,.int 2]) S=.ok (.bl false) S:=by
 rcases h with rfl | rfl <;> kernel_rfl
theorem Cv {l:Nat} (h:3<=l\/l=0) (S:Sto):a9 .NotIn (.int (l:Int)) (.tup [.int 1,.int 2]) S=.ok (.bl true) S:=by
 have e:a9 .NotIn (.int (l:Int)) (.tup [.int 1,.int 2]) S=Y8 true (.int (l:Int)) [.int 1,.int 2] S:=rfl;rw [e];unfold Y8;have hd:PyData.depth (.int (l:Int))=0:=by simp [PyData.depth]
 rw [if_pos ⟨rfl,rfl,by rw [hd];omega⟩];have a:(([.int 1,.int 2]:List PyData).any λy=>PyData.eqv y (.int (l:Int)))=(((1:Int)==(l:Int))||(((2:Int)==(l:Int))||false)):=rfl;rw [a,IB.mpr (by omega),IB.mpr (by omega)];rfl
theorem zS:∀ w∈[("look" : Str),"put"],Asc w:=by
 intro w a;simp at a;rcases a with rfl | rfl <;> (unfold Asc;decide +kernel)
theorem DH (a b:Str) (d:D):inW [a,b] d=(inW [a] d||inW [b] d):=by
 cases d with
 | str x=>
  show decide (x∈[a,b])=(decide (x∈[a])||decide (x∈[b]));by_cases h1:x=a <;> by_cases h2:x=b <;> simp [h1,h2]
 | _=>rfl
theorem V4 (h:a≠b) {d:D} (q:inW [a] d=true):inW [b] d=false:=by
 cases d with
 | str x=>
  have q:decide (x∈[a])=true:=q;rw [Fh,Fy] at q;subst q;exact Fv (by simpa using h)
 | _=>cases q
theorem uL (q:inW ["out"] d=true):inW ["holds"] d=false/\inW ["put"] d=false/\inW ["look"] d=false:=⟨V4 (by decide +kernel) q,V4 (by decide +kernel) q,V4 (by decide +kernel) q⟩
theorem zn (q:inW ["look"] d=true):inW ["holds"] d=false/\inW ["put"] d=false:=⟨V4 (by decide +kernel) q,V4 (by decide +kernel) q⟩
theorem gq (q:inW ["put"] d=true):inW ["holds"] d=false:=V4 (by decide +kernel) q
section
variable {n N:Nat} {d:D} (h:Any n N d) (hn:n<=40) (hN:N<=100000) {m:Nat} (m6:m<=6) (k:Nat) (S:Sto)
include h hn hN m6
theorem vX (i:Nat):rn (k+2) wf [d,.int (m:Int),.int (i:Int)] S=.ok (.bl (hdB m i d)) S:=by
 have e:=(nB h hn xy S).1;have pl:=h.pl;refine j5 ?_;rw [rn,b9 rfl,xJ];cases d with
 | tup ds=>
  refine Ok.eq rfl<|Ok.eq rfl<|Ok.neg (by decide) ?_
  match ds with
  | []=>exact Ok.eq (X9)<|Ok.eq (Cv (.inr rfl) S)<|Ok.eq rfl<|Ok.pos rfl<|Ok.ret ⟨rfl,rfl⟩
  | [a]=>
   refine Ok.eq (X9)<|Ok.eq (Ah 1 (.inl rfl) S)<|Ok.eq rfl<|Ok.neg (by decide)<|Ok.eq (j9 S rfl) ?_;show Ok _ _ λd' S'=>d'=D.bl (is1 "out" (.tup [a]))/\S'=S;have pa:=pl.1;cases a with
   | str x=>exact Ok.eq rfl<|Ok.eq rfl<|Ok.neg (by decide)<|Ok.eq (X9)<|Ok.eq rfl<|Ok.eq rfl<|Ok.pos rfl<|Ok.eq e<|Ok.ret ⟨rfl,rfl⟩
   | scr _=>exact pa.elim
   | ref _=>exact pa.elim
   | _=>exact Ok.eq rfl<|Ok.eq rfl<|Ok.pos rfl<|Ok.ret ⟨by rw [sv _ _ (λ_ z=>by cases z) (λ_ z=>by cases z)];rfl,rfl⟩
  | [a,b]=>
   have ha:=u3 h (d:=a) (by simp);have hb:=u3 h (d:=b) (by simp);refine Ok.eq (X9)<|Ok.eq (Ah 2 (.inr rfl) S)<|Ok.eq rfl<|Ok.neg (by decide)<|Ok.eq (j9 S rfl) ?_;show Ok _ _ λd' S'=>d'=D.bl (if inW ["holds"] a=true then vwB m i b else if inW ["put"] a=true then whB 1 ((m:Int)-1) b else inW ["look"] a&&whB 1 m b)/\S'=S;have io:=(M8 ha hn xy S).1;have il:=zX ha hn zS S;have ip:=(M8 ha hn CI S).1;have ih:=(M8 ha hn mZ S).2;have pa:=pl.1;have pb:=hb.pl;cases a with
   | str x=>
    refine Ok.eq rfl<|Ok.eq rfl<|Ok.neg (by decide)<|Ok.eq (X9)<|Ok.eq rfl<|Ok.eq (a:=false) rfl<|Ok.neg (by decide)<|Ok.eq (j9 S rfl)<|Ok.eq io<|Ok.eq (c9 _ S) ?_;generalize hx:D.str x=a at *;cases wo:inW ["out"] a with
    | true=>
     obtain ⟨o1,o2,o3⟩:=uL wo;have no:is1 "out" (.tup [a,b])=false:=mz λz q=>by cases q
     rw [no] at e;exact Ok.pos rfl<|Ok.eq e<|Ok.ret ⟨by rw [o1,o2,o3];rfl,rfl⟩
    | false=>
    refine Ok.neg (by decide)<|Ok.eq (j9 S rfl)<|Ok.eq il<|Ok.eq (c9 _ S) ?_;rw [DH];cases wl:inW ["look"] a with
    | true=>
     obtain ⟨o1,o2⟩:=zn wl;rw [o2] at ip;exact Ok.pos rfl<|Ok.eq (j9 S rfl)<|Ok.eq (j9 S rfl)<|Ok.eq ip<|Ok.eq rfl<|Ok.eq rfl<|Ok.eq (R5 hb k S 1 ((m:Int)-0))<|Ok.ret ⟨by rw [o1,o2];simp,rfl⟩
    | false=>
    cases wp:inW ["put"] a with
    | true=>
     have o1:=gq wp;rw [wp] at ip;exact Ok.pos rfl<|Ok.eq (j9 S rfl)<|Ok.eq (j9 S rfl)<|Ok.eq ip<|Ok.eq rfl<|Ok.eq rfl<|Ok.eq (R5 hb k S 1 ((m:Int)-1))<|Ok.ret ⟨by rw [o1];simp,rfl⟩
    | false=>
    refine Ok.neg (by decide)<|Ok.eq (j9 S rfl)<|Ok.eq ih<|Ok.eq (c9 _ S) ?_;cases wh:inW ["holds"] a with
    | false=>exact Ok.pos rfl<|Ok.ret ⟨rfl,rfl⟩
    | true=>
    refine Ok.neg (by decide)<|Ok.eq (j9 S rfl) ?_;rw [if_pos rfl];cases b with
    | tup ds=>
     have sl:ds.length<sizeLine:=by rw [Fp];have:=jb hb hN;omega
     have c:=U0 (f:=λd3=>bind (P1 (.int (m:Int)) (.int 1)) λx5=>bind (rn (k+1) gQ [d3,(.int 0),x5]) λx6=>ret x6) sl (λd hd=>by
      rw [a7 (xT m S),a7 (R5 (u3 hb hd) k S 0 ((m:Int)-1))];rfl)
     refine Ok.eq rfl<|Ok.eq rfl<|Ok.neg (by decide)<|nx_bind<|Ok.eq (j9 S rfl)<|Ok.eq (N5 _ S)<|Ok.of c<|Ok.eq (inF _ _ S)<|Ok.eq (c9 _ S) ?_;show Ok _ _ λd' S'=>d'=D.bl ((ds.all (whB 0 ((m:Int)-1))&&decide (ds.map k9=srt (A2 (ds.map k9))))&&decide ((i:Int)∈ds.map k9))/\S'=S;cases z:ds.all (whB 0 ((m:Int)-1)) with
     | false=>exact Ok.pos rfl<|Ok.ret ⟨rfl,rfl⟩
     | true=>
      obtain ⟨e,b⟩:=U6 z;have ln:szs ds+3<=N:=hb.sz;have u:=fz b;generalize ds.map k9=ns at e b u;subst e;rw [aj] at ln;refine Ok.neg (by decide)<|Ok.eq (j9 S rfl)<|Ok.eq (jN (i:Int) ns S)<|Ok.eq rfl ?_;cases q:decide ((i:Int)∈ns) with
      | false=>exact Ok.neg (by decide)<|Ok.ret ⟨by simp,rfl⟩
      | true=>
       refine Ok.pos rfl<|Ok.eq (j9 S rfl)<|Ok.eq (eS (by omega) (by omega) S)<|Ok.eq (j9 S rfl)<|Ok.eq rfl<|Ok.eq (dG _ _ S)<|Ok.ret ⟨?_,rfl⟩;have:decide (srt (A2 ns)=ns)=decide (ns=srt (A2 ns)):=by
        by_cases y:ns=srt (A2 ns)
        ·grind
        ·grind
       rw [this];simp
    | scr _=>exact pb.elim
    | ref _=>exact pb.elim
    | _=>exact Ok.eq rfl<|Ok.eq rfl<|Ok.pos rfl<|Ok.ret ⟨rfl,rfl⟩
   | scr _=>exact pa.elim
   | ref _=>exact pa.elim
   | _=>exact Ok.eq rfl<|Ok.eq rfl<|Ok.pos rfl<|Ok.ret ⟨rfl,rfl⟩
  | a :: b :: c :: l=>
   have no:a9 .NotIn (.int ((a :: b :: c :: l).length:Int)) (.tup [.int 1,.int 2]) S=.ok (.bl true) S:=by
    exact Cv (.inl (by simp)) S
   exact Ok.eq (X9)<|Ok.eq no<|Ok.eq rfl<|Ok.pos rfl<|Ok.ret ⟨rfl,rfl⟩
 | scr _=>exact pl.elim
 | ref _=>exact pl.elim
 | _=>exact ⟨_,_,rfl,rfl,rfl⟩
end
theorem wO (a:Any n N d) (m k:Nat) (S:Sto):(bind (a9 .Is d .non) λb=>bind (h7 b) λc=>if c=true then (ret b) else (bind (rn (k+2) gY [d,(.int 1),.int (m:Int)]) λx5=>ret x5)) S=.ok (.bl (N7 m d)) S/\(bind (a9 .Is d .non) λb=>bind (h7 b) λc=>if c=true then (ret b) else (bind (rn (k+1) gQ [d,(.int 1),.int (m:Int)]) λx5=>ret x5)) S=.ok (.bl (N7 m d)) S:=by
 have p:=a.pl;have w:=Q2 a k S 1 m;have g:=R5 a k S 1 m;by_cases q:d=.non
 ·subst q;exact ⟨rfl,rfl⟩
 ·have e:N7 m d=whB 1 (m:Int) d:=by cases d <;> first | exact absurd rfl q | rfl
  have f:a9 .Is d .non S=.ok (.bl false) S:=by cases d <;> first | exact absurd rfl q | exact p.elim | rfl
  rw [e];exact ⟨j5 (Ok.eq f<|Ok.eq rfl<|Ok.neg (by decide)<|Ok.eq w<|Ok.ret ⟨rfl,rfl⟩),j5 (Ok.eq f<|Ok.eq rfl<|Ok.neg (by decide)<|Ok.eq g<|Ok.ret ⟨rfl,rfl⟩)⟩
section
variable {n N:Nat} (hn:n<=40) (hN:N<=100000) {m:Nat} (m6:m<=6) (k:Nat) (S:Sto)
include hn hN m6
theorem ig (h:Any n N d):rn (k+5) Bj [.int (m:Int),d] S=.ok (.bl (rl m d)) S:=by
 have t:=Z9 h (k+3) S 2;refine j5 ?_;rw [rn,b9 rfl,xh,zp];refine Ok.first<|Ok.cg (DP ..)<|Ok.eq t<|Ok.eq rfl ?_;cases z:E1 2 d with
 | false=>
  refine Ok.pos rfl<|Ok.ret ⟨?_,rfl⟩;cases d with
  | tup ds=>
   match ds with
   | [b,h]=>cases z
   | []=>rfl
   | [_]=>rfl
   | _ :: _ :: _ :: _=>rfl
  | _=>rfl
 | true=>
  obtain ⟨ds,rfl,hl⟩:=Q8 z
  match ds,hl with
  | [b,hd],_=>
  have hb:=u3 h (d:=b) (by simp);have hh:=u3 h (d:=hd) (by simp);refine Ok.neg (by decide)<|Ok.nxt<|Ok.cg (EL ..)<|Ok.eq rfl ?_;refine Ok.nxt<|Ok.cg (EX ..)<|Ok.eq (Z9 hb (k+3) S m)<|Ok.eq rfl ?_;show Ok _ _ λd' S'=>d'=D.bl (E1 m b&&(E1 m hd&&((els b).all (N7 m)&&bt m (els hd))))/\S'=S;cases tb:E1 m b with
  | false=>exact Ok.pos rfl<|Ok.ret ⟨by simp,rfl⟩
  | true=>
  refine Ok.neg (by decide)<|Ok.eq (Z9 hh (k+3) S m)<|Ok.eq rfl ?_;cases th:E1 m hd with
  | false=>exact Ok.pos rfl<|Ok.ret ⟨by simp,rfl⟩
  | true=>
  obtain ⟨bs,rfl,lb⟩:=Q8 tb;obtain ⟨hs,rfl,lh⟩:=Q8 th;have c1:=U0 (dh (by omega)) (λd hd=>(wO (u3 hb hd) m (k+2) S).1);have c2:=vN (ds:=hs) (t:=hJ (rn (k+4)) [some (.int (m:Int)),some (.tup [.tup bs,.tup hs]),some (.tup bs),some (.tup hs)]) (f:=gJ (rn (k+4)) [some (.int (m:Int)),some (.tup [.tup bs,.tup hs]),some (.tup bs),some (.tup hs)]) (dh (by omega)) (λi d _=>by rw [gb];rfl) (λi d hd=>by
   rw [gG];exact (a7 (zL (u3 hh (Fk hd)) hn hN m6 k S i)).trans rfl)
  refine Ok.neg (by decide)<|Ok.nxt<|Ok.cg (EB ..)<|nx_bind<|Ok.eq (N5 _ S)<|Ok.of c1<|Ok.eq (hR _ S)<|Ok.eq rfl ?_;show Ok _ _ λd' S'=>d'=D.bl (true&&(true&&(bs.all (N7 m)&&bt m hs)))/\S'=S;rw [all_map];cases bs.all (N7 m) with
  | false=>exact Ok.pos rfl<|Ok.ret ⟨rfl,rfl⟩
  | true=>
   refine Ok.neg (by decide)<|Ok.nxt<|Ok.cg (ET ..)<|nx_bind<|Ok.eq rfl<|Ok.of c2<|Ok.eq (hR _ S) ?_;rw [pg];exact Ok.ret ⟨rfl,rfl⟩
theorem sj (a b:List D) (S:Sto):a9 .NotEq (.lst [.int (a.length:Int),.int (b.length:Int)]) (.lst [.int (m:Int),.int (m:Int)]) S=.ok (.bl (!(decide (a.length=m)&&decide (b.length=m)))) S:=by
 have e:=dG [(a.length:Int),(b.length:Int)] [(m:Int),(m:Int)] S;have n:=PySem.SeqAt.eqv_refl;have g:a9 .NotEq (.lst [.int (a.length:Int),.int (b.length:Int)]) (.lst [.int (m:Int),.int (m:Int)]) S=.ok (.bl (!((((a.length:Int)==(m:Int)))&&(((b.length:Int)==(m:Int))&&true)))) S:=by kernel_rfl
 rw [g];congr 2;rw [Im];have q:∀ x:Nat,((x:Int)==(m:Int))=decide (x=m):=λx=>by
  by_cases y:x=m
  ·subst y;simp
  ·grind
 rw [q,q]
theorem pP (h:Any n N d):rn (k+3) yH [.int (m:Int),d] S=.ok (.bl (rl m d)) S:=by
 have pl:=h.pl;refine j5 ?_;rw [rn,b9 rfl,sw];cases d with
 | tup ds=>
  refine Ok.eq rfl<|Ok.eq rfl<|Ok.neg (by decide)<|Ok.eq X9<|Ok.eq (wN _ _ S)<|Ok.eq (c9 _ S) ?_;by_cases l2:ds.length=2
  case neg=>
   refine Ok.pos (by rw [Fv (by omega)];rfl)<|Ok.ret ⟨?_,rfl⟩
   match ds with
   | [b,h]=>exact absurd rfl l2
   | []=>rfl
   | [_]=>rfl
   | _ :: _ :: _ :: _=>rfl
  match ds,l2 with
  | [b,hd],_=>
  have hb:=u3 h (d:=b) (by simp);have hh:=u3 h (d:=hd) (by simp)
  let tp:D->Bool:=λd=>match d with
   | .tup _=>true
   | _=>false
  have tB:∀ d∈[b,hd],(bind (J2 "tuple" (λ_=>false) d) λx8=>ret x8) S=.ok (.bl (tp d)) S:=λd hd'=>by
   have p:Pln n d:=by
    rcases Ez.mp hd' with z | z
    ·rw [z];exact hb.pl
    ·rw [Fy.mp z];exact hh.pl
   cases d <;> first | exact p.elim | rfl
  have c0:=U0 (dh (by show 2<=6;omega)) tB;refine Ok.neg (by simp)<|nx_bind<|Ok.eq (N5 _ S)<|Ok.of c0<|Ok.eq (inF _ _ S)<|Ok.eq (c9 _ S) ?_;show Ok (if (!(tp b&&(tp hd&&true)))=true then _ else _) _ λd' S'=>d'=D.bl (E1 m b&&(E1 m hd&&((els b).all (N7 m)&&bt m (els hd))))/\S'=S;cases b with
  | tup bs=>
   cases hd with
   | tup hs=>
    have c1:f9 (aZ [.tup bs,.tup hs]) (λd12=>ret true) (λd12=>bind (p8 d12) λx14=>ret x14) 3 0 [] S=.ok [.int (bs.length:Int),.int (hs.length:Int)] S:=by kernel_rfl
    refine Ok.neg Er<|nx_bind<|Ok.eq (N5 _ S)<|Ok.of c1<|Ok.eq (sj hn hN m6 bs hs S)<|Ok.eq (c9 _ S) ?_;show Ok _ _ λd' S'=>d'=D.bl (decide (bs.length=m)&&(decide (hs.length=m)&&(bs.all (N7 m)&&bt m hs)))/\S'=S;by_cases lb:bs.length=m
    case neg=>exact Ok.pos (by rw [Fv lb];rfl)<|Ok.ret ⟨by rw [Fv lb];rfl,rfl⟩
    by_cases lh:hs.length=m
    case neg=>exact Ok.pos (by rw [Fv lh,JC];rfl)<|Ok.ret ⟨by rw [Fv lh,Bool.false_and,JC],rfl⟩
    rw [Fa lb,Fa lh];have c2:=U0 (dh (by omega)) (λd hd=>(wO (u3 hb hd) m (k+1) S).2);have c3:=u4 (l:=List.range m) (h:=λi=>D.int (i:Int)) (g:=λi=>D.bl (hdB m i (hs.getD i .non))) (t:=λ_=>ret true) (f:=λd27=>bind (ixD (.tup [.tup bs,.tup hs]) (.int 1)) λx29=>bind (ixD x29 d27) λx30=>bind (rn (k+2) wf [x30,.int (m:Int),d27]) λx31=>ret x31) (λi=>V6 m i S) (by rw [Fu];exact dh m6) (λ_ _=>rfl) (λi hi _=>by
     have hi:i<hs.length:=by rw [lh];exact Fq.mp hi
     have e:=Em hi;have g:hs.getD i .non=hs[i]:=by rw [Fc,e];rfl
     rw [a7 (show ixD (.tup [.tup bs,.tup hs]) (.int 1) S=.ok (.tup hs) S from rfl),a7 (j9 S e),a7 (vX (u3 hh (FK hi)) hn hN m6 k S i),g];rfl)
    rw [HA.mpr (λ_ _=>rfl),Fu,show (List.range m).map (λi=>D.bl (hdB m i (hs.getD i .non)))=((List.range m).map λi=>hdB m i (hs.getD i .non)).map D.bl by rw [GA];rfl] at c3;refine Ok.neg (by decide)<|nx_bind<|Ok.eq (j9 S rfl)<|Ok.eq (N5 _ S)<|Ok.of c2<|Ok.eq (inF _ _ S)<|Ok.eq (c9 _ S) ?_;cases bs.all (N7 m) with
    | false=>exact Ok.pos rfl<|Ok.ret ⟨rfl,rfl⟩
    | true=>
     refine Ok.neg (by decide)<|nx_bind<|Ok.eq (p6 (by omega) S)<|Ok.of c3<|Ok.eq (vj _ S) ?_;rw [pg];exact Ok.ret ⟨by unfold bt;rw [lh];rfl,rfl⟩
   | _=>exact Ok.pos rfl<|Ok.ret ⟨by simp [E1],rfl⟩
  | _=>exact Ok.pos rfl<|Ok.ret ⟨by simp [E1],rfl⟩
 | scr _=>exact pl.elim
 | ref _=>exact pl.elim
 | _=>exact ⟨_,_,rfl,rfl,rfl⟩
end
structure Lv where
 bx:List (Option Nat)
 hs:List Hd
def Lv.d (r:Lv):D:=.tup [.tup (r.bx.map bxD),.tup (r.hs.map Hd.d)]
def okH (m i:Nat):Hd->Prop
 | .out=>True
 | .look l=>1<=l/\l<=m
 | .put l=>1<=l/\l+1<=m
 | .holds v=>(∀ x∈v,x<m)/\v.Pairwise (· < ·)/\i∈v
structure Fit (m:Nat) (r:Lv):Prop where
 bl:r.bx.length=m
 hl:r.hs.length=m
 bs:∀ g,some g∈r.bx->1<=g/\g<=m
 hd:∀ (i:Nat) h,r.hs[i]?=some h->okH m i h
theorem Ae (h:N7 m d=true):∃ o:Option Nat,bxD o=d/\∀ g,o=some g->1<=g/\g<=m:=by
 by_cases q:d=.non
 ·subst q;exact ⟨none,rfl,λg z=>by cases z⟩
 ·have e:N7 m d=whB 1 (m:Int) d:=by cases d <;> first | exact absurd rfl q | rfl
  rw [e] at h;obtain ⟨i,rfl,a,b⟩:=jU h;obtain ⟨g,rfl⟩:=Gv (show 0<=i by omega);exact ⟨some g,rfl,λg' z=>by cases z;omega⟩
theorem zO (h:inW [w] d=true):d=.str w:=by
 obtain ⟨x,rfl,hx⟩:=yq h;grind
theorem DD (h:hdB m i d=true):∃ a:Hd,a.d=d/\okH m i a:=by
 cases d with
 | tup ds=>
  match ds with
  | [a]=>
   have h:=h;rw [yC h];exact ⟨.out,rfl,trivial⟩
  | [a,b]=>
   have h:(if inW ["holds"] a=true then vwB m i b else if inW ["put"] a=true then whB 1 ((m:Int)-1) b else inW ["look"] a&&whB 1 m b)=true:=h;by_cases c:inW ["holds"] a=true
   ·rw [if_pos c] at h;rw [zO c];cases b with
    | tup ds=>
     have h:((ds.all (whB 0 ((m:Int)-1))&&decide (ds.map k9=srt (A2 (ds.map k9))))&&decide ((i:Int)∈ds.map k9))=true:=h;simp only [Ep,Fh] at h;obtain ⟨⟨h1,h2⟩,h3⟩:=h;obtain ⟨e,b⟩:=U6 h1;rw [rises_iff] at h2;generalize ds.map k9=ns at e b h2 h3;subst e;have vn:(ns.map Int.toNat).map (λ(n:Nat)=>(n:Int))=ns:=by
      rw [GA];exact (IC λx hx=>by have:=(b x hx).1;show ((x.toNat:Nat):Int)=x;omega).trans (List.map_id _)
     refine ⟨.holds (ns.map Int.toNat),?_,λx hx=>?_,?_,?_⟩
     ·show D.tup [.str "holds",.tup ((ns.map Int.toNat).map nD)]=_;have e2:∀ l:List Nat,l.map nD=(l.map λ(n:Nat)=>(n:Int)).map D.int:=λl=>by rw [GA];rfl
      rw [e2,vn]
     ·obtain ⟨y,hy,rfl⟩:=FX.mp hx;have:=b y hy;omega
     ·rw [Ib];exact h2.imp_of_mem λ{x y} hx hy q=>by have:=b x hx;have:=b y hy;omega
     ·exact FX.mpr ⟨_,h3,by omega⟩
    | _=>cases h
   ·rw [if_neg c] at h;by_cases c2:inW ["put"] a=true
    ·rw [if_pos c2] at h;rw [zO c2];obtain ⟨x,rfl,h1,h2⟩:=jU h;obtain ⟨g,rfl⟩:=Gv (show 0<=x by omega);exact ⟨.put g,rfl,by show 1<=g/\g+1<=m;omega⟩
    ·rw [if_neg c2,Ep] at h;rw [zO h.1];obtain ⟨x,rfl,h1,h2⟩:=jU h.2;obtain ⟨g,rfl⟩:=Gv (show 0<=x by omega);exact ⟨.look g,rfl,by show 1<=g/\g<=m;omega⟩
  | []=>cases h
  | _ :: _ :: _ :: _=>cases h
 | _=>cases h
theorem xZ (h:rl m d=true):∃ r:Lv,d=r.d/\Fit m r:=by
 cases d with
 | tup ds=>
  match ds with
  | [b,hd]=>
   have h:(E1 m b&&(E1 m hd&&((els b).all (N7 m)&&bt m (els hd))))=true:=h;simp only [Ep] at h;obtain ⟨h2,h3,h4,h5⟩:=h;obtain ⟨bs,rfl,lb⟩:=Q8 h2;obtain ⟨hs,rfl,lh⟩:=Q8 h3;obtain ⟨os,rfl,ho⟩:=pY (λd=>Ae) h4;have h5:(List.range hs.length).all (λi=>hdB m i (hs.getD i .non))=true:=h5;obtain ⟨as,rfl,ha⟩:=rA (λi d e=>by
    have hi:=(Eo.mp e).1;have:=Fi.mp h5 i (Fq.mpr hi);rw [Fc,e] at this;exact DD this)
   rw [En] at lb lh;exact ⟨⟨os,as⟩,rfl,lb,lh,λg hg=>ho _ hg g rfl,ha⟩
  | []=>cases h
  | [_]=>cases h
  | _ :: _ :: _ :: _=>cases h
 | _=>cases h
theorem Az {o:Option Nat} (h:∀ g,o=some g->1<=g/\g<=m):N7 m (bxD o)=true:=by
 cases o with
 | none=>rfl
 | some g=>
  have:=h g rfl;exact rE this.1 this.2
theorem Cb (h:okH m i a):hdB m i a.d=true:=by
 cases a with
 | out=>kernel_rfl
 | look l=>
  have h:=h;show (if inW ["holds"] (.str "look")=true then vwB m i (.int (l:Int)) else if inW ["put"] (.str "look")=true then whB 1 ((m:Int)-1) (.int (l:Int)) else inW ["look"] (.str "look")&&whB 1 m (.int (l:Int)))=true;rw [if_neg (by decide +kernel),if_neg (by decide +kernel),show whB 1 m (.int (l:Int))=true from rE h.1 h.2];kernel_rfl
 | put l=>
  have h:1<=l/\l+1<=m:=h;show (if inW ["holds"] (.str "put")=true then vwB m i (.int (l:Int)) else if inW ["put"] (.str "put")=true then whB 1 ((m:Int)-1) (.int (l:Int)) else inW ["look"] (.str "put")&&whB 1 m (.int (l:Int)))=true;rw [if_neg (by decide +kernel),if_pos (by decide +kernel)];show (decide ((1:Int)<=(l:Int))&&decide ((l:Int)<=(m:Int)-1))=true;rw [Fa (by omega),Fa (by omega)];rfl
 | holds v=>
  obtain ⟨h1,h2,h3⟩:=h;show (if inW ["holds"] (.str "holds")=true then vwB m i (.tup (v.map nD)) else if inW ["put"] (.str "holds")=true then whB 1 ((m:Int)-1) (.tup (v.map nD)) else inW ["look"] (.str "holds")&&whB 1 m (.tup (v.map nD)))=true;rw [if_pos (by decide +kernel)];have e:(v.map nD).map k9=v.map λ(n:Nat)=>(n:Int):=by rw [GA];rfl
  show (((v.map nD).all (whB 0 ((m:Int)-1))&&decide ((v.map nD).map k9=srt (A2 ((v.map nD).map k9))))&&decide ((i:Int)∈(v.map nD).map k9))=true;rw [e];have a:(v.map nD).all (whB 0 ((m:Int)-1))=true:=by
   rw [Fi];intro x hx;obtain ⟨y,hy,rfl⟩:=FX.mp hx;have:=h1 y hy;show (decide ((0:Int)<=(y:Int))&&decide ((y:Int)<=(m:Int)-1))=true;rw [Fa (by omega),Fa (by omega)];rfl
  rw [a,Fa (rises_iff.mpr (by rw [Ib];exact h2.imp λq=>by omega)),Fa (FX.mpr ⟨i,h3,rfl⟩)];rfl
theorem Fit.lev (F:Fit m r):rl m r.d=true:=by
 show (E1 m (.tup (r.bx.map bxD))&&(E1 m (.tup (r.hs.map Hd.d))&&((r.bx.map bxD).all (N7 m)&&bt m (r.hs.map Hd.d))))=true;have b:E1 m (.tup (r.bx.map bxD))=true:=Fa (by rw [En];exact F.bl);have c:E1 m (.tup (r.hs.map Hd.d))=true:=Fa (by rw [En];exact F.hl);have d:(r.bx.map bxD).all (N7 m)=true:=by
  rw [Fi];intro x h;obtain ⟨o,f,rfl⟩:=FX.mp h;exact Az λg e=>F.bs g (e▸f)
 have e:bt m (r.hs.map Hd.d)=true:=by
  unfold bt;rw [Fi];intro i a;rw [Fq,En] at a;have q:(r.hs.map Hd.d)[i]?=some r.hs[i].d:=i4 (Em a);rw [Fc,q];exact Cb (F.hd i _ (Em a))
 grind
theorem oi {v:List Nat} {m:Nat} (h:∀ x∈v,x<m) (u:v.Pairwise (· < ·)):v.length<=m:=by
 have:=BQ (u.imp λq=>by omega) λx a=>Fq.mpr (h x a);grind
theorem okH.sm (h:okH m i a) (m6:m<=6):Sml 2 560 a.d:=by
 cases a with
 | out=>exact Sml.w
 | look l=>
  have h:1<=l/\l<=m:=h;exact (Sml.tup (n:=0) (N:=60) (m:=2) (.cons Sml.w (.cons (Sml.nat (by omega)) .nil)) (Es _)).mono (by decide) (by decide)
 | put l=>
  have h:1<=l/\l+1<=m:=h;exact (Sml.tup (n:=0) (N:=60) (m:=2) (.cons Sml.w (.cons (Sml.nat (by omega)) .nil)) (Es _)).mono (by decide) (by decide)
 | holds v=>
  obtain ⟨h1,h2,h3⟩:=h;have l:=oi h1 h2;have s:Sml 1 375 (.tup (v.map nD)):=(Sml.tup (n:=0) (N:=60) (m:=6) (Smls.map λx hx=>Sml.nat (by have:=h1 x hx;omega)) (by rw [En];omega)).mono (by decide) (by decide);refine ⟨⟨(Sml.w (n:=0) (N:=100)).pl,s.pl,trivial⟩,?_,?_⟩
  ·have:=s.dp;show max 0 (max (L3.dp (.tup (v.map nD))) 0)+1<=2;omega
  ·have:=s.sz;show 10 * ("holds" : Str).length+2+2+(L3.sz (.tup (v.map nD))+2+0)+3<=560;rw [show ("holds" : Str).length=5 by decide +kernel];omega
theorem Fit.any (F:Fit m r) (h:m<=6):Any 1 4000 r.d:=by
 have bl:=F.bl;have p:=F.hl;have c:Sml 1 400 (.tup (r.bx.map bxD)):=(Sml.tup (n:=0) (N:=60) (m:=6) (Smls.map λo d=>by
  cases o with
  | none=>exact Sml.non
  | some g=>exact Sml.nat (by have:=F.bs g d;omega)) (by rw [En];omega)).mono (by decide) (by decide)
 have b:Sml 3 3500 (.tup (r.hs.map Hd.d)):=(Sml.tup (m:=6) (Smls.map λa j=>by
  obtain ⟨i,f,e⟩:=Gy j;exact (F.hd i a (by rw [Em f,e])).sm h) (by rw [En];omega)).mono (by decide) (by decide)
 have q:=c.sz;have k:=b.sz;refine ⟨Pln.up _ ⟨c.pl,b.pl,trivial⟩,?_,?_⟩
 ·have s:=c.dp;have l:=b.dp;show max (L3.dp (.tup (r.bx.map bxD))) (max (L3.dp (.tup (r.hs.map Hd.d))) 0)+1<=3+1;omega
 ·show L3.sz (.tup (r.bx.map bxD))+2+(L3.sz (.tup (r.hs.map Hd.d))+2+0)+3<=4000;omega
theorem tU {g:Type} {l:List g} {f:g->D} {ds:List D} {n N:Nat} {p:g->Bool} (s:Smls n N (l.map f)) (i:Sml n N (.tup ds)) (x:n<=42) (o:∀ a∈l,PyData.eqv (py (f a)) (.tuple (pys ds))=p a) (S:Sto):countG (.tup (l.map f)) [.tup ds] S=.ok (.int ((l.countP p:Nat):Int)) S:=by
 have j:=Plns.of λd hd=>(s d hd).pl;have y:=al λd hd=>(s d hd).dp;have t:d9 64 S (.tup (l.map f))=some (.tuple (pys (l.map f))):=A0 S (.tup (l.map f)) 64 j (by show dps (l.map f)+1<64;omega);have v:d9 64 S (.tup ds)=some (.tuple (pys ds)):=A0 S (.tup ds) 64 i.pl (by have:=i.dp;omega);have hd:=E3 (.tup ds);have A:=i.dp;show (match d9 64 S (.tup (l.map f)),d9 64 S (.tup ds) with
  | some (.tuple ps),some q=>(if q.canLay0=true/\PyData.canLayAll0 ps=true/\min (PyData.depthAll ps) q.depth<=60 then ret (D.int ((ps.countP λz=>PyData.eqv z q:Nat):Int)) else bad) S
  | _,_=>.bad)=_
 rw [t,v];have u:=(L6 (.tup (l.map f)) j);have r:PyData.depth (.tuple (pys ds))<=60:=by
  have:=hd;have e:py (.tup ds)=.tuple (pys ds):=rfl;rw [e] at this;omega
 have c:PyData.canLay0 (.tuple (pys ds))=true/\PyData.canLayAll0 (pys (l.map f))=true/\min (PyData.depthAll (pys (l.map f))) (PyData.depth (.tuple (pys ds)))<=60:=⟨L6 (.tup ds) i.pl,u,by omega⟩;simp only [if_pos c];have k:∀ l:List g,(∀ a∈l,PyData.eqv (py (f a)) (.tuple (pys ds))=p a)->(pys (l.map f)).countP (λz=>PyData.eqv z (.tuple (pys ds)))=l.countP p:=λl=>by
  induction l with
  | nil=>intro _;rfl
  | cons a l m=>
   intro h;show (py (f a) :: pys (l.map f)).countP _=_;rw [Hu,Hu,m λb w=>h b (Fg _ w),h a (Fe ..)]
 rw [k l o];rfl
def u9 (l:Nat):Hd->Bool
 | .put e=>decide (e=l)
 | _=>false
theorem kF (l:Nat) (a:Hd):PyData.eqv (py a.d) (.tuple (pys [.str "put",.int (l:Int)]))=u9 l a:=by
 cases a with
 | out=>kernel_rfl
 | look e=>kernel_rfl
 | put e=>
  have g:PyData.eqv (py (Hd.put e).d) (.tuple (pys [.str "put",.int (l:Int)]))=(((e:Int)==(l:Int))&&true):=by kernel_rfl
  rw [g,Im];show _=decide (e=l);by_cases q:e=l
  ·subst q;simp
  ·grind
 | holds v=>kernel_rfl
def q9 (r:Lv) (i:Nat):Option (Str×Nat):=if r.bx[i]?=(r.hs[i]?).map boxOf then none else some ("box",i)
def t7 (r:Lv) (i:Nat):Option (Str×Nat):=if i+1<(ups r.bx (i+1)).length+r.hs.countP (u9 (i+1)) then some ("many",i+1) else none
def v4 (r:Lv) (i:Nat):Option (Str×Nat):=match r.hs[i]? with
 | some (.holds v)=>if v=ups r.bx v.length then none else some ("view",i)
 | _=>none
def bp (m:Nat) (r:Lv):Option (Str×Nat):=match (List.range m).findSome? (q9 r) with
 | some x=>some x
 | none=>match (List.range m).findSome? (t7 r) with
  | some x=>some x
  | none=>(List.range m).findSome? (v4 r)
def exN (x:Str×Nat):O:=.exc 3 [("word",.str x.1),("at",.int (x.2:Int))]
def Rz (S:Sto) (x:Str×Nat) (n:Nat) (S':Sto):Prop:=n=S.length/\S'=S++[exN x]
theorem iN (o p:Option Nat) (S:Sto):a9 .NotEq (bxD o) (bxD p) S=.ok (.bl (decide (o≠p))) S:=by
 cases o with
 | none=>cases p <;> rfl
 | some g=>
  cases p with
  | none=>rfl
  | some h=>
   show R.ok (D.bl (!decide ((g:Int)=(h:Int)))) S=_;congr 2;by_cases q:g=h
   ·subst q;simp
   ·grind
theorem si {n:Nat} {S:Sto} (b:n<100) (a:B4 S (.str w)=true):([.str w,.int (n:Int)]:List D).all (B4 S)=true:=by
 simp only [FV,List.all_nil,Im,a,Bool.true_and];exact yu ⟨by omega,by omega⟩
theorem X5 (v:List Nat) (S:Sto):p8 (.tup (v.map nD)) S=.ok (.int (v.length:Int)) S:=(U4 _ S).trans (by rw [En])
theorem wb (a:Hd) (k:Nat) (S:Sto):rn (k+1) zm [a.d] S=.ok (bxD (boxOf a)) S:=by
 refine j5 ?_;rw [rn,b9 rfl,uW];cases a with
 | out=>exact ⟨_,_,rfl,rfl,rfl⟩
 | look l=>exact ⟨_,_,rfl,rfl,rfl⟩
 | put l=>exact Ok.eq rfl<|Ok.eq rfl<|Ok.eq rfl<|Ok.neg (by decide)<|Ok.eq rfl<|Ok.eq rfl<|Ok.eq rfl<|Ok.neg (by decide)<|Ok.eq rfl<|Ok.eq rfl<|Ok.eq rfl<|Ok.pos rfl<|Ok.eq rfl<|Ok.eq (m7 l 1 S)<|Ok.ret ⟨rfl,rfl⟩
 | holds v=>exact Ok.eq rfl<|Ok.eq rfl<|Ok.eq rfl<|Ok.neg (by decide)<|Ok.eq rfl<|Ok.eq rfl<|Ok.eq rfl<|Ok.neg (by decide)<|Ok.eq rfl<|Ok.eq rfl<|Ok.eq rfl<|Ok.neg (by decide)<|Ok.eq rfl<|Ok.eq (X5 v S)<|Ok.ret ⟨rfl,rfl⟩
theorem R6 (l:List Nat):l.map nD=(l.map λ(n:Nat)=>(n:Int)).map D.int:=by rw [GA];rfl
theorem uK {a b:List Nat}:(a.map λ(n:Nat)=>(n:Int))=(b.map λ(n:Nat)=>(n:Int))↔a=b:=by
 constructor
 ·intro e;exact (List.map_inj_right (λx y h=>by omega)).mp e
 ·intro e;rw [e]
theorem xN (v w:List Nat) (S:Sto):a9 .NotEq (.tup (v.map nD)) (.tup (w.map nD)) S=.ok (.bl (!decide (v=w))) S:=by
 rw [R6,R6,Bd];congr 3;exact decide_eq_decide.mpr uK
def eJ (m:Nat) (r:Lv) (b a c:Option D):L3.Env:=[some (.int (m:Int)),some r.d,some (.tup (r.bx.map bxD)),some (.tup (r.hs.map Hd.d)),b,a,c]
def En7 (m:Nat) (r:Lv) (ρ:L3.Env):Prop:=∃ b a c,ρ=eJ m r b a c
theorem nl {l:List Hd} (S:Sto) {m:Nat} (h:l.length=m):A3 (l.map Hd.d) m S=some none:=by
 have e:(l.map Hd.d)[m]?=none:=FO (by simp;omega);simp only [A3,e,En,h,JI]
theorem wX {l:List Hd} {i:Nat} {a:Hd} (h:l[i]?=some a) (S:Sto):A3 (l.map Hd.d) i S=some (some (.tup [.int (i:Int),a.d])):=by
 have e:(l.map Hd.d)[i]?=some a.d:=i4 h;simp only [A3,e]
theorem eN {n i:Nat} (h:i<n) (S:Sto):D5 1 n i S=some (some (.int ((i+1:Nat):Int))):=by
 rw [show i+1=1+i by omega];exact jo h S
section
variable {m:Nat} {r:Lv} (F:Fit m r) (m6:m<=6) (k:Nat) (S:Sto)
include F m6
theorem sr7:j4 [.int 1,.int ((m+1:Nat):Int)] S=.ok (D5 1 m,m+1) S:=kH (by omega) (by omega) S
theorem tO (l:Nat) (d:l<=6):countG (.tup (r.hs.map Hd.d)) [.tup [.str "put",.int (l:Int)]] S=.ok (.int ((r.hs.countP (u9 l):Nat):Int)) S:=by
 refine tU (n:=2) (N:=560) (Smls.map λa c=>?_) ?_ (by omega) (λa _=>kF l a) S
 ·obtain ⟨i,b,e⟩:=Gy c;exact (F.hd i a (by rw [Em b,e])).sm m6
 ·exact (Sml.tup (n:=0) (N:=60) (m:=2) (.cons Sml.w (.cons (Sml.nat (by omega)) .nil)) (Es _)).mono (by decide) (by decide)
theorem kQ {ρ:L3.Env} (h:En7 m r ρ):((List.range m).findSome? (q9 r)=none->Ok (h8 (A3 (r.hs.map Hd.d)) (u8 [4,5]) (S9 (rn (k+5))) (m+1) 0 ρ) S λfl S'=>∃ ρ',fl=.nx ρ'/\En7 m r ρ'/\S'=S)/\∀ x,(List.range m).findSome? (q9 r)=some x->Xn (h8 (A3 (r.hs.map Hd.d)) (u8 [4,5]) (S9 (rn (k+5))) (m+1) 0 ρ) S (Rz S x):=by
 refine chk (E:=En7 m r) (nl S F.hl) (λi hi=>?_) h;obtain ⟨a,ha⟩:∃ a,r.hs[i]?=some a:=⟨_,Em (by rw [F.hl];exact hi)⟩;obtain ⟨o,ho⟩:∃ o,r.bx[i]?=some o:=⟨_,Em (by rw [F.bl];exact hi)⟩;refine ⟨_,wX ha S,?_⟩;rintro _ ⟨o4,o5,o6,rfl⟩;refine ⟨eJ m r (some (.int (i:Int))) (some a.d) o6,rfl,λe=>?_,λx e=>?_⟩
 ·unfold S9;rw [bA];unfold q9 at e;rw [ho,ha] at e;have q:o=boxOf a:=by
   by_cases z:o=boxOf a
   ·exact z
   ·rw [if_neg (λw=>z (by simpa using w))] at e;cases e
  refine Ok.first<|Ok.cg (fS ..)<|Ok.eq (j9 S (i4 ho))<|Ok.eq (wb a (k+4) S)<|Ok.eq (iN o (boxOf a) S)<|Ok.eq (c9 _ S)<|Ok.neg (by simp [q])<|Ok.ret ⟨⟨_,rfl,_,_,_,rfl⟩,rfl⟩
 ·unfold S9;rw [bA];unfold q9 at e;rw [ho,ha] at e;have q:o≠boxOf a:=λz=>by rw [if_pos (by rw [z];rfl)] at e;cases e
  rw [if_neg (λw=>q (by simpa using w))] at e;cases e;exact Xn.first<|Xn.cg (fS ..)<|Xn.eq (j9 S (i4 ho))<|Xn.eq (wb a (k+4) S)<|Xn.eq (iN o (boxOf a) S)<|Xn.eq (c9 _ S)<|Xn.pos (Fa q)<|raise_k rfl (si (by omega) (by kernel_rfl))
theorem pG (h:En7 m r ρ):((List.range m).findSome? (t7 r)=none->Ok (h8 (D5 1 m) (λd ρ=>some (ρ.set 6 (some d))) (U2 (rn (k+5))) (m+1) 0 ρ) S λf S'=>∃ a,f=.nx a/\En7 m r a/\S'=S)/\∀ x,(List.range m).findSome? (t7 r)=some x->Xn (h8 (D5 1 m) (λd ρ=>some (ρ.set 6 (some d))) (U2 (rn (k+5))) (m+1) 0 ρ) S (Rz S x):=by
 refine chk (bB m S) (λi j=>⟨_,eN j S,?_⟩) h;rintro _ ⟨b,g,l,rfl⟩;have u:rn (k+5) kL [.tup (r.bx.map bxD),.int ((i+1:Nat):Int)] S=.ok (.tup ((ups r.bx (i+1)).map nD)) S:=j5 (qL (by have:=F.bl;omega));have c:=tO F m6 S (i+1) (by omega);have t:tupOf (.tup (r.hs.map Hd.d)) S=.ok (r.hs.map Hd.d) S:=rfl;refine ⟨eJ m r b g (some (.int ((i+1:Nat):Int))),rfl,λe=>?_,λx e=>?_⟩
 ·unfold U2;rw [bb];unfold t7 at e;have q:¬ i+1<(ups r.bx (i+1)).length+r.hs.countP (u9 (i+1)):=λz=>by rw [if_pos z] at e;cases e
  exact Ok.first<|Ok.cg (fC ..)<|Ok.eq u<|Ok.eq (X5 _ S)<|Ok.eq t<|Ok.eq c<|Ok.eq (m7 _ _ S)<|Ok.eq (cb _ _ S)<|Ok.eq (c9 _ S)<|Ok.neg (by rw [Fv (by omega)];decide)<|Ok.ret ⟨⟨_,rfl,_,_,_,rfl⟩,rfl⟩
 ·unfold U2;rw [bb];unfold t7 at e;by_cases q:i+1<(ups r.bx (i+1)).length+r.hs.countP (u9 (i+1))
  ·rw [if_pos q] at e;cases e;exact Xn.first<|Xn.cg (fC ..)<|Xn.eq u<|Xn.eq (X5 _ S)<|Xn.eq t<|Xn.eq c<|Xn.eq (m7 _ _ S)<|Xn.eq (cb _ _ S)<|Xn.eq (c9 _ S)<|Xn.pos (by rw [Fa (by omega)])<|raise_k rfl (si (by omega) (by kernel_rfl))
  ·grind
theorem wJ (h:En7 m r ρ):((List.range m).findSome? (v4 r)=none->Ok (h8 (A3 (r.hs.map Hd.d)) (u8 [4,5]) (R7 (rn (k+5))) (m+1) 0 ρ) S λfl S'=>∃ ρ',fl=.nx ρ'/\En7 m r ρ'/\S'=S)/\∀ x,(List.range m).findSome? (v4 r)=some x->Xn (h8 (A3 (r.hs.map Hd.d)) (u8 [4,5]) (R7 (rn (k+5))) (m+1) 0 ρ) S (Rz S x):=by
 refine chk (nl S F.hl) (λi hi=>?_) h;obtain ⟨a,ha⟩:∃ a,r.hs[i]?=some a:=⟨_,Em (by rw [F.hl];exact hi)⟩;refine ⟨_,wX ha S,?_⟩;rintro _ ⟨o4,o5,o6,rfl⟩;refine ⟨eJ m r (some (.int (i:Int))) (some a.d) o6,rfl,λe=>?_,λx e=>?_⟩
 ·unfold R7;rw [bF];unfold v4 at e;rw [ha] at e;refine Ok.first<|Ok.cg (fK ..) ?_;cases a with
  | holds v=>
   have e:=e;have q:v=ups r.bx v.length:=by
    by_cases z:v=ups r.bx v.length
    ·exact z
    ·grind
   have u:rn (k+5) kL [.tup (r.bx.map bxD),.int (v.length:Int)] S=.ok (.tup ((ups r.bx v.length).map nD)) S:=j5 (qL (by have:=F.bl;omega));exact Ok.eq rfl<|Ok.eq rfl<|Ok.eq rfl<|Ok.pos rfl<|Ok.eq rfl<|Ok.eq rfl<|Ok.eq (X5 v S)<|Ok.eq u<|Ok.eq (xN _ _ S)<|Ok.eq (c9 _ S)<|Ok.neg (by rw [Fa q];decide)<|Ok.ret ⟨⟨_,rfl,_,_,_,rfl⟩,rfl⟩
  | out=>exact Ok.eq rfl<|Ok.eq rfl<|Ok.eq rfl<|Ok.neg (by decide)<|Ok.ret ⟨⟨_,rfl,_,_,_,rfl⟩,rfl⟩
  | look l=>exact Ok.eq rfl<|Ok.eq rfl<|Ok.eq rfl<|Ok.neg (by decide)<|Ok.ret ⟨⟨_,rfl,_,_,_,rfl⟩,rfl⟩
  | put l=>exact Ok.eq rfl<|Ok.eq rfl<|Ok.eq rfl<|Ok.neg (by decide)<|Ok.ret ⟨⟨_,rfl,_,_,_,rfl⟩,rfl⟩
 ·unfold R7;rw [bF];unfold v4 at e;rw [ha] at e;cases a with
  | holds v=>
   have e:(if v=ups r.bx v.length then none else some (("view" : Str),i))=some x:=e;have q:v≠ups r.bx v.length:=λz=>by rw [if_pos z] at e;cases e
   rw [if_neg q] at e;cases e;have u:rn (k+5) kL [.tup (r.bx.map bxD),.int (v.length:Int)] S=.ok (.tup ((ups r.bx v.length).map nD)) S:=j5 (qL (by have:=F.bl;omega));exact Xn.first<|Xn.cg (fK ..)<|Xn.eq rfl<|Xn.eq rfl<|Xn.eq rfl<|Xn.pos rfl<|Xn.eq rfl<|Xn.eq rfl<|Xn.eq (X5 v S)<|Xn.eq u<|Xn.eq (xN _ _ S)<|Xn.eq (c9 _ S)<|Xn.pos (by rw [Fv q];rfl)<|raise_k rfl (si (by omega) (by kernel_rfl))
  | _=>cases e
theorem ap:(bp m r=none->rn (k+6) jY [.int (m:Int),r.d] S=.ok (.bl true) S)/\∀ x,bp m r=some x->Xn (rn (k+6) jY [.int (m:Int),r.d]) S (Rz S x):=by
 have st:=ig (by omega) (by omega) m6 k S (F.any m6);rw [F.lev] at st;have f:Y6 (u8 [2,3]) r.d [some (.int (m:Int)),some r.d,none,none,none,none,none] S=.ok (.nx (eJ m r none none none)) S:=rfl;have es:Y1 (.tup (r.hs.map Hd.d)) S=.ok (A3 (r.hs.map Hd.d),m+1) S:=by
  show R.ok (A3 (r.hs.map Hd.d),(r.hs.map Hd.d).length+1) S=_;rw [En,F.hl]
 unfold bp;cases e:(List.range m).findSome? (q9 r) with
 | some x=>
  refine ⟨λz=>(by cases z),λy a=>?_⟩;cases a;rw [rn,b9 rfl,aw,bK];refine Xn.first<|Xn.cg (oh ..)<|Xn.eq st<|Xn.eq rfl<|Xn.neg (by decide)<|Xn.nxt<|Xn.cg (vG ..)<|Xn.eq f<|Xn.nxt<|Xn.cg (sG ..)<|Xn.eq es<|Xn.bind ?_;exact (kQ F m6 k S ⟨_,_,_,rfl⟩).2 _ e
 | none=>
 cases g:(List.range m).findSome? (t7 r) with
 | some x=>
  refine ⟨λz=>(by cases z),λy a=>?_⟩;cases a;rw [rn,b9 rfl,aw,bK];refine Xn.first<|Xn.cg (oh ..)<|Xn.eq st<|Xn.eq rfl<|Xn.neg (by decide)<|Xn.nxt<|Xn.cg (vG ..)<|Xn.eq f<|Xn.nxt<|Xn.cg (sG ..)<|Xn.eq es<|Xn.ok (((kQ F m6 k S ⟨_,_,_,rfl⟩).1 e).mono ?_);rintro _ S' ⟨_,rfl,⟨c,b,d,rfl⟩,rfl⟩;refine Xn.nxt<|Xn.cg (zY ..)<|Xn.eq (m7 m 1 _)<|Xn.eq (sr7 F m6 _)<|Xn.bind ?_;exact (pG F m6 k _ ⟨_,_,_,rfl⟩).2 _ g
 | none=>
 cases h:(List.range m).findSome? (v4 r) with
 | some x=>
  refine ⟨λz=>(by cases z),λy a=>?_⟩;cases a;rw [rn,b9 rfl,aw,bK];refine Xn.first<|Xn.cg (oh ..)<|Xn.eq st<|Xn.eq rfl<|Xn.neg (by decide)<|Xn.nxt<|Xn.cg (vG ..)<|Xn.eq f<|Xn.nxt<|Xn.cg (sG ..)<|Xn.eq es<|Xn.ok (((kQ F m6 k S ⟨_,_,_,rfl⟩).1 e).mono ?_);rintro _ S' ⟨_,rfl,⟨c,b,d,rfl⟩,rfl⟩;refine Xn.nxt<|Xn.cg (zY ..)<|Xn.eq (m7 m 1 _)<|Xn.eq (sr7 F m6 _)<|Xn.ok (((pG F m6 k _ ⟨_,_,_,rfl⟩).1 g).mono ?_);rintro _ S' ⟨_,rfl,⟨c,b,d,rfl⟩,rfl⟩;refine Xn.nxt<|Xn.cg (AV ..)<|Xn.eq es<|Xn.bind ?_;exact (wJ F m6 k _ ⟨_,_,_,rfl⟩).2 _ h
 | none=>
  refine ⟨λ_=>j5 ?_,λy a=>by cases a⟩;rw [rn,b9 rfl,aw,bK];refine Ok.first<|Ok.cg (oh ..)<|Ok.eq st<|Ok.eq rfl<|Ok.neg (by decide)<|Ok.nxt<|Ok.cg (vG ..)<|Ok.eq f<|Ok.nxt<|Ok.cg (sG ..)<|Ok.eq es<|Ok.bind (((kQ F m6 k S ⟨_,_,_,rfl⟩).1 e).mono ?_);rintro _ S' ⟨_,rfl,⟨c,b,d,rfl⟩,rfl⟩;refine Ok.nxt<|Ok.cg (zY ..)<|Ok.eq (m7 m 1 _)<|Ok.eq (sr7 F m6 _)<|Ok.bind (((pG F m6 k _ ⟨_,_,_,rfl⟩).1 g).mono ?_);rintro _ S' ⟨_,rfl,⟨c,b,d,rfl⟩,rfl⟩;refine Ok.nxt<|Ok.cg (AV ..)<|Ok.eq es<|Ok.bind (((wJ F m6 k _ ⟨_,_,_,rfl⟩).1 h).mono ?_);rintro _ S' ⟨_,rfl,⟨c,b,d,rfl⟩,rfl⟩;exact Ok.nxt<|Ok.cg (EQ ..)<|Ok.ret ⟨rfl,rfl⟩
end
def L7:Option (Str×Nat)->D
 | none=>.str "let by"
 | some x=>.tup [.str "stand",.str x.1,.int (x.2:Int)]
theorem yk (a:Hd) (k:Nat) (S:Sto):rn (k+1) zR [a.d] S=.ok (bxD (boxOf a)) S:=by
 refine j5 ?_;rw [rn,b9 rfl,sd];have i:∀ (w:Str) (b:Bool),a9 .In (.str w) (.tup [.str "look",.str "put"]) S=.ok (.bl b) S->a9 .In (.str w) (.tup [.str "look",.str "put"]) S=.ok (.bl b) S:=λ_ _ h=>h;cases a with
 | out=>exact Ok.eq rfl<|Ok.eq (i "out" false (by kernel_rfl))<|Ok.eq rfl<|Ok.neg (by decide)<|Ok.eq rfl<|Ok.eq rfl<|Ok.eq rfl<|Ok.pos rfl<|Ok.ret ⟨rfl,rfl⟩
 | look l=>exact Ok.eq rfl<|Ok.eq (i "look" true (by kernel_rfl))<|Ok.eq rfl<|Ok.pos rfl<|Ok.eq rfl<|Ok.eq rfl<|Ok.eq rfl<|Ok.eq rfl<|Ok.eq (m7 l 0 S)<|Ok.ret ⟨rfl,rfl⟩
 | put l=>exact Ok.eq rfl<|Ok.eq (i "put" true (by kernel_rfl))<|Ok.eq rfl<|Ok.pos rfl<|Ok.eq rfl<|Ok.eq rfl<|Ok.eq rfl<|Ok.eq rfl<|Ok.eq (m7 l 1 S)<|Ok.ret ⟨rfl,rfl⟩
 | holds v=>exact Ok.eq rfl<|Ok.eq (i "holds" false (by kernel_rfl))<|Ok.eq rfl<|Ok.neg (by decide)<|Ok.eq rfl<|Ok.eq rfl<|Ok.eq rfl<|Ok.neg (by decide)<|Ok.eq rfl<|Ok.eq (X5 v S)<|Ok.ret ⟨rfl,rfl⟩
theorem xK (h:okH m i a) (b:m<=6) {l:Nat} (c:l<=7) (S:Sto):a9 .Eq a.d (.tup [.str "put",.int (l:Int)]) S=.ok (.bl (u9 l a)) S:=by
 have s:Sml 2 560 (.tup [.str "put",.int (l:Int)]):=(Sml.tup (n:=0) (N:=60) (m:=2) (.cons Sml.w (.cons (Sml.nat (by omega)) .nil)) (Es _)).mono (by decide) (by decide);have e:=R0 ((h.sm b).any (by omega)) (by omega) s.pl (by have:=s.dp;omega) false S;have g:PyData.eqv (py a.d) (py (.tup [.str "put",.int (l:Int)]))=u9 l a:=kF l a;rw [g] at e;cases a <;> exact e
def aU (r:Lv) (l:Nat):List Nat:=(List.range r.hs.length).filter λj=>u9 l (hat r.hs j)
theorem jq (hs:List Hd):(List.range hs.length).map (hat hs)=hs:=by
 refine Ik (by simp) λi b a=>?_;rw [List.getElem_map,List.getElem_range];exact dS (Em a)
theorem rQ (r:Lv) (l:Nat):(aU r l).length=r.hs.countP (u9 l):=by
 unfold aU;rw [<- Hf]
 conv=>rhs;rw [<- jq r.hs,Jy]
 rfl
theorem tQ (ok:∀ i,i<r.hs.length->r.bx[i]?=(r.hs[i]?).map boxOf) (l:Nat):(ups r.bx l++aU r l).Nodup:=by
 rw [HY];refine ⟨List.Nodup.sublist IE List.nodup_range,List.Nodup.sublist IE List.nodup_range,λx hx y hy e=>?_⟩;subst e;obtain ⟨a1,a2⟩:=Go.mp hx;obtain ⟨b1,b2⟩:=Go.mp hy;have hl:=Fq.mp b1;have e:=ok x hl;rw [V0 hl] at e;unfold upB at a2;rw [e] at a2;cases q:hat r.hs x with
 | put z=>
  rw [q] at a2 b2;have b2:decide (z=l)=true:=b2;have a2:decide (z+1<=l)=true:=a2;rw [Fh] at a2 b2;omega
 | _=>rw [q] at b2;cases b2
theorem pF {ns:List Int} (h:ns.length<4000) (a:ns.Nodup) (S:Sto):G5 (.tup (ns.map D.int)) S=.ok (.int (ns.length:Int)) S:=by
 have:=rM h a S;exact this
theorem rh (e:q9 r i=none):r.bx[i]?=(r.hs[i]?).map boxOf:=by
 unfold q9 at e;grind
theorem kl {a:Type} {f:Nat->Option a} {n:Nat} (h:(List.range n).findSome? f=none):∀ i,i<n->f i=none:=by grind
section
variable {m:Nat} {r:Lv} (F:Fit m r) (m6:m<=6) (k:Nat) (S:Sto)
include F m6
theorem wD (l:Nat):rn (k+1) rG [.tup (r.bx.map bxD),.int (l:Int)] S=.ok (.tup ((ups r.bx l).map nD)) S:=j5 (jL (by have:=F.bl;omega))
theorem l2 {ρ:L3.Env} (h:En7 m r ρ):Ok (h8 (D5 0 m) (λd ρ=>some (ρ.set 4 (some d))) (bY (rn (k+3))) (m+1) 0 ρ) S λfl S'=>S'=S/\Ans (λx=>L7 (some x)) (En7 m r) ((List.range m).findSome? (q9 r)) fl:=by
 refine zg (g:=λx=>L7 (some x)) (E:=En7 m r) (t0 m S) (λi hi=>⟨_,y4 hi S,?_⟩) h;rintro _ ⟨o4,o5,o6,rfl⟩;obtain ⟨a,ha⟩:∃ a,r.hs[i]?=some a:=⟨_,Em (by rw [F.hl];exact hi)⟩;obtain ⟨o,ho⟩:∃ o,r.bx[i]?=some o:=⟨_,Em (by rw [F.bl];exact hi)⟩;refine ⟨eJ m r (some (.int (i:Int))) o5 o6,rfl,?_⟩;unfold bY;rw [eM];refine Ok.first<|Ok.cg (mU ..)<|Ok.eq (j9 S (i4 ho))<|Ok.eq (j9 S (i4 ha))<|Ok.eq (yk a (k+2) S)<|Ok.eq (iN o (boxOf a) S)<|Ok.eq (c9 _ S) ?_;have bd:q9 r i=if o=boxOf a then none else some (("box" : Str),i):=by
  unfold q9;rw [ho,ha];by_cases z:o=boxOf a
  ·rw [if_pos z,if_pos (by rw [z];rfl)]
  ·rw [if_neg z,if_neg (λw=>z (by simpa using w))]
 rw [bd];by_cases q:o=boxOf a
 ·rw [if_pos q];exact Ok.neg (by simp [q])<|Ok.ret ⟨rfl,_,rfl,_,_,_,rfl⟩
 ·rw [if_neg q];exact Ok.pos (Fa q)<|Ok.ret ⟨rfl,rfl⟩
theorem l3 (ok:(List.range m).findSome? (q9 r)=none) {ρ:L3.Env} (h:En7 m r ρ):Ok (h8 (D5 1 m) (λd ρ=>some (ρ.set 5 (some d))) (bO (rn (k+3))) (m+1) 0 ρ) S λfl S'=>S'=S/\Ans (λx=>L7 (some x)) (En7 m r) ((List.range m).findSome? (t7 r)) fl:=by
 have hl:=F.hl;have okb:∀ i,i<r.hs.length->r.bx[i]?=(r.hs[i]?).map boxOf:=λi hi=>rh (kl ok i (by omega));refine zg (g:=λx=>L7 (some x)) (E:=En7 m r) (bB m S) (λi hi=>⟨_,eN hi S,?_⟩) h;rintro _ ⟨o4,o5,o6,rfl⟩;refine ⟨eJ m r o4 (some (.int ((i+1:Nat):Int))) o6,rfl,?_⟩;have nd:=tQ okb (i+1);have pl:=rQ r (i+1);have c:=u4 (src:=D5 0 m) (l:=List.range m) (h:=λ(i:Nat)=>D.int (i:Int)) (g:=nD) (p:=λj=>u9 (i+1) (hat r.hs j)) (t:=λd2=>bind (ixD (.tup (r.hs.map Hd.d)) d2) λx4=>bind (a9 .Eq x4 (.tup [(.str "put"),.int ((i+1:Nat):Int)])) λx5=>bind (asB x5) λz6=>ret z6) (f:=λd2=>ret d2) (S:=S) (λi=>V6 m i S) (by rw [Fu];exact dh m6) (λj hj=>by
  have hj:j<r.hs.length:=by rw [hl];exact Fq.mp hj
  rw [a7 (j9 S (i4 (V0 hj))),a7 (xK (F.hd j _ (V0 hj)) m6 (by omega) S)];rfl) (λ_ _ _=>rfl)
 rw [Fu,show ((List.range m).filter λj=>u9 (i+1) (hat r.hs j))=aU r (i+1) by unfold aU;rw [hl]] at c;have lu:(ups r.bx (i+1)).length<=6:=(nJ (bx:=r.bx) (l:=i+1) (by have:=F.bl;omega)).1;have lp:(aU r (i+1)).length<=6:=by
  have:=Gr (λj=>u9 (i+1) (hat r.hs j)) (List.range r.hs.length);rw [Fu] at this;unfold aU;omega
 have ad:i7 (.tup ((ups r.bx (i+1)).map nD)) (.tup ((aU r (i+1)).map nD)) S=.ok (.tup ((ups r.bx (i+1)++aU r (i+1)).map nD)) S:=by
  rw [cat_tup (by rw [En,En,Fp];omega),<- Gd]
 have ls:G5 (.tup ((ups r.bx (i+1)++aU r (i+1)).map nD)) S=.ok (.int (((ups r.bx (i+1)).length+r.hs.countP (u9 (i+1)):Nat):Int)) S:=by
  rw [R6,pF (by rw [En,FN];omega) ?_ S]
  ·rw [En,FN,pl]
  ·refine (Ib).mpr (nd.imp λq=>by omega)
 unfold bO;rw [fh];refine Ok.first<|Ok.cg (kt ..)<|Ok.eq (wD F m6 (k+2) S (i+1))<|nx_bind<|Ok.eq (p6 (by omega) S)<|Ok.of c<|Ok.eq (a:=.tup ((aU r (i+1)).map nD)) (S1:=S) rfl<|Ok.eq ad ?_;refine Ok.nxt<|Ok.cg (lN ..)<|Ok.eq ls<|Ok.eq (cb _ _ S)<|Ok.eq (c9 _ S) ?_;unfold t7;by_cases q:i+1<(ups r.bx (i+1)).length+r.hs.countP (u9 (i+1))
 ·rw [if_pos q];exact Ok.pos (by rw [Fa (by omega)])<|Ok.ret ⟨rfl,rfl⟩
 ·rw [if_neg q];exact Ok.neg (by rw [Fv (by omega)];decide)<|Ok.ret ⟨rfl,_,rfl,_,_,_,rfl⟩
theorem l4 (h:En7 m r ρ):Ok (h8 (D5 0 m) (λd ρ=>some (ρ.set 4 (some d))) (bM (rn (k+3))) (m+1) 0 ρ) S λfl S'=>S'=S/\Ans (λx=>L7 (some x)) (En7 m r) ((List.range m).findSome? (v4 r)) fl:=by
 refine zg (t0 m S) (λi hi=>⟨_,y4 hi S,?_⟩) h;rintro _ ⟨o4,o5,o6,rfl⟩;obtain ⟨a,ha⟩:∃ a,r.hs[i]?=some a:=⟨_,Em (by rw [F.hl];exact hi)⟩;refine ⟨eJ m r (some (.int (i:Int))) o5 o6,rfl,?_⟩;unfold bM v4;rw [fJ,ha];have ix:ixD (.tup (r.hs.map Hd.d)) (.int (i:Int)) S=.ok a.d S:=j9 S (i4 ha);refine Ok.first<|Ok.cg (km ..)<|Ok.eq ix ?_;cases a with
 | holds v=>
  refine Ok.eq rfl<|Ok.eq rfl<|Ok.eq rfl<|Ok.pos rfl<|Ok.eq ix<|Ok.eq rfl<|Ok.eq ix<|Ok.eq rfl<|Ok.eq (X5 v S)<|Ok.eq (wD F m6 (k+2) S v.length)<|Ok.eq (xN _ _ S)<|Ok.eq (c9 _ S) ?_;show Ok _ _ λfl S'=>S'=S/\Ans (λx=>L7 (some x)) (En7 m r) (if v=ups r.bx v.length then none else some (("view" : Str),i)) fl;by_cases q:v=ups r.bx v.length
  ·rw [if_pos q];exact Ok.neg (by rw [Fa q];decide)<|Ok.ret ⟨rfl,_,rfl,_,_,_,rfl⟩
  ·rw [if_neg q];exact Ok.pos (by rw [Fv q];rfl)<|Ok.ret ⟨rfl,rfl⟩
 | out=>exact Ok.eq rfl<|Ok.eq rfl<|Ok.eq rfl<|Ok.neg (by decide)<|Ok.ret ⟨rfl,_,rfl,_,_,_,rfl⟩
 | look l=>exact Ok.eq rfl<|Ok.eq rfl<|Ok.eq rfl<|Ok.neg (by decide)<|Ok.ret ⟨rfl,_,rfl,_,_,_,rfl⟩
 | put l=>exact Ok.eq rfl<|Ok.eq rfl<|Ok.eq rfl<|Ok.neg (by decide)<|Ok.ret ⟨rfl,_,rfl,_,_,_,rfl⟩
theorem oF:rn (k+4) oY [.int (m:Int),r.d] S=.ok (L7 (bp m r)) S:=by
 have st:=pP (by omega) (by omega) m6 k S (F.any m6);rw [F.lev] at st;have i:Y6 (u8 [2,3]) r.d [some (.int (m:Int)),some r.d,none,none,none,none,none] S=.ok (.nx (eJ m r none none none)) S:=rfl;refine j5 ?_;rw [rn,b9 rfl,ir,kC];refine Ok.first<|Ok.cg (wu ..)<|Ok.eq st<|Ok.eq rfl<|Ok.neg (by decide)<|Ok.nxt<|Ok.cg (BP ..)<|Ok.eq i<|Ok.nxt<|Ok.cg (BZ ..)<|Ok.eq (p6 (by omega) S)<|Ok.bind ((l2 F m6 k S ⟨_,_,_,rfl⟩).mono ?_);rintro f S' ⟨rfl,a⟩;unfold bp;cases b:(List.range m).findSome? (q9 r) with
 | some x=>
  rw [b] at a;have a:=a;subst a;exact Ok.ret ⟨rfl,rfl⟩
 | none=>
 rw [b] at a;obtain ⟨_,rfl,e,h,c,rfl⟩:=a;refine Ok.nxt<|Ok.cg (BO ..)<|Ok.eq (m7 m 1 _)<|Ok.eq (sr7 F m6 _)<|Ok.bind ((l3 F m6 k _ b ⟨_,_,_,rfl⟩).mono ?_);rintro f S' ⟨rfl,a⟩;cases d:(List.range m).findSome? (t7 r) with
 | some x=>
  rw [d] at a;have a:=a;subst a;exact Ok.ret ⟨rfl,rfl⟩
 | none=>
 rw [d] at a;obtain ⟨_,rfl,e,h,c,rfl⟩:=a;refine Ok.nxt<|Ok.cg (AS ..)<|Ok.eq (p6 (by omega) _)<|Ok.bind ((l4 F m6 k _ ⟨_,_,_,rfl⟩).mono ?_);rintro f S' ⟨rfl,a⟩;cases g:(List.range m).findSome? (v4 r) with
 | some x=>
  rw [g] at a;have a:=a;subst a;exact Ok.ret ⟨rfl,rfl⟩
 | none=>
 rw [g] at a;obtain ⟨_,rfl,e,h,c,rfl⟩:=a;exact Ok.nxt<|Ok.cg (Bk ..)<|Ok.ret ⟨rfl,rfl⟩
end
theorem iX {S:Sto} (e:S[n]?=some (.exc 3 [("word",a),("at",b)])) (k:Nat):Ok (rn (k+1) xM [.ref n]) S λd S'=>d=.tup [.str "stand",a,b]/\∃ R,S'=S++R:=by
 have i:∀ (sx:Nat->Bool) (x:O),w6 sx (.ref n) (S++[x])=.ok (.bl (sx 3)) (S++[x]):=λsx x=>by
  unfold w6;have:(S++[x])[n]?=some (.exc 3 [("word",a),("at",b)]):=by rw [Et (Eo.mp e).1];exact e
  simp only [this]
 have c:∀ x:O,(S++[x])[S.length]?=some x:=λx=>by rw [FF (Es _)];simp
 have f:(S++[.lst []])[n]?=some (.exc 3 [("word",a),("at",b)]):=by rw [Et (Eo.mp e).1];exact e
 rw [rn,b9 rfl,sg,tj];refine Ok.first (Ok.cg (DE ..) (Ok.eq (rfl) ?_));refine Ok.nxt (Ok.cg (Ak ..) (Ok.eq (i _ _) (Ok.eq rfl (Ok.neg (by decide) ?_))));refine Ok.nxt (Ok.cg (AZ ..) (Ok.eq (i _ _) (Ok.eq rfl (Ok.pos (by decide) (Ok.eq (T5 (c _)) (Ok.eq (by simp only [cF,f];rfl) (Ok.eq (by simp only [cF,f];rfl) (Ok.eq (cR (c _) (by show 0<sizeLine;decide)) ?_))))))));rw [tK];exact Ok.nxt<|Ok.cg (CV ..)<|Ok.eq (i _ _)<|Ok.eq rfl<|Ok.neg (by decide)<|Ok.nxt<|Ok.cg (BW ..)<|Ok.eq (i _ _)<|Ok.eq rfl<|Ok.neg (by decide)<|Ok.eq (i _ _)<|Ok.eq rfl<|Ok.neg (by decide)<|Ok.nxt<|Ok.cg (Bo ..)<|Ok.eq (wL (c _))<|Ok.eq rfl<|Ok.eq rfl<|Ok.pos rfl<|Ok.eq (CZ (c _) rfl)<|Ok.ret ⟨rfl,_,rfl⟩
def Wo (o:Option (Str×Nat)):Prop:=∀ x,o=some x->x.1∈[("shape" : Str),"box","many","view"]/\x.2<10
theorem V1 {b:Type} {f:Nat->Option b} {n:Nat} {x:b} (h:(List.range n).findSome? f=some x):∃ i,i<n/\f i=some x:=by
 rcases K6 f n with ⟨_,a⟩ | ⟨j,y,e,c,d,g⟩
 ·rw [a] at h;cases h
 ·grind
theorem xH {m:Nat} (m6:m<=6) (r:Lv):Wo (bp m r):=by
 intro x e;unfold bp at e;cases d2:(List.range m).findSome? (q9 r) with
 | some y=>
  rw [d2] at e;cases e;obtain ⟨i,h1,h2⟩:=V1 d2;unfold q9 at h2;split at h2
  ·cases h2
  ·cases h2;exact ⟨by simp,by show i<10;omega⟩
 | none=>
 rw [d2] at e;cases d3:(List.range m).findSome? (t7 r) with
 | some y=>
  rw [d3] at e;cases e;obtain ⟨i,h1,h2⟩:=V1 d3;unfold t7 at h2;split at h2
  ·cases h2;exact ⟨by simp,by show i+1<10;omega⟩
  ·cases h2
 | none=>
 rw [d3] at e;obtain ⟨i,h1,h2⟩:=V1 e;unfold v4 at h2;split at h2
 ·split at h2
  ·cases h2
  ·cases h2;exact ⟨by simp,by show i<10;omega⟩
 ·cases h2
theorem xg (w:Wo o) (S:Sto):a9 .Eq (L7 o) (L7 o) S=.ok (.bl true) S:=by
 cases o with
 | none=>kernel_rfl
 | some x=>
  obtain ⟨c,e⟩:=w x rfl;obtain ⟨a,b⟩:=x;have e:=e;have s:Sml 1 400 (L7 (some (a,b))):=by
   have g:Sml 0 100 (.str a):=by
    have c:=c;simp at c;rcases c with rfl | rfl | rfl | rfl <;> exact Sml.w
   exact (Sml.tup (m:=3) (.cons Sml.w (.cons g (.cons (Sml.nat (by omega)) .nil))) (Es _)).mono (by decide) (by decide)
  have i:=s.dp;have h:=A0 S (L7 (some (a,b))) 64 s.pl (by omega);have l:=L6 _ s.pl;have d:=E3 (L7 (some (a,b)));have f:=PySem.SeqAt.eqv_refl _ l;show eqP false (L7 (some (a,b))) (L7 (some (a,b))) S=_;simp only [eqP,h];rw [if_pos ⟨l,l,by omega⟩,f];rfl
theorem xF (S:Sto):a9 .NotEq (.str "let by") (.str "let by") S=.ok (.bl false) S:=by kernel_rfl
section
variable {m:Nat} (m1:1<=m) (m6:m<=6)
include m6
theorem dz {o:Option (Str×Nat)} (k:Nat) (S:Sto) (g:o=none->rn (k+6) jY [.int (m:Int),d] S=.ok (.bl true) S) (x:∀ y,o=some y->Xn (rn (k+6) jY [.int (m:Int),d]) S (Rz S y)):Ok (rn (k+7) nz [.int (m:Int),d]) S λt S'=>t=L7 o/\∃ R,S'=S++R:=by
 rw [rn,b9 rfl,sX,tF];refine Ok.first<|Ok.cg (An ..)<|Ok.nxt<|Ok.cg (CN ..)<|Ok.bind ?_;cases o with
 | none=>
  refine Ok.try_ ?_;rw [bU];refine Ok.eq (S1:=S) ?_<|Ok.ret<|Ok.nxt<|Ok.cg (wQ ..)<|Ok.ret ⟨rfl,[],by simp⟩;rw [a7 (g rfl)];rfl
 | some y=>
  refine Ok.caught ?_;rw [bU];refine Xn.bind (Xn.bind ((x y rfl).mono ?_));rintro n S1 ⟨rfl,rfl⟩;refine ⟨3,[("word",.str y.1),("at",.int (y.2:Int))],by simp [exN],rfl,?_⟩;show Ok (j6 (evK Rs Γ _ 39) (J7 Q6) R3 [some (.int (m:Int)),some d,some (.tup [.str "odd"]),some (.ref S.length)] ret) _ _;rw [eU];refine Ok.first (Ok.cg (lE ..) (nx_bind ((iX (a:=.str y.1) (b:=.int (y.2:Int)) (by simp [exN]) (k+5)).mono ?_)));rintro _ S2 ⟨rfl,R,rfl⟩;exact Ok.ret<|Ok.nxt<|Ok.cg (wQ ..)<|Ok.ret ⟨rfl,_,by rw [HV]⟩
theorem Dt (a:n<=40) (b:N<=100000) {d:D} (h:Any n N d):∃ o,Wo o/\(∀ k S,rn (k+4) oY [.int (m:Int),d] S=.ok (L7 o) S)/\∀ k S,Ok (rn (k+7) nz [.int (m:Int),d]) S λt S'=>t=L7 o/\∃ R,S'=S++R:=by
 cases z:rl m d with
 | true=>
  obtain ⟨r,rfl,F⟩:=xZ z;exact ⟨bp m r,xH m6 r,λk S=>oF F m6 k S,λk S=>dz m6 k S (ap F m6 k S).1 (ap F m6 k S).2⟩
 | false=>
  refine ⟨some ("shape",0),λx e=>by cases e;exact ⟨by simp,by show 0<10;omega⟩,λk S=>j5 ?_,λk S=>dz m6 k S (λe=>by cases e) λy e=>?_⟩
  ·have st:=pP a b m6 k S h;rw [z] at st;rw [rn,b9 rfl,ir,kC];exact Ok.first<|Ok.cg (wu ..)<|Ok.eq st<|Ok.eq rfl<|Ok.pos rfl<|Ok.ret ⟨rfl,rfl⟩
  ·cases e;have st:=ig a b m6 k S h;rw [z] at st;rw [rn,b9 rfl,aw,bK];exact Xn.first<|Xn.cg (oh ..)<|Xn.eq st<|Xn.eq rfl<|Xn.pos rfl<|raise_k rfl (si (n:=0) (by omega) (by kernel_rfl))
theorem kf (a:n<=40) (b:N<=100000) {d:D} (h:Any n N d) (k:Nat) (S:Sto):Ok (rn (k+8) wM [.int (m:Int),d]) S λt S'=>t=.bl true/\∃ R,S'=S++R:=by
 obtain ⟨o,w,c,e⟩:=Dt m6 a b h;rw [rn,b9 rfl,AA];refine Ok.eq (eW h a (by omega) S)<|Ok.bind ((e k S).mono ?_);rintro _ S1 ⟨rfl,R,rfl⟩;refine Ok.eq (c (k+3) _)<|Ok.eq (xg w _)<|Ok.eq rfl<|Ok.pos rfl<|Ok.eq (eW h a (by omega) _)<|Ok.eq (vZ _ _)<|Ok.ret ⟨rfl,R,rfl⟩
end
structure Ls where
 bx:List (Option Nat)
 hs:List D
def Ls.d (r:Ls):D:=.tup [.tup (r.bx.map bxD),.tup r.hs]
def BsOk (bx:List (Option Nat)):Prop:=∀ g,some g∈bx->1<=g/\g<=7
def HsOk (hs:List D):Prop:=∀ h∈hs,Sml 2 560 h
structure LsOk (m:Nat) (r:Ls):Prop where
 bl:r.bx.length=m
 hl:r.hs.length=m
 bs:BsOk r.bx
 hd:HsOk r.hs
theorem BsOk.app (h:BsOk bx) {o:Option Nat} (b:∀ g,o=some g->1<=g/\g<=7):BsOk (bx++[o]):=λg a=>by
 rcases Fo.mp a with z | z
 ·exact h g z
 ·grind
theorem HsOk.app (h:HsOk hs) {a:D} (c:Sml 2 560 a):HsOk (hs++[a]):=λx b=>by
 rcases Fo.mp b with z | z
 ·exact h x z
 ·grind
theorem BsOk.put (h:BsOk bx) {i:Nat} {o:Option Nat} (a:∀ g,o=some g->1<=g/\g<=7):BsOk (bx.set i o):=λg b=>by
 rcases Hx b with z | z
 ·exact h g z
 ·exact a g z.symm
theorem HsOk.put (h:HsOk hs) {i:Nat} {a:D} (c:Sml 2 560 a):HsOk (hs.set i a):=λx b=>by
 rcases Hx b with z | z
 ·exact h x z
 ·rw [z];exact c
theorem xG:Sml 2 560 (.tup [.str "out"]):=Sml.w
theorem Z8 {l:Nat} (h:l<=7):Sml 2 560 (.tup [.str "look",.int (l:Int)]):=(Sml.tup (n:=0) (N:=60) (m:=2) (.cons Sml.w (.cons (Sml.nat (by omega)) .nil)) (Es _)).mono (by decide) (by decide)
theorem xR {l:Nat} (h:l<=7):Sml 2 560 (.tup [.str "put",.int (l:Int)]):=(Sml.tup (n:=0) (N:=60) (m:=2) (.cons Sml.w (.cons (Sml.nat (by omega)) .nil)) (Es _)).mono (by decide) (by decide)
theorem kR {v:List Nat} (b:∀ x∈v,x<6) (l:v.length<=7):Sml 2 560 (.tup [.str "holds",.tup (v.map nD)]):=by
 have s:Sml 1 440 (.tup (v.map nD)):=(Sml.tup (n:=0) (N:=60) (Smls.map λx a=>Sml.nat (by have:=b x a;omega)) (by rw [En];omega)).mono (by decide) (by decide);refine ⟨⟨(Sml.w (n:=0) (N:=100)).pl,s.pl,trivial⟩,?_,?_⟩
 ·have:=s.dp;show max 0 (max (L3.dp (.tup (v.map nD))) 0)+1<=2;omega
 ·have:=s.sz;show 10 * ("holds" : Str).length+2+2+(L3.sz (.tup (v.map nD))+2+0)+3<=560;rw [show ("holds" : Str).length=5 by decide +kernel];omega
theorem yF {p N i j k:Nat} {S:Sto} (F:Fw ns p (N+1) S):Ok (bind (a9 .Eq (.int (j:Int)) (.int (i:Int))) λe=>bind (asB e) λz=>if z=true then ret true else bind (rn (k+1) G2 [.ref p,.int 2]) λr=>bind (a9 .Eq r (.int 0)) λe=>bind (asB e) λz=>ret z) S λb S'=>(j=i->b=true)/\Fw ns p N S'/\S'.length=S.length/\∀ q,q≠p->S'[q]?=S[q]?:=by
 refine Ok.eq (B5 _ _ _) (Ok.eq (c9 _ _) (Ok.ite (λ_=>Ok.ret ⟨λ_=>rfl,F.less (by omega),rfl,λ_ _=>rfl⟩) λz=>?_));refine Ok.bind ((i6 (m:=2) F (by omega) (by omega) k).mono ?_);rintro _ S1 ⟨r,rfl,_,d,a,c⟩;exact Ok.eq (B5 _ _ _) (Ok.eq (c9 _ _) (Ok.ret ⟨λe=>absurd (Fa (by omega)) z,d,a,c⟩))
theorem gH {ns:List Int} {p N m:Nat} {S:Sto} (F:Fw ns p (N+8 * m) S) (hm:0<m) (h6:m<=6) (k:Nat):Ok (rn (k+2) Br [.ref p,.int (m:Int)]) S λd S'=>Fw ns p N S'/\(∃ r:Ls,d=r.d/\LsOk m r)/\∀ q,q<S.length->q≠p->S'[q]?=S[q]?:=by
 have hp:=F.lt;rw [rn,b9 (fd:=Ef) rfl,AE,xp];refine Ok.first<|Ok.cg (DI ..)<|Ok.eq (show newL [] S=.ok (.ref S.length) (S++[.lst []]) from rfl)<|Ok.nxt<|Ok.cg (DT ..)<|Ok.eq (show newL [] (S++[.lst []])=.ok (.ref (S++[O.lst []]).length) (S++[.lst []]++[.lst []]) from rfl) ?_;rw [show (S++[O.lst []]).length=S.length+1 by simp]
 let J:Nat->L3.Env->Sto->Prop:=λi ρ S'=>∃ o5 o6 o7 o8 o9:Option D,∃ (bx:List (Option Nat)) (hs:List D),ρ=[some (.ref p),some (.int (m:Int)),some (.ref S.length),some (.ref (S.length+1)),o5,o6,o7,o8,o9]/\Fw ns p (N+8 * (m-i)) S'/\S'[S.length]?=some (.lst (bx.map bxD))/\S'[S.length+1]?=some (.lst hs)/\bx.length=i/\hs.length=i/\HsOk hs/\BsOk bx/\∀ q,q<S.length->q≠p->S'[q]?=S[q]?
 refine Ok.nxt<|Ok.cg (Do ..)<|Ok.eq (p6 (by omega) _) (Ok.bind ((Ok.for_ (n:=m) J (λ_ _=>False) (λ_ _=>False) (λρ S' _=>t0 m S') ?_ m 0 _ _ (by omega) ⟨_,_,_,_,_,[],[],rfl,?_,?_,?_,rfl,rfl,(λh z=>by cases z),(λg z=>by cases z),?_⟩).mono ?_))
 ·rintro i ρ S1 hi ⟨o5,o6,o7,o8,o9,bx,hs,rfl,F1,e1,e2,hb,hh,ha,hg,kp⟩;refine ⟨.int (i:Int),[some (.ref p),some (.int (m:Int)),some (.ref S.length),some (.ref (S.length+1)),some (.int (i:Int)),o6,o7,o8,o9],y4 hi S1,rfl,?_⟩;unfold jW;rw [gV];refine Ok.first<|Ok.cg (pw ..)<|Ok.bind ((i6 (N:=N+8 * (m-(i+1))+7) (F1.less (by omega)) hm (by omega) k).mono ?_);rintro _ S2 ⟨n,rfl,hn,F2,l2,k2⟩;have ad:i7 (.int 1) (.int (n:Int)) S2=.ok (.int ((n+1:Nat):Int)) S2:=by
   show R.ok (D.int (1+(n:Int))) S2=_;rw [show (1+(n:Int))=((n+1:Nat):Int) by omega]
  refine Ok.eq ad<|Ok.nxt<|Ok.cg (oS ..)<|Ok.bind ((i6 (N:=N+8 * (m-(i+1))+6) (m:=5) (F2.less (by omega)) (by omega) (by omega) k).mono ?_);rintro _ S3 ⟨w,rfl,hw,F3,l3,k3⟩;refine Ok.nxt<|Ok.cg (mo ..)<|nx_bind<|Ok.eq (p6 (by omega) _) ((Ok.comp (n:=m) (λj S' es=>Fw ns p (N+8 * (m-(i+1))+(m-j)) S'/\S'.length=S3.length/\(∀ q,q≠p->S'[q]?=S3[q]?)/\∃ v:List Nat,es=v.map nD/\v.length<=j/\(∀ x∈v,x<m)/\(i<j->i∈v)) (λS' es _=>t0 m S') ?_ ⟨F3.less (by omega),rfl,λ_ _=>rfl,[],rfl,Es _,by simp,λz=>absurd z (Jx _)⟩).mono ?_)
  ·rintro j S' es hj ⟨Fj,lj,kj,v,rfl,hv,hx,hm'⟩;refine ⟨.int (j:Int),y4 hj S',(yF (N:=N+8 * (m-(i+1))+(m-(j+1))) (Fj.less (by omega))).mono ?_⟩;rintro b S'' ⟨tb,Fb,lb,kb⟩;have kk:∀ q,q≠p->S''[q]?=S3[q]?:=λq hq=>by rw [kb q hq,kj q hq]
   cases b with
   | true=>
    rw [if_pos rfl];refine Ok.ret ⟨by rw [En,Fp];omega,Fb,by omega,kk,v++[j],by rw [Gd];rfl,by simp;omega,λx hx'=>?_,λz=>?_⟩
    ·rcases Fo.mp hx' with z | z
     ·exact hx x z
     ·rw [Fy.mp z];exact hj
    ·by_cases e:i=j
     ·rw [e];simp
     ·exact Fo.mpr (.inl (hm' (by omega)))
   | false=>
    rw [if_neg Er];exact ⟨Fb,by omega,kk,v,rfl,by omega,hx,λz=>hm' (by have:j≠i:=(λe=>by cases tb e);omega)⟩
  rintro _ S4 ⟨F4,l4,k4,v,rfl,hv,hx,hm'⟩;have e1':S4[S.length]?=some (.lst (bx.map bxD)):=by rw [k4 _ (by omega),k3 _ (by omega),k2 _ (by omega)];exact e1
  have e2':S4[S.length+1]?=some (.lst hs):=by rw [k4 _ (by omega),k3 _ (by omega),k2 _ (by omega)];exact e2
  have kp4:∀ q,q<S.length->q≠p->S4[q]?=S[q]?:=λq h1 h2=>by rw [k4 q h2,k3 q h2,k2 q h2];exact kp q h1 h2
  refine Ok.eq (a:=.tup (v.map nD)) rfl<|Ok.nxt<|Ok.cg (rN ..)<|Ok.eq (hD (b:=1) (by omega) _) ?_;rw [show n+1-1=n by omega];have w5:w=0\/w=1\/w=2\/w=3\/w=4:=by omega
  have ea:∃ a:D,([.tup [.str "out"],.tup [.str "look",.int ((n+1:Nat):Int)],.tup [.str "put",.int (n:Int)],.tup [.str "holds",.tup (v.map nD)],.tup [.str "look",.int ((n+1:Nat):Int)]]:List D)[w]?=some a/\Sml 2 560 a:=by
   rcases w5 with rfl | rfl | rfl | rfl | rfl
   ·exact ⟨_,rfl,xG⟩
   ·exact ⟨_,rfl,Z8 (by omega)⟩
   ·exact ⟨_,rfl,xR (by omega)⟩
   ·exact ⟨_,rfl,kR (λx hx'=>by have:=hx x hx';omega) (by omega)⟩
   ·exact ⟨_,rfl,Z8 (by omega)⟩
  obtain ⟨a,ea,oa⟩:=ea;refine Ok.eq (lM S4 ea)<|Ok.nxt<|Ok.cg (qS ..) ?_;have hk1:S.length+1<S4.length:=(Eo.mp e2').1;have vp:1<=v.length:=Ha (hm' hi);have last:∀ a':D,Sml 2 560 a'->Ok (nxt (evK Rs Γ (rn (k+1)) 39) T8 [nth m4 5,nth m4 6] ret (.nx [some (.ref p),some (.int (m:Int)),some (.ref S.length),some (.ref (S.length+1)),some (.int (i:Int)),some (.int ((n+1:Nat):Int)),some (.int (w:Int)),some (.tup (v.map nD)),some a'])) S4 (FlI (J (i+1)) (λ_ _=>False) (λ_ _=>False)):=by
   intro a' oa';refine Ok.nxt<|Ok.cg (ni ..)<|Ok.eq (T5 e2')<|Ok.eq (cR e2' (by rw [Fp];omega))<|Ok.nxt<|Ok.cg (qZ ..) ?_;have e3:(S4.set (S.length+1) (.lst (hs++[a'])))[S.length]?=some (.lst (bx.map bxD)):=by rw [Ff (by omega)];exact e1'
   refine Ok.eq (T5 e3) (Ok.eq (U4 _ _) ?_);rw [En];have eb:∃ o:Option Nat,([.non,.int ((n+1:Nat):Int),.int ((n+1:Nat):Int),.int (v.length:Int),.int ((n+1:Nat):Int)]:List D)[w]?=some (bxD o)/\∀ g,o=some g->1<=g/\g<=7:=by
    rcases w5 with rfl | rfl | rfl | rfl | rfl
    ·exact ⟨none,rfl,λg z=>by cases z⟩
    ·exact ⟨some (n+1),rfl,λg z=>by cases z;omega⟩
    ·exact ⟨some (n+1),rfl,λg z=>by cases z;omega⟩
    ·exact ⟨some v.length,rfl,λg z=>by cases z;omega⟩
    ·exact ⟨some (n+1),rfl,λg z=>by cases z;omega⟩
   obtain ⟨o,eo,oo⟩:=eb;refine Ok.eq (lM _ eo) (Ok.eq (cR e3 (by rw [En,Fp];omega)) (Ok.ret ⟨_,_,_,_,_,bx++[o],hs++[a'],rfl,?_,?_,?_,by simp [hb],by simp [hh],ha.app oa',hg.app oo,λq h1 h2=>?_⟩))
   ·refine (F4.less (by omega)).keep ?_;rw [Ff (by omega),Ff (by omega)]
   ·rw [FA (by simp;omega)];simp
   ·rw [Ff (by omega),FA hk1]
   ·rw [Ff (by omega),Ff (by omega)];exact kp4 q h1 h2
  exact Ok.eq (B5 _ _ _)<|Ok.eq (c9 _ _)<|Ok.ite (λ_=>Ok.eq (B5 _ _ _)<|Ok.eq (c9 _ _)<|Ok.ite (λ_=>last _ (Z8 (l:=1) (by omega))) λ_=>last a oa) λ_=>last a oa
 ·refine (F.less (by omega)).keep ?_;rw [Et (by simp;omega),Et hp]
 ·rw [Et (by simp),FF (Es _)];simp
 ·rw [FF (by simp)];simp
 ·intro q h1 h2;rw [Et (by simp;omega),Et h1]
 ·rintro fl S' hf;cases fl with
  | nx ρ=>
   rcases hf with ⟨o5,o6,o7,o8,o9,bx,hs,rfl,F1,e1,e2,hb,hh,ha,hg,kp⟩ | hf
   ·exact Ok.nxt<|Ok.cg (DM ..)<|Ok.eq (qD e1) (Ok.eq (qD e2) (Ok.ret ⟨F1.less (by omega),⟨⟨bx,hs⟩,rfl,hb,hh,hg,ha⟩,kp⟩))
   ·exact hf.elim
  | rt d=>exact hf.elim
  | bk ρ=>exact hf.elim
  | ct ρ=>exact hf.elim
theorem mh {i k:Nat} {x:D} {S:Sto} (h:i<ds.length) (a:ds.length<=1000):rn (k+1) gC [.tup ds,.int (i:Int),x] S=.ok (.tup (ds.set i x)) S:=by
 rw [rn,b9 rfl,tT];exact j5 (md h a)
theorem ti (x:Int) (ns:List Int) (S:Sto):a9 .In (.int x) (.lst (ns.map D.int)) S=.ok (.bl (decide (x∈ns))) S:=by
 have e:d9 64 S (.lst (ns.map D.int))=some (.list (ns.map PyData.int)):=by
  show (f7 (d9 63 S) (ns.map D.int)).map PyData.list=_;rw [T6 62 S ns];rfl
 show inD false (.int x) (.lst (ns.map D.int)) S=_;unfold inD;rw [e];show Y8 false (.int x) (ns.map PyData.int) S=_;unfold Y8;have hd:PyData.depth (.int x)=0:=by simp [PyData.depth]
 rw [if_pos ⟨rfl,O9 ns,by rw [hd];omega⟩,gI];rfl
theorem ib (x:Nat) (v:List Nat) (S:Sto):a9 .In (.int (x:Int)) (.lst (v.map nD)) S=.ok (.bl (decide (x∈v))) S:=by
 have:=ti (x:Int) (v.map λ(n:Nat)=>(n:Int)) S;rw [R6,this];grind
theorem uR (h:ns.length<64) {S:Sto}:M6 (.lst (ns.map D.int)) S=.ok (.lst ((srt ns).map D.int)) S:=by
 unfold M6;rw [a7 (show B1 (.lst (ns.map D.int)) S=.ok (ns.map D.int) S from rfl)];simp only [P4,if_pos h];rfl
theorem oq {a b:Nat} (h:0<b) (S:Sto):G3 (.int (a:Int)) (.int (b:Int)) S=.ok (.int ((a % b:Nat):Int)) S:=by
 show (if (0:Int)<(b:Int) then ret (D.int ((a:Int) % (b:Int))) else bad) S=_;rw [if_pos (by omega),(Int.natCast_emod a b).symm];rfl
theorem cq (w:Fw ns p (N+8 * m+10) S) (M:0<m) (h6:m<=6) {r:Ls} (F:LsOk m r) (k:Nat):Ok (rn (k+3) ze [.ref p,r.d]) S λd S'=>Fw ns p N S'/\(∃ K:Ls,d=K.d/\LsOk m K)/\∀ q,q<S.length->q≠p->S'[q]?=S[q]?:=by
 have bl:=F.bl;have Z:=F.hl;have hp:=w.lt;rw [rn,b9 rfl,vR,tL];refine Ok.first<|Ok.cg (CP ..)<|Ok.eq (a:=.nx [some (.ref p),some r.d,some (.tup (r.bx.map bxD)),some (.tup r.hs),none,none,none,none,none,none,none,none,none,none]) rfl ?_;have lb:p8 (.tup (r.bx.map bxD)) S=.ok (.int (m:Int)) S:=(U4 _ S).trans (by rw [En,bl]);refine Ok.nxt<|Ok.cg (CL ..)<|Ok.eq lb<|Ok.nxt<|Ok.cg (Cp ..)<|Ok.bind ((i6 w M (by omega) (k+1)).mono ?_);rintro _ S1 ⟨i,rfl,hi,w1,l1,k1⟩;refine Ok.nxt<|Ok.cg (Ci ..)<|Ok.bind ((gH (N:=N+9) (w1.less (by omega)) M h6 k).mono ?_);rintro _ S2 ⟨w2,⟨r2,rfl,F2⟩,k2⟩;refine Ok.nxt<|Ok.cg (Bx ..)<|Ok.bind ((i6 (m:=6) w2 (by omega) (by omega) (k+1)).mono ?_);rintro _ A ⟨y,rfl,U,w3,l3,k3⟩;have V:∀ q,q<S.length->q≠p->A[q]?=S[q]?:=λq L B=>by rw [k3 q B,k2 q (by omega) B,k1 q B]
 have bs:∀ (o:Option Nat) S,rn (k+2) gC [.tup (r.bx.map bxD),.int (i:Int),bxD o] S=.ok (.tup ((r.bx.set i o).map bxD)) S:=λo S=>by
  rw [mh (by rw [En];omega) (by rw [En];omega),<- List.map_set]
 have hs:∀ (a:D) S,rn (k+2) gC [.tup r.hs,.int (i:Int),a] S=.ok (.tup (r.hs.set i a)) S:=λa S=>mh (by omega) (by omega);obtain ⟨o2,W⟩:∃ o,r2.bx[i]?=some o:=⟨_,Em (by rw [F2.bl];exact hi)⟩;obtain ⟨a2,T⟩:∃ a,r2.hs[i]?=some a:=⟨_,Em (by rw [F2.hl];exact hi)⟩;have oo2:∀ g,o2=some g->1<=g/\g<=7:=λg e=>F2.bs g (by rw [<- e];exact Fk W);have X:=F2.hd a2 (Fk T);have H:∀ {bx:List (Option Nat)} {hds:List D},bx.length=m->hds.length=m->BsOk bx->HsOk hds->∃ K:Ls,D.tup [.tup (bx.map bxD),.tup hds]=K.d/\LsOk m K:=λ{bx hds} L B h3 h4=>⟨⟨bx,hds⟩,rfl,L,B,h3,h4⟩;refine Ok.nxt<|Ok.cg (Cc ..)<|Ok.eq (B5 _ _ A)<|Ok.eq (c9 _ A)<|Ok.ite (λ_=>?_) λ_=>?_
 ·refine Ok.bind ((i6 w3 M (by omega) (k+1)).mono ?_);rintro _ s ⟨n,rfl,hn,w4,l4,k4⟩;refine Ok.eq (m7 1 n s)<|Ok.bind ((i6 (m:=2) w4 (by omega) (by omega) (k+1)).mono ?_);rintro _ u ⟨v,rfl,hv,w5,l5,k5⟩;have hb:∃ o:Option Nat,([.non,.int ((1+n:Nat):Int)]:List D)[v]?=some (bxD o)/\∀ g,o=some g->1<=g/\g<=7:=by
   have:v=0\/v=1:=by omega
   rcases this with rfl | rfl
   ·exact ⟨none,rfl,λg z=>(by cases z)⟩
   ·exact ⟨some (1+n),rfl,λg z=>(by cases z;omega)⟩
  obtain ⟨o,eo,oo⟩:=hb;exact Ok.eq (lM u eo)<|Ok.eq (bs o u)<|Ok.ret ⟨w5.less (by omega),H (by simp [bl]) Z (F.bs.put oo) F.hd,λq L B=>by rw [k5 q B,k4 q B];exact V q L B⟩
 refine Ok.nxt<|Ok.cg (CB ..)<|Ok.eq (B5 _ _ A)<|Ok.eq (c9 _ A)<|Ok.ite (λ_=>?_) λ_=>?_
 ·exact Ok.eq rfl<|Ok.eq (j9 A T)<|Ok.eq (hs a2 A)<|Ok.ret ⟨w3.less (by omega),H bl (by simp [Z]) F.bs (F.hd.put X),V⟩
 refine Ok.nxt<|Ok.cg (CA ..)<|Ok.eq (B5 _ _ A)<|Ok.eq (c9 _ A)<|Ok.ite (λ_=>?_) λ_=>?_
 ·exact Ok.eq rfl<|Ok.eq (j9 A (i4 W))<|Ok.eq (bs o2 A)<|Ok.eq rfl<|Ok.eq (j9 A T)<|Ok.eq (hs a2 A)<|Ok.ret ⟨w3.less (by omega),H (by simp [bl]) (by simp [Z]) (F.bs.put oo2) (F.hd.put X),V⟩
 refine Ok.nxt<|Ok.cg (Ab ..)<|Ok.eq (B5 _ _ A)<|Ok.eq (c9 _ A)<|Ok.ite (λ_=>?_) λ_=>?_
 ·refine Ok.bind ((i6 w3 M (by omega) (k+1)).mono ?_);rintro _ s ⟨n,rfl,hn,w4,l4,k4⟩;refine Ok.eq (m7 1 n s)<|nx_bind<|Ok.eq (p6 (by omega) _) ((Ok.comp (λj S' es=>Fw ns p (N+1+(m-j)) S'/\(∀ q,q≠p->S'[q]?=s[q]?)/\∃ v:List Nat,es=v.map nD/\v.length<=j) (λS' es _=>t0 m S') ?_ ⟨w4.less (by omega),λ_ _=>rfl,[],rfl,Es _⟩).mono ?_)
  ·rintro j S' es C ⟨Fj,kj,v,rfl,hv⟩;refine ⟨.int (j:Int),y4 C S',Ok.bind ((i6 (N:=N+1+(m-(j+1))) (m:=2) (Fj.less (by omega)) (by omega) (by omega) (k+1)).mono ?_)⟩;rintro _ u ⟨z,rfl,hz,Fb,lb,kb⟩;refine Ok.eq (B5 _ _ u)<|Ok.eq (c9 _ u)<|Ok.ret ?_;have kk:∀ q,q≠p->u[q]?=s[q]?:=λq hq=>by rw [kb q hq,kj q hq]
   by_cases c:(z:Int)=0
   ·rw [Fa c];rw [if_pos rfl];exact Ok.ret ⟨by rw [En,Fp];omega,Fb,kk,v++[j],by rw [Gd];rfl,by simp;omega⟩
   ·grind
  rintro _ u ⟨w5,k5,v,rfl,hv⟩
  let bf:Nat->Option Nat:=λj=>if j∈v then some (1+n) else r.bx.getD j none
  let hf:=λj=>if j∈v then .tup [.str "look",.int ((1+n:Nat):Int)] else r.hs.getD j .non
  have c1:=u4 (l:=List.range m) (h:=λi=>D.int (i:Int)) (t:=λ_=>ret true) (f:=λI=>bind (a9 .In I (.lst (v.map nD))) λP=>bind (asB P) λQ=>if Q=true then (ret (.int ((1+n:Nat):Int))) else (bind (ixD (.tup (r.bx.map bxD)) I) λO=>ret O)) (λi=>V6 m i u) (by rw [Fu];exact dh h6) (λ_ _=>rfl) (λj C _=>by
   have C:j<r.bx.length:=by rw [bl];exact Fq.mp C
   have e:=Em C;have g:r.bx.getD j none=r.bx[j]:=by rw [Fc,e];rfl
   rw [a7 (ib j v u),a7 (c9 _ u)];show _=R.ok (bxD (if j∈v then some (1+n) else r.bx.getD j none)) u;by_cases c:j∈v
   ·rw [Fa c,if_pos rfl,if_pos c];rfl
   ·rw [Fv c,if_neg Er,if_neg c,a7 (j9 u (i4 e)),g];rfl)
  rw [HA.mpr (λ_ _=>rfl),Fu,show (List.range m).map (λj=>bxD (bf j))=((List.range m).map bf).map bxD by rw [GA];rfl] at c1;have c2:=u4 (l:=List.range m) (h:=λi=>D.int (i:Int)) (t:=λ_=>ret true) (f:=λI=>bind (a9 .In I (.lst (v.map nD))) λP=>bind (asB P) λQ=>if Q=true then (ret (.tup [(.str "look"),.int ((1+n:Nat):Int)])) else (bind (ixD (.tup r.hs) I) λO=>ret O)) (λi=>V6 m i u) (by rw [Fu];exact dh h6) (λ_ _=>rfl) (λj C _=>by
   have C:j<r.hs.length:=by rw [Z];exact Fq.mp C
   have e:=Em C;have g:r.hs.getD j .non=r.hs[j]:=by rw [Fc,e];rfl
   rw [a7 (ib j v u),a7 (c9 _ u)];show _=R.ok (if j∈v then .tup [.str "look",.int ((1+n:Nat):Int)] else r.hs.getD j .non) u;by_cases c:j∈v
   ·rw [Fa c,if_pos rfl,if_pos c];rfl
   ·rw [Fv c,if_neg Er,if_neg c,a7 (j9 u e),g];rfl)
  rw [HA.mpr (λ_ _=>rfl),Fu] at c2;refine nx_bind<|Ok.eq (p6 (by omega) u)<|Ok.of c1<|Ok.eq rfl<|nx_bind<|Ok.eq (p6 (by omega) u)<|Ok.of c2<|Ok.eq rfl<|Ok.ret ⟨w5.less (by omega),H (by simp) (by simp) (λg hg=>?_) (λh hh=>?_),λq L B=>by rw [k5 q B,k4 q B];exact V q L B⟩
  ·obtain ⟨j,C,e⟩:=FX.mp hg;have C:=Fq.mp C;have e:(if j∈v then some (1+n) else r.bx.getD j none)=some g:=e;split at e
   ·cases e;omega
   ·rw [Fc,Em (show j<r.bx.length by omega)] at e;exact F.bs g (by rw [<- e];exact FK _)
  ·obtain ⟨j,C,e⟩:=FX.mp hh;have C:=Fq.mp C;have e:(if j∈v then .tup [.str "look",.int ((1+n:Nat):Int)] else r.hs.getD j .non)=h:=e;split at e
   ·rw [<- e];exact Z8 (by omega)
   ·rw [Fc,Em (show j<r.hs.length by omega)] at e;exact F.hd h (by rw [<- e];exact FK _)
 obtain ⟨o,ho⟩:∃ o,r.bx[i]?=some o:=⟨_,Em (by rw [bl];exact hi)⟩;have J:∀ (z:Nat),1<=z->z<=7->Ok (nxt (evK Rs Γ (rn (k+2)) 40) y8 [nth BT.body 10,nth BT.body 11,nth BT.body 12,nth BT.body 13] endD (.nx [some (.ref p),some r.d,some (.tup (r.bx.map bxD)),some (.tup r.hs),some (.int (m:Int)),some (.int (i:Int)),some r2.d,some (.int (y:Int)),none,none,some (.int (z:Int)),none,none,none])) A λd S'=>Fw ns p N S'/\(∃ K:Ls,d=K.d/\LsOk m K)/\∀ q,q<S.length->q≠p->S'[q]?=S[q]?:=by
  intro z z1 z6;refine Ok.nxt<|Ok.cg (zf ..)<|Ok.bind ((i6 w3 M (by omega) (k+1)).mono ?_);rintro _ s ⟨t,rfl,ht,w4,l4,k4⟩;have c:=u4 (l:=List.range m) (h:=λi=>D.int (i:Int)) (g:=λj=>nD ((j+t) % m)) (t:=λd1=>bind (i7 d1 (.int (t:Int))) λx3=>bind (G3 x3 (.int (m:Int))) λx4=>bind (a9 .NotEq x4 (.int (i:Int))) λx5=>bind (asB x5) λz6=>ret z6) (f:=λd1=>bind (i7 d1 (.int (t:Int))) λx7=>bind (G3 x7 (.int (m:Int))) λx8=>ret x8) (λi=>V6 m i s) (by rw [Fu];exact dh h6) (λj _=>by
   rw [a7 (m7 j t s),a7 (oq M s),a7 (wN _ _ s),a7 (c9 _ s),fy];rfl) (λj _ _=>by
   rw [a7 (m7 j t s),a7 (oq M s)];rfl)
  rw [Fu] at c;generalize G:((List.range m).filter λj=>!decide ((j+t) % m=i)).map (λj=>(j+t) % m)=oth;have eo:((List.range m).filter λj=>!decide ((j+t) % m=i)).map (λj=>nD ((j+t) % m))=oth.map nD:=by rw [<- G,GA];rfl
  rw [eo] at c;have lo:oth.length<=m:=by
   rw [<- G,En];have:=Gr (λj=>!decide ((j+t) % m=i)) (List.range m);rwa [Fu] at this
  have om:∀ x∈oth,x<m:=λx E=>by
   rw [<- G] at E;obtain ⟨j,_,rfl⟩:=FX.mp E;exact Nat.mod_lt _ M
  refine Ok.nxt<|Ok.cg (zD ..)<|nx_bind<|Ok.eq (p6 (by omega) s)<|Ok.of c<|Ok.nxt<|Ok.cg (yX ..)<|Ok.eq (hD z1 s)<|Ok.eq rfl ?_;obtain ⟨b,ec,Y⟩:∃ b:List Nat,v5 (oth.map nD) none (some ((z-1:Nat):Int))=b.map nD/\b.Sublist oth:=⟨(oth.drop (HT.sIx (oth.map nD).length 0 none)).take (HT.sIx (oth.map nD).length (oth.map nD).length (some ((z-1:Nat):Int))-HT.sIx (oth.map nD).length 0 none),by simp [v5,List.map_drop,List.map_take],(HS _ _).trans (Jd _ _)⟩;have lc:=FD Y.length_le lo;have cm:=λx E=>om x (Y.subset E);have e1:slD (.lst (oth.map nD)) none (some ((z-1:Nat):Int)) s=.ok (.lst (b.map nD)) s:=by
   show R.ok (D.lst (v5 (oth.map nD) none (some ((z-1:Nat):Int)))) s=_;rw [ec]
  have e2:i7 (.lst [.int (i:Int)]) (.lst (b.map nD)) s=.ok (.lst (((i :: b).map λ(n:Nat)=>(n:Int)).map D.int)) s:=by
   show (if ([.int (i:Int)]:List D).length+(b.map nD).length<=sizeLine then ret (D.lst ([.int (i:Int)]++b.map nD)) else bad) s=_;rw [if_pos (by rw [En,Fp];show 1+b.length<=_;omega),R6];rfl
  obtain ⟨vs,ev,lv,mv⟩:∃ vs:List Nat,(srt ((i :: b).map λ(n:Nat)=>(n:Int))).map D.int=vs.map nD/\vs.length=b.length+1/\∀ x∈vs,x<m:=by
   have pm:=v7 ((i :: b).map λ(n:Nat)=>(n:Int));have nn:∀ x∈srt ((i :: b).map λ(n:Nat)=>(n:Int)),0<=x/\x<m:=λx E=>by
    obtain ⟨y,U,rfl⟩:=FX.mp (pm.mem_iff.mp E);rcases Ez.mp U with rfl | U
    ·omega
    ·have:=cm y U;omega
   refine ⟨(srt ((i :: b).map λ(n:Nat)=>(n:Int))).map Int.toNat,?_,?_,λx E=>?_⟩
   ·rw [GA];exact IC λx E=>by
     have:=(nn x E).1;show D.int x=D.int ((x.toNat:Nat):Int);rw [show ((x.toNat:Nat):Int)=x by omega]
   ·rw [En,pm.length_eq,En];rfl
   ·obtain ⟨y,U,rfl⟩:=FX.mp E;have:=nn y U;omega
  have e3:M6 (.lst (((i :: b).map λ(n:Nat)=>(n:Int)).map D.int)) s=.ok (.lst (vs.map nD)) s:=by
   rw [uR (by rw [En];show b.length+1<64;omega),ev]
  have b1:=bs (some vs.length) s;have b2:=hs (.tup [.str "holds",.tup (vs.map nD)]) s;refine Ok.eq e1 ?_;refine Ok.eq e2 ?_;refine Ok.eq e3 ?_;refine Ok.eq rfl ?_;refine Ok.nxt ?_;refine Ok.cg (yJ ..) ?_;refine Ok.eq (X5 vs s) ?_;refine Ok.eq b1 ?_;refine Ok.eq b2 ?_;have fin:=H (bx:=r.bx.set i (some vs.length)) (hds:=r.hs.set i (.tup [.str "holds",.tup (vs.map nD)])) (by simp [bl]) (by simp [Z]) (F.bs.put λg e=>by cases e;omega) (F.hd.put (kR (λx E=>by have:=mv x E;omega) (by omega)));exact Ok.ret ⟨w4.less (by omega),fin,λq L B=>by rw [k4 q B];exact V q L B⟩
 refine Ok.nxt<|Ok.cg (Bz ..)<|Ok.eq (j9 A (i4 ho)) ?_;cases o with
 | none=>exact Ok.eq rfl<|Ok.eq rfl<|Ok.neg (by decide)<|J 1 (by omega) (by omega)
 | some g=>
  have:=F.bs g (Fk ho);exact Ok.eq rfl<|Ok.eq rfl<|Ok.pos rfl<|Ok.eq (j9 A (i4 ho))<|J g this.1 this.2
theorem jA {e:Type} {p q r:e->Bool}:∀ {l:List e},(∀ a∈l,p a=true->r a=true/\q a=false)->(∀ a∈l,q a=true->r a=true)->l.countP p+l.countP q<=l.countP r
 | [],_,_=>Es _
 | a :: l,d,g=>by
  have i:=jA (λb c=>d b (Fg _ c)) λb c=>g b (Fg _ c);rw [Hu,Hu,Hu];cases f:p a with
  | true=>
   obtain ⟨x,y⟩:=d a (Fe ..) f;rw [x,y];simp;omega
  | false=>
   cases h:q a with
   | true=>grind
   | false=>simp;split <;> omega
theorem yV (q:u9 l h=true):efB l h=true:=by
 cases h with
 | put e=>exact Fa (by have:=FG q;omega)
 | _=>cases q
theorem zZ (q:bxB l h=true):u9 l h=false:=by
 cases h with
 | put e=>
  have q:=q;exact Fv (by have:=FG q;omega)
 | _=>rfl
theorem yK (bx:List (Option Nat)) (l:Nat):(ups bx l).Pairwise (· < ·):=Ig IE List.pairwise_lt_range
section
variable {m:Nat} {hs:List Hd} (hl:hs.length=m) (G:Good hs)
include hl G
theorem rS:Fit m ⟨hs.map boxOf,hs⟩:=by
 have at_:∀ (i:Nat) h,hs[i]?=some h->i<hs.length/\hat hs i=h:=λi h e=>⟨(Eo.mp e).1,dS e⟩;refine ⟨by show (hs.map boxOf).length=m;rw [En,hl],hl,λg hg=>?_,λi h e=>?_⟩
 ·obtain ⟨h,hh,e⟩:=FX.mp hg;obtain ⟨i,hi,e2⟩:=Gy hh;obtain ⟨_,e3⟩:=at_ i h (by rw [Em hi,e2]);have t:=G.top i g hi (by rw [e3];exact e);obtain ⟨p1,p2⟩:=G.pos hi;rw [hl] at t;refine ⟨?_,t⟩;cases h with
  | out=>cases e
  | look l=>cases e;exact p1 _ e3
  | put l=>cases e;omega
  | holds v=>cases e;exact Ha (G.own hi e3)
 ·obtain ⟨hi,e3⟩:=at_ i h e;obtain ⟨p1,p2⟩:=G.pos hi;cases h with
  | out=>trivial
  | look l=>
   have t:=G.top i l hi (by rw [e3];rfl);exact ⟨p1 _ e3,by omega⟩
  | put l=>
   have t:=G.top i (l+1) hi (by rw [e3];rfl);exact ⟨p2 _ e3,by omega⟩
  | holds v=>
   refine ⟨λx hx=>?_,?_,G.own hi e3⟩
   ·rw [G.view i v hi e3] at hx;have:=(vC hx).1;omega
   ·rw [G.view i v hi e3];exact yK _ _
theorem qN:bp m ⟨hs.map boxOf,hs⟩=none:=by
 have fn:∀ {β:Type} {f:Nat->Option β},(∀ j,j<m->f j=none)->(List.range m).findSome? f=none:=λ{β f} a=>by
  rcases K6 f m with ⟨_,e⟩ | ⟨j,y,g1,g2,g3,g4⟩
  ·exact e
  ·grind
 unfold bp;rw [fn λj hj=>?_]
 ·rw [fn λj hj=>?_]
  ·refine fn λj hj=>?_;show (match hs[j]? with
    | some (.holds v)=>if v=ups (hs.map boxOf) v.length then none else some (("view" : Str),j)
    | _=>none)=none
   rw [V0 (by omega)];cases e:hat hs j with
   | holds v=>
    show (if v=ups (hs.map boxOf) v.length then none else some (("view" : Str),j))=none;rw [if_pos (G.view j v (by omega) e)]
   | _=>rfl
  ·unfold t7;refine if_neg λz=>?_;have z:=z;have c:=G.cnt (j+1);have e:hs.countP (u9 (j+1))=(List.range hs.length).countP λi=>u9 (j+1) (hat hs i):=by
    conv=>lhs;rw [<- jq hs,Jy]
    rfl
   rw [tJ,e] at z;have:=jA (l:=List.range hs.length) (r:=λi=>efB (j+1) (hat hs i)) (λi _ q=>⟨CD q,zZ q⟩) λi _ q=>yV q;unfold nE at c;omega
 ·unfold q9;refine if_pos ?_;rw [Fz]
end
def Tok (d:D):Prop:=∃ n,n<=40/\Any n 100000 d
theorem Any.tok (h:Any n N d) (a:n<=40) (b:N<=100000):Tok d:=⟨n,a,h.pl,h.dp,FD h.sz b⟩
theorem LsOk.any (F:LsOk m r) (i:m<=6):Any 1 4000 r.d:=by
 have bl:=F.bl;have f:=F.hl;have b:Sml 1 400 (.tup (r.bx.map bxD)):=(Sml.tup (n:=0) (N:=60) (m:=6) (Smls.map λo c=>by
  cases o with
  | none=>exact Sml.non
  | some g=>exact Sml.nat (by have:=F.bs g c;omega)) (by rw [En];omega)).mono (by decide) (by decide)
 have a:Sml 3 3500 (.tup r.hs):=(Sml.tup (m:=6) F.hd (by omega)).mono (by decide) (by decide);have j:=b.sz;have e:=a.sz;refine ⟨Pln.up _ ⟨b.pl,a.pl,trivial⟩,?_,?_⟩
 ·have h:=b.dp;have d:=a.dp;show max (L3.dp (.tup (r.bx.map bxD))) (max (L3.dp (.tup r.hs)) 0)+1<=3+1;omega
 ·show L3.sz (.tup (r.bx.map bxD))+2+(L3.sz (.tup r.hs)+2+0)+3<=4000;omega
theorem Fit.ls (F:Fit m r) (d:m<=6):LsOk m ⟨r.bx,r.hs.map Hd.d⟩:=by
 refine ⟨F.bl,by show (r.hs.map Hd.d).length=m;rw [En,F.hl],λg j=>by have:=F.bs g j;omega,λh f=>?_⟩;obtain ⟨a,b,rfl⟩:=FX.mp f;obtain ⟨i,c,e⟩:=Gy b;exact (F.hd i a (by rw [Em c,e])).sm d
theorem mr {m:Nat} (c:m<=6) {d:D} (h:Tok d) (k:Nat) (S:Sto):Ok (rn (k+8) wM [.int (m:Int),d]) S λt S'=>t=.bl true/\∃ R,S'=S++R:=by
 obtain ⟨n,b,a⟩:=h;exact kf c b (by omega) a k S
theorem vq (ns:List Int) (i:Nat) (b:i<5) (S:Sto) (k:Nat):∃ ms:List Int,rn (k+1) xz [.scr (ns.map D.int),.int (i:Int)] S=.ok (.ref S.length) (S++[m9 ms i 0 (17 * i)]):=by
 obtain ⟨ms,a⟩:=rf ns;refine ⟨ms,?_⟩;rw [rn,b9 rfl,sE,a7 (show slD (.scr (ns.map D.int)) none (some 63) S=.ok (.lst (v5 (ns.map D.int) none (some 63))) S from rfl),a];have:i=0\/i=1\/i=2\/i=3\/i=4:=by omega
 rcases this with rfl | rfl | rfl | rfl | rfl <;> kernel_rfl
def Ths (q n:Nat) (S:Sto):Prop:=∃ a:List D,S[q]?=some (.lst a)/\a.length=n/\∀ d∈a,Tok d
theorem Ths.keep (h:Ths q n S) (e:S'[q]?=S[q]?):Ths q n S':=by
 obtain ⟨c,a,b⟩:=h;exact ⟨c,by rw [e];exact a,b⟩
theorem Ths.lt (h:Ths q n S):q<S.length:=by
 obtain ⟨ts,a,_⟩:=h;grind
theorem Ths.app (h:Ths q n S) (f:n<100) {d:D} (hd:Tok d):∃ S',lstOf (.ref q) S=.ok (h.choose) S/\C9 (.ref q) [d] S=.ok .non S'/\Ths q (n+1) S'/\∀ p,p≠q->S'[p]?=S[p]?:=by
 obtain ⟨a,b,c⟩:=h.choose_spec;refine ⟨S.set q (.lst (h.choose++[d])),T5 a,cR a (by rw [Fp];omega),⟨_,FA (Eo.mp a).1,by simp [b],λx g=>?_⟩,λp e=>Ff (Ne.symm e)⟩;grind
theorem wU {S:Sto} {R:Sto} {q:Nat} (h:q<S.length):(S++R)[q]?=S[q]?:=by grind
section
variable {ns:List Int} {sc:D} {m:Nat} (m1:1<=m) (m6:m<=6) {r:Ls} (F:LsOk m r)
def cD (sc:D) (kk:D) (p:Nat) (m:Nat) (r:Ls) (q:Nat) (o7 o8 o9:Option D):L3.Env:=[some sc,some kk,some (.ref p),some (.int (m:Int)),some r.d,some (.ref q),o7,o8,o9]
include m1 m6 F
theorem Di {p q N n:Nat} {kk:D} {S:Sto} (w:Fw ns p (N+8 * 200) S) (T:Ths q n S) (hn:n<=10) (pq:p≠q) (o7 o8 o9:Option D):Ok (h8 (D5 0 8) (λd ρ=>some (ρ.set 6 (some d))) (G1 (rn 8)) (8+1) 0 (cD sc kk p m r q o7 o8 o9)) S λfl S'=>∃ ρ',fl=.nx ρ'/\∃ o7 o8 o9,ρ'=cD sc kk p m r q o7 o8 o9/\Fw ns p N S'/\Ths q (n+8) S':=by
 refine (Ok.loop (n:=8) (λi ρ S'=>∃ o7 o8 o9,ρ=cD sc kk p m r q o7 o8 o9/\Fw ns p (N+(8-i) * 200) S'/\Ths q (n+i) S') (λρ S' _=>t0 8 S') ?_ ⟨_,_,_,rfl,w.less (by omega),T⟩).mono ?_
 ·rintro i ρ S1 hi ⟨o7,o8,o9,rfl,w1,T1⟩;refine ⟨.int (i:Int),_,y4 hi S1,rfl,?_⟩;unfold G1;rw [Y9];refine Ok.first<|Ok.cg (cH ..)<|Ok.bind ((cq (N:=N+(8-(i+1)) * 200+134) (m:=m) (w1.less (by omega)) (by omega) m6 F 5).mono ?_);rintro _ S2 ⟨w2,⟨r2,rfl,F2⟩,k2⟩;have T2:=T1.keep (k2 q T1.lt (Ne.symm pq));refine Ok.nxt<|Ok.cg (bn ..)<|Ok.bind ((i6 (N:=N+(8-(i+1)) * 200+133) (m:=4) (w2.less (by omega)) (by omega) (by omega) 7).mono ?_);rintro _ S3 ⟨v,rfl,hv,w3,_,k3⟩;have T3:=T2.keep (k3 q (Ne.symm pq));have hb:∃ c:Nat,([.int 0,.int 0,.int 1,.int 2]:List D)[v]?=some (.int (c:Int))/\c<=2:=by
   have:v=0\/v=1\/v=2\/v=3:=by omega
   rcases this with rfl | rfl | rfl | rfl
   ·exact ⟨0,rfl,by omega⟩
   ·exact ⟨0,rfl,by omega⟩
   ·exact ⟨1,rfl,by omega⟩
   ·exact ⟨2,rfl,by omega⟩
  obtain ⟨c,ec,hc⟩:=hb;refine Ok.eq (lM S3 ec)<|Ok.eq (p6 (n:=c) (by omega) S3)<|Ok.bind ((Ok.loop (n:=c) (λj ρ S'=>∃ (r':Ls) (o9:Option D),ρ=cD sc kk p m r q (some (.int (i:Int))) (some r'.d) o9/\LsOk m r'/\Fw ns p (N+(8-(i+1)) * 200+(c-j) * 60) S'/\Ths q (n+i) S') (λρ S' _=>t0 c S') ?_ ⟨r2,_,rfl,F2,w3.less (by omega),T3⟩).mono ?_)
  ·rintro j ρ S4 hj ⟨r4,o9,rfl,F4,w4,T4⟩;refine ⟨.int (j:Int),_,y4 hj S4,rfl,?_⟩;unfold E2;rw [N8];refine Ok.first<|Ok.cg (Q7 ..)<|Ok.bind ((cq (N:=N+(8-(i+1)) * 200+(c-(j+1)) * 60) (m:=m) (w4.less (by omega)) (by omega) m6 F4 5).mono ?_);rintro _ S5 ⟨w5,⟨r5,rfl,F5⟩,k5⟩;exact Ok.ret ⟨_,.inl rfl,r5,_,rfl,F5,w5,T4.keep (k5 q T4.lt (Ne.symm pq))⟩
  ·rintro _ S4 ⟨ρ,rfl,r4,o9,rfl,F4,w4,T4⟩;obtain ⟨S5,a1,a2,a3,a4⟩:=T4.app (by omega) (Any.tok (F4.any m6) (by omega) (by omega));exact Ok.nxt<|Ok.cg (bu ..)<|Ok.eq a1<|Ok.eq a2<|Ok.ret ⟨_,.inl rfl,_,_,_,rfl,(w4.less (by omega)).keep (a4 p pq),a3⟩
 ·rintro _ S1 ⟨ρ,rfl,o7,o8,o9,rfl,w1,T1⟩;exact ⟨_,rfl,_,_,_,rfl,w1.less (by omega),T1⟩
theorem six {p q N n:Nat} {o:D} {S:Sto} (w:Fw ns p (N+8 * 60) S) (T:Ths q n S) (W:n<=20) (g:p≠q) (c e f:Option D):Ok (h8 (D5 0 8) (λd ρ=>some (ρ.set 6 (some d))) (F7 (rn 8)) (8+1) 0 (cD sc o p m r q c e f)) S λE S'=>∃ h,E=.nx h/\∃ c e f,h=cD sc o p m r q c e f/\Fw ns p N S'/\Ths q (n+8) S':=by
 have a:=F.any m6;refine (Ok.loop (λi ρ S'=>∃ c e f,ρ=cD sc o p m r q c e f/\Fw ns p (N+(8-i) * 60) S'/\Ths q (n+i) S') (λρ S' _=>t0 8 S') ?_ ⟨_,_,_,rfl,w.less (by omega),T⟩).mono ?_
 ·rintro i ρ S1 M ⟨c,e,f,rfl,R,P⟩;refine ⟨.int (i:Int),_,y4 M S1,rfl,?_⟩;unfold F7;rw [Z1];refine Ok.first<|Ok.cg (cA ..)<|Ok.bind ((du 5 r.d 1 (N+(8-(i+1)) * 60+30) S1 a.pl (by have:=a.dp;omega) a.dp (by omega) (by have:=a.sz;omega) (R.less (by omega))).mono ?_);rintro d S2 ⟨b,C,B⟩;have s:=P.keep (B.2 q (Ne.symm g));have U:=b.dp;have z2:=b.sz;have V:=a.dp;have za:=a.sz;have y:Any 2 9000 d:=⟨b.pl,by omega,by omega⟩;obtain ⟨G,z,_⟩:=s;have s:Ths q (n+i) S2:=⟨G,z,‹_›⟩;refine Ok.nxt<|Ok.cg (bz ..)<|Ok.eq (T5 z)<|Ok.bind ((i6 (N:=N+(8-(i+1)) * 60+29) (m:=3) (C.less (by omega)) (by omega) (by omega) 7).mono ?_);rintro _ t ⟨v,rfl,Y,x,_,Q⟩;have A:=s.keep (Q q (Ne.symm g));refine Ok.eq (B5 _ _ t)<|Ok.eq (c9 _ t)<|Ok.ite (λ_=>?_) λ_=>?_
  ·refine Ok.bind ((du 5 d 2 (N+(8-(i+1)) * 60) t b.pl (by omega) y.dp (by omega) (by omega) (x.less (by omega))).mono ?_);rintro d4 X ⟨u,I,K⟩;have J:=A.keep (K.2 q (Ne.symm g));have O:=u.dp;have Z:=u.sz;obtain ⟨H,L,l,j,k⟩:=J.app (by omega) (Any.tok ⟨u.pl,by omega,by omega⟩ (by omega) (by omega));exact Ok.eq l<|Ok.ret ⟨_,.inl rfl,_,_,_,rfl,I.keep (k p g),j⟩
  ·obtain ⟨H,L,l,j,k⟩:=A.app (by omega) (Any.tok y (by omega) (by omega));exact Ok.eq l<|Ok.ret ⟨_,.inl rfl,_,_,_,rfl,(x.less (by omega)).keep (k p g),j⟩
 ·grind
theorem Ck {p q N n:Nat} {g:D} {S:Sto} {a:List D} (w:Fw ns p N S) (l:∀ d∈a,Tok d) (b c e:Option D):Ok (h8 (aZ a) (λd ρ=>some (ρ.set 7 (some d))) (G4 (rn 8)) (a.length+1) 0 (cD sc g p m r q b c e)) S λk S'=>∃ f,k=.nx f/\∃ b c e,f=cD sc g p m r q b c e/\Fw ns p N S':=by
 refine (Ok.loop (λi ρ S'=>∃ b c e,ρ=cD sc g p m r q b c e/\Fw ns p N S') (λρ S' _=>by show some a[a.length]?=_;rw [FO (Es _)]) ?_ ⟨_,_,_,rfl,w⟩).mono ?_
 ·rintro i ρ S1 h ⟨b,c,e,rfl,j⟩;refine ⟨a[i],_,by show some a[i]?=_;rw [Em h],rfl,?_⟩;unfold G4;rw [Y7];refine Ok.first<|Ok.cg (bv ..)<|Ok.bind ((mr m6 (l _ (FK h)) 0 S1).mono ?_);rintro _ S2 ⟨rfl,R,rfl⟩;exact Ok.eq rfl<|Ok.neg (by decide)<|Ok.ret ⟨_,.inl rfl,_,_,_,rfl,j.keep (wU j.lt)⟩
 ·grind
end
theorem rP:∀ d∈([.non,.bl true,.tup [],.str "levels",.int 0]:List D),Tok d:=by
 intro d hd;have s:=Fi.mp (show ([.non,.bl true,.tup [],.str "levels",.int 0]:List D).all (smB 1 100)=true by decide +kernel) d hd;obtain ⟨a,b,c⟩:=y3 s;exact ⟨0,by omega,a,by omega,by omega⟩
theorem Ap {m:Nat} (S:Sto):G3 (.int (m:Int)) (.int 6) S=.ok (.int ((m % 6:Nat):Int)) S:=by
 show (if (0:Int)<6 then ret (D.int ((m:Int) % 6)) else bad) S=_;rw [if_pos (by decide),show ((m:Int) % 6)=((m % 6:Nat):Int) by omega];rfl
def mO (r a b:Ls):List D:=[r.d,a.d,b.d,.lst [.tup (r.bx.map bxD),.tup r.hs],.tup (r.bx.map bxD),.tup [.tup (r.bx.map bxD),.tup r.hs,.tup []]]
def wI:List D:=[.non,.bl true,.tup [],.str "levels",.int 0]
theorem zC (ns:List Int):∃ S',rn 9 rY [.scr (ns.map D.int)] []=.ok (.bl true) S':=by
 suffices h:Ok (rn 9 rY [.scr (ns.map D.int)]) [] λd _=>d=.bl true by
  obtain ⟨d,S',e,rfl⟩:=h;exact ⟨S',e⟩
 rw [rn,b9 rfl,uM,vE];refine Ok.first<|Ok.cg (CW ..)<|Ok.eq (p6 (n:=5) (by omega) _)<|Ok.bind ((Ok.loop (λi ρ S'=>∃ (H L w M B g k j:Option D),ρ=[some (.scr (ns.map D.int)),H,L,w,M,B,g,k,j]) (λρ S' _=>t0 5 S') ?_ ⟨_,_,_,_,_,_,_,_,rfl⟩).mono ?_)
 ·rintro i ρ S hi ⟨H,L,w,M,B,g,k,j,rfl⟩;refine ⟨.int (i:Int),_,y4 hi S,rfl,?_⟩;unfold fu;rw [ed];obtain ⟨ms,ew⟩:=vq ns i hi S 7;refine Ok.first<|Ok.cg (kr ..)<|Ok.eq ew ?_;have A:Fw ms S.length 5000 (S++[m9 ms i 0 (17 * i)]):=⟨i,0,17 * i,by simp,by omega,by omega,by omega,by omega⟩;generalize (S++[m9 ms i 0 (17 * i)]:Sto)=S0 at A;generalize S.length=p at A;refine Ok.nxt<|Ok.cg (lY ..)<|Ok.bind ((i6 (N:=4900) (m:=6) (A.less (by omega)) (by omega) (by omega) 7).mono ?_);rintro _ S1 ⟨x,rfl,hx,w1,_,_⟩;obtain ⟨m,em,l,b⟩:=xI hx;refine Ok.eq (lM S1 em)<|Ok.nxt<|Ok.cg (kW ..)<|Ok.bind ((zc (N:=4700) (w1.less (by omega)) l b 5).mono ?_);rintro _ S2 ⟨X,hs,rfl,P,G⟩;have Y:=rS P G;have J:=qN P G;have F:=Y.ls b;refine Ok.nxt<|Ok.cg (lf ..)<|Ok.bind ((dz b (o:=none) 1 S2 (λ_=>(ap Y b 1 S2).1 J) (λy z=>by cases z)).mono ?_);rintro _ O ⟨rfl,R,rfl⟩;have T:=X.keep (wU (R:=R) X.lt);generalize S2++R=O at T;change LsOk m ⟨hs.map boxOf,hs.map Hd.d⟩ at F;have er:lvD hs=(⟨hs.map boxOf,hs.map Hd.d⟩:Ls).d:=rfl;rw [er];generalize (⟨hs.map boxOf,hs.map Hd.d⟩:Ls)=r at F;have a:=F.any b;refine Ok.eq (xF O)<|Ok.eq rfl<|Ok.neg (by decide)<|Ok.nxt<|Ok.cg (mP ..)<|Ok.bind ((gH (N:=4600) (T.less (by omega)) l b 6).mono ?_);rintro _ S4 ⟨w4,⟨s,rfl,F4⟩,_⟩;refine Ok.bind ((gH (N:=4500) (w4.less (by omega)) l b 6).mono ?_);rintro _ f ⟨Q,⟨t,rfl,F5⟩,_⟩;have t4:=Any.tok (F4.any b) (by omega) (by omega);have t5:=Any.tok (F5.any b) (by omega) (by omega);have V:=Any.tok a (by omega) (by omega);have pl:=a.pl;have U:=a.dp;have W:=a.sz;have dp':max (L3.dp (.tup (r.bx.map bxD))) (max (L3.dp (.tup r.hs)) 0)+1<=4:=U;have sz':L3.sz (.tup (r.bx.map bxD))+2+(L3.sz (.tup r.hs)+2+0)+3<=4000:=W;have t1:Tok (.lst [.tup (r.bx.map bxD),.tup r.hs]):=⟨1,by omega,pl,U,FD W (by omega)⟩;have t2:Tok (.tup (r.bx.map bxD)):=⟨1,by omega,pl.1,by omega,by omega⟩;have t3:Tok (.tup [.tup (r.bx.map bxD),.tup r.hs,.tup []]):=by
   refine ⟨1,by omega,⟨pl.1,pl.2.1,trivial,trivial⟩,?_,?_⟩
   ·show max (L3.dp (.tup (r.bx.map bxD))) (max (L3.dp (.tup r.hs)) (max 1 0))+1<=3+1;omega
   ·show L3.sz (.tup (r.bx.map bxD))+2+(L3.sz (.tup r.hs)+2+(3+2+0))+3<=100000;omega
  have E:i7 r.d (.tup [.tup []]) f=.ok (.tup [.tup (r.bx.map bxD),.tup r.hs,.tup []]) f:=by
   have c:=cat_tup (S:=f) (xs:=[.tup (r.bx.map bxD),.tup r.hs]) (ys:=[.tup []]) (by show 2+1<=sizeLine;decide);exact c
  refine Ok.eq rfl<|Ok.eq rfl<|Ok.eq E<|Ok.eq (show newL _ f=.ok (.ref f.length) (f++[.lst (mO r s t)]) from rfl) ?_;have K:Ths f.length 6 (f++[.lst (mO r s t)]):=by
   refine ⟨mO r s t,by simp,rfl,λd hd=>?_⟩;simp only [mO,Ez,Ge,Ia] at hd;rcases hd with rfl | rfl | rfl | rfl | rfl | rfl <;> assumption
  have Z:=Q.push (.lst (mO r s t));have v:p≠f.length:=by have:=Q.lt;omega
  generalize (f++[.lst (mO r s t)]:Sto)=S6 at K Z;generalize f.length=q at K v;refine Ok.nxt<|Ok.cg (kT ..)<|Ok.eq (p6 (n:=8) (by omega) _)<|Ok.bind ((Di (N:=2500) l b F (Z.less (by omega)) K (by omega) v _ _ _).mono ?_);rintro _ S7 ⟨_,rfl,g,k,j,rfl,w7,T7⟩;refine Ok.nxt<|Ok.cg (kn ..)<|Ok.eq (p6 (n:=8) (by omega) _)<|Ok.bind ((six (N:=1000) l b F (w7.less (by omega)) T7 (by omega) v _ _ _).mono ?_);rintro _ u ⟨_,rfl,g,k,j,rfl,w8,I,e8,l8,tk⟩;have sl:(1001:Nat)<=sizeLine:=by decide
  have ea:i7 (.ref q) (.lst [.non,.bl true,.tup [],.str "levels",.int 0]) u=.ok (.lst (I++wI)) u:=by
   show bind (lstOf (.ref q)) _ u=_;rw [a7 (T5 e8)];show (if I.length+5<=sizeLine then ret (D.lst (I++wI)) else bad) u=_;rw [if_pos (by omega)];rfl
  refine Ok.nxt<|Ok.cg (mS ..)<|Ok.eq ea<|Ok.eq rfl<|Ok.bind ((Ck (n:=0) l b F w8 (λd hd=>by
   rcases Fo.mp hd with z | z
   ·exact tk d z
   ·exact rP d z) _ _ _).mono ?_)
  rintro _ C ⟨_,rfl,g,k,j,rfl,w9⟩;refine Ok.nxt<|Ok.cg (lJ ..)<|Ok.eq (Ap C)<|Ok.eq (m7 _ 1 C)<|Ok.bind ((mr (by omega) V 0 C).mono ?_);rintro _ S10 ⟨rfl,R,rfl⟩;refine Ok.eq rfl<|Ok.neg (by decide)<|Ok.eq (m7 m 4 _)<|Ok.eq (Ap _)<|Ok.eq (m7 _ 1 _)<|Ok.bind ((mr (by omega) V 0 _).mono ?_);rintro _ S11 ⟨rfl,R,rfl⟩;exact Ok.eq rfl<|Ok.neg (by decide)<|Ok.ret ⟨_,.inl rfl,_,_,_,_,_,_,_,_,rfl⟩
 ·rintro _ S' ⟨ρ,rfl,H,L,w,M,B,g,k,j,rfl⟩;exact Ok.nxt<|Ok.cg (Cs ..)<|Ok.ret rfl
end L3.K22
namespace L3.K22
open PySem L2 Hn
abbrev iHE:Stmt:=N4 (top 1) 0
abbrev iNS:Stmt:=N4 (top 2) 0
abbrev iNP:Stmt:=N4 (top 3) 0
abbrev iND:Stmt:=N4 (top 4) 0
abbrev iTM:Stmt:=N4 (top 5) 0
abbrev iNT:Stmt:=N4 (top 6) 0
section
variable {P:Program} {w:World} {K:PySem.W.Frag} {mg:Str->Option Value} {base:Heap} {f fB B:Addr} {fd fdB:FuncData}
theorem EC:FnScope ["self","text"] ["self","text"] (b7 iHE):=⟨rfl,rfl,rfl,by decide +kernel,rfl,by decide +kernel,by decide +kernel⟩
theorem ce (F:Fun K "__init__" "HandError.__init__" iHE f fd) (T:TxE K mg B fB):FnOk P w K mg base CX0 1 f fd ["self","text"] (spHE K):=by
 refine F.ok EC (λvs H Q E h=>?_) (λb A a s H vs Q E e h=>?_)
 ·obtain ⟨x,y,C,d,rfl,_⟩:=h;rfl
 ·obtain ⟨x,y,C,d,rfl,M,c,k⟩:=h;refine ⟨_,M5 (E9 (pA rfl T.mV T.fV (i5 (pv 0) (i5 (pv 1) B0)))),?_⟩;exact ⟨_,rfl,_,rfl,x,C,d,y,rfl,M,c,k⟩
theorem Du:FnScope ["self","hand"] ["self","hand"] (b7 iNS):=⟨rfl,rfl,rfl,by decide +kernel,rfl,by decide +kernel,by decide +kernel⟩
theorem BY (F:Fun K "__init__" "NoStep.__init__" iNS f fd) (T:TxE K mg B fB) (o:Fun K "__init__" "HandError.__init__" iHE fB fdB) (r:Binds K fdB ["self","text"] []):FnOk P w K mg base CX0 2 f fd ["self","hand"] (sp1 K "hand"):=by
 have G:FnOk P w K mg base CX0 1 fB fdB ["self","text"] (spHE K):=ce o T;refine F.ok Du (λvs H Q E h=>?_) (λj A e s H vs Q E g h=>?_)
 ·obtain ⟨x,v,C,m,rfl,_⟩:=h;rfl
 ·obtain ⟨x,v,C,m,rfl,M,t,i,a,k⟩:=h;have n:(A.deeper (PyProof.Rows.envOfC "NoStep.__init__" (b7 iNS) s.heap.objs.size f j)).units+80<cLine:=by have:=g.un;omega
  refine ⟨_,v8 (E9 (L4 rfl T.mB T.sB T.rB T.cB T.kB G g r X7 (i5 (pv 0) (i5 (U1 (B6 (G0 g.gd n (pv 1) (B6 U9))) (by decide)) B0))))
   (M5 (E8 (pv 0) (pv 1) rfl)),?_⟩
  refine ⟨_,rfl,_,rfl,m,a.at_,a.sh,a.l1,a.l2,λz hz=>?_⟩;refine ⟨x,.str z,C,none,rfl,M,i,?_⟩;refine ⟨_,rfl,_,rfl,x,C,rfl,M,t,.inl ⟨i,λd hd=>?_⟩⟩;have l:d≠x:=λq=>by rw [q,i] at hd;cases hd
  exact k _ ⟨d,hd,l,b6,by rw [a8 l,b6],λb p c=>by rw [a8 p,a8 c]⟩
theorem EA:FnScope ["self","word","at"] ["self","word","at"] (b7 iNP):=⟨rfl,rfl,rfl,by decide +kernel,rfl,by decide +kernel,by decide +kernel⟩
theorem Bb (F:Fun K "__init__" "NoPaper.__init__" iNP f fd) (T:TxE K mg B fB) (r:Fun K "__init__" "HandError.__init__" iHE fB fdB) (y:Binds K fdB ["self","text"] []):FnOk P w K mg base CX0 2 f fd ["self","word","at"] (sp2 K "word" "at"):=by
 have G:FnOk P w K mg base CX0 1 fB fdB ["self","text"] (spHE K):=ce r T;refine F.ok EA (λvs H Q E h=>?_) (λm A j s H vs Q E e h=>?_)
 ·obtain ⟨x,v,u,C,o,p,rfl,_⟩:=h;rfl
 ·obtain ⟨x,v,u,C,o,p,rfl,M,I,D,l,i,g,k⟩:=h;have n:(A.deeper (PyProof.Rows.envOfC "NoPaper.__init__" (b7 iNP) s.heap.objs.size f m)).units+80<cLine:=by have:=e.un;omega
  refine ⟨_,v8 (E9 (L4 rfl T.mB T.sB T.rB T.cB T.kB G e y X7 (i5 (pv 0) (i5 (U1 (B6 (G0 e.gd n (pv 1) (B6 (G0 e.gd n (pv 2) U9)))) (by decide)) B0))))
   (v8 (E8 (pv 0) (pv 1) rfl) (M5 (E8 (pv 0) (pv 2) rfl))),?_⟩
  refine ⟨_,rfl,_,rfl,o,i.at_,i.sh,i.l1,i.l2,_,rfl,p,g.at_,g.sh,g.l1,g.l2,λz hz=>?_⟩;refine ⟨x,.str z,C,none,rfl,M,l,?_⟩;refine ⟨_,rfl,_,rfl,x,C,rfl,M,I,.inl ⟨l,λd hd=>?_⟩⟩;have c:d≠x:=λq=>by rw [q,l] at hd;cases hd
  refine ⟨_,rfl,_,rfl,x,C,rfl,M,D,.inr ⟨d,_,c,b6,by rw [a8 c,b6],by show 1<900;decide,?_⟩⟩;refine k _ ⟨d,hd,c,by rw [a8 c.symm,b6],by rw [b6,kA],λb t a=>by rw [a8 a,a8 t,a8 a]⟩
theorem Dz:FnScope ["self","word","at"] ["self","word","at"] (b7 iND):=⟨rfl,rfl,rfl,by decide +kernel,rfl,by decide +kernel,by decide +kernel⟩
theorem DC (F:Fun K "__init__" "NoStand.__init__" iND f fd) (T:TxE K mg B fB) (r:Fun K "__init__" "HandError.__init__" iHE fB fdB) (y:Binds K fdB ["self","text"] []):FnOk P w K mg base CX0 2 f fd ["self","word","at"] (sp2 K "word" "at"):=by
 have G:FnOk P w K mg base CX0 1 fB fdB ["self","text"] (spHE K):=ce r T;refine F.ok Dz (λvs H Q E h=>?_) (λm A j s H vs Q E e h=>?_)
 ·obtain ⟨x,v,u,C,o,p,rfl,_⟩:=h;rfl
 ·obtain ⟨x,v,u,C,o,p,rfl,M,I,D,l,i,g,k⟩:=h;have n:(A.deeper (PyProof.Rows.envOfC "NoStand.__init__" (b7 iND) s.heap.objs.size f m)).units+80<cLine:=by have:=e.un;omega
  refine ⟨_,v8 (E9 (L4 rfl T.mB T.sB T.rB T.cB T.kB G e y X7 (i5 (pv 0) (i5 (U1 (B6 (G0 e.gd n (pv 1) (B6 (G0 e.gd n (pv 2) U9)))) (by decide)) B0))))
   (v8 (E8 (pv 0) (pv 1) rfl) (M5 (E8 (pv 0) (pv 2) rfl))),?_⟩
  refine ⟨_,rfl,_,rfl,o,i.at_,i.sh,i.l1,i.l2,_,rfl,p,g.at_,g.sh,g.l1,g.l2,λz hz=>?_⟩;refine ⟨x,.str z,C,none,rfl,M,l,?_⟩;refine ⟨_,rfl,_,rfl,x,C,rfl,M,I,.inl ⟨l,λd hd=>?_⟩⟩;have c:d≠x:=λq=>by rw [q,l] at hd;cases hd
  refine ⟨_,rfl,_,rfl,x,C,rfl,M,D,.inr ⟨d,_,c,b6,by rw [a8 c,b6],by show 1<900;decide,?_⟩⟩;refine k _ ⟨d,hd,c,by rw [a8 c.symm,b6],by rw [b6,kA],λb t a=>by rw [a8 a,a8 t,a8 a]⟩
theorem Dk:FnScope ["self","word"] ["self","word"] (b7 iTM):=⟨rfl,rfl,rfl,by decide +kernel,rfl,by decide +kernel,by decide +kernel⟩
theorem Bu (F:Fun K "__init__" "TooMany.__init__" iTM f fd) (T:TxE K mg B fB) (o:Fun K "__init__" "HandError.__init__" iHE fB fdB) (r:Binds K fdB ["self","text"] []):FnOk P w K mg base CX0 2 f fd ["self","word"] (sp1 K "word"):=by
 have G:FnOk P w K mg base CX0 1 fB fdB ["self","text"] (spHE K):=ce o T;refine F.ok Dk (λvs H Q E h=>?_) (λj A e s H vs Q E g h=>?_)
 ·obtain ⟨x,v,C,m,rfl,_⟩:=h;rfl
 ·obtain ⟨x,v,C,m,rfl,M,t,i,a,k⟩:=h;have n:(A.deeper (PyProof.Rows.envOfC "TooMany.__init__" (b7 iTM) s.heap.objs.size f j)).units+80<cLine:=by have:=g.un;omega
  refine ⟨_,v8 (E9 (L4 rfl T.mB T.sB T.rB T.cB T.kB G g r X7 (i5 (pv 0) (i5 (U1 (B6 (G0 g.gd n (pv 1) U9)) (by decide)) B0))))
   (M5 (E8 (pv 0) (pv 1) rfl)),?_⟩
  refine ⟨_,rfl,_,rfl,m,a.at_,a.sh,a.l1,a.l2,λz hz=>?_⟩;refine ⟨x,.str z,C,none,rfl,M,i,?_⟩;refine ⟨_,rfl,_,rfl,x,C,rfl,M,t,.inl ⟨i,λd hd=>?_⟩⟩;have l:d≠x:=λq=>by rw [q,i] at hd;cases hd
  exact k _ ⟨d,hd,l,b6,by rw [a8 l,b6],λb p c=>by rw [a8 p,a8 c]⟩
theorem Dj:FnScope ["self","type_here"] ["self","type_here"] (b7 iNT):=⟨rfl,rfl,rfl,by decide +kernel,rfl,by decide +kernel,by decide +kernel⟩
theorem Cg (F:Fun K "__init__" "NoType.__init__" iNT f fd) (T:TxE K mg B fB) (o:Fun K "__init__" "HandError.__init__" iHE fB fdB) (r:Binds K fdB ["self","text"] []):FnOk P w K mg base CX0 2 f fd ["self","type_here"] (sp1 K "type_here"):=by
 have G:FnOk P w K mg base CX0 1 fB fdB ["self","text"] (spHE K):=ce o T;refine F.ok Dj (λvs H Q E h=>?_) (λj A e s H vs Q E g h=>?_)
 ·obtain ⟨x,v,C,m,rfl,_⟩:=h;rfl
 ·obtain ⟨x,v,C,m,rfl,M,t,i,a,k⟩:=h;have n:(A.deeper (PyProof.Rows.envOfC "NoType.__init__" (b7 iNT) s.heap.objs.size f j)).units+80<cLine:=by have:=g.un;omega
  refine ⟨_,v8 (E9 (L4 rfl T.mB T.sB T.rB T.cB T.kB G g r X7 (i5 (pv 0) (i5 (U1 (B6 (G0 g.gd n (pv 1) U9)) (by decide)) B0))))
   (M5 (E8 (pv 0) (pv 1) rfl)),?_⟩
  refine ⟨_,rfl,_,rfl,m,a.at_,a.sh,a.l1,a.l2,λz hz=>?_⟩;refine ⟨x,.str z,C,none,rfl,M,i,?_⟩;refine ⟨_,rfl,_,rfl,x,C,rfl,M,t,.inl ⟨i,λd hd=>?_⟩⟩;have l:d≠x:=λq=>by rw [q,i] at hd;cases hd
  exact k _ ⟨d,hd,l,b6,by rw [a8 l,b6],λb p c=>by rw [a8 p,a8 c]⟩
end
end L3.K22
section
namespace L3.K22
open PySem PySem.Spec PyProof.Rows L2 Hn
theorem all_mk {l:PySem.W.OpenLaw} {w:World} {K:PySem.W.Frag} {h:Heap} {mg:Str->Option Value} {fa B fB C1 f1 C2 f2 C3 f3 C4 f4 C5 f5 C6 g0 g1 g2 g3 g4 g5 g6 g7 g8 g9 g10 g11 g12 g13 g14 g15 g16 g17 g18 g19 g20 g21 g22 g23 g24 g25 g26 g27:Addr} (X:K.In h) (G:h.Ns mainGlobals mg) (hfa:mg "law" = some (.ref fa))
  {odHE anHE odNS anNS odNP anNP odND anND odTM anTM odNT anNT:Option Addr} {slHE slNS slNP slND slTM slNT:Array (Option Value)} {ocHE kVHE dcHE pmHE cdHE ctHE ocNS kVNS dcNS pmNS cdNS ctNS ocNP kVNP dcNP pmNP cdNP ctNP ocND kVND dcND pmND cdND ctND ocTM kVTM dcTM pmTM cdTM ctTM ocNT kVNT dcNT pmNT cdNT ctNT:Value}
  (aHE:PySem.W.nsIn K mainGlobals "HandError" = some (some (.ref B))) (iHE_:PySem.W.findIn K (.ref B) "__init__" = some (some (.ref fB))) (nHE:PySem.W.isFn K (.ref fB)=true) (lHE:K.lookup fB=some ⟨ocHE,odHE,.func (PySem.W.fnOf "__init__" "HandError.__init__" (k8 (iHE)) (h9 (iHE)) (b7 (iHE)) .none kVHE dcHE pmHE anHE cdHE ctHE),slHE⟩) (cHE:PySem.W.codeIn K cdHE "HandError.__init__" = true) (kHE:PySem.W.keepIn K (.ref fB)=true)
  (aNS:PySem.W.nsIn K mainGlobals "NoStep" = some (some (.ref C1))) (iNS_:PySem.W.findIn K (.ref C1) "__init__" = some (some (.ref f1))) (nNS:PySem.W.isFn K (.ref f1)=true) (lNS:K.lookup f1=some ⟨ocNS,odNS,.func (PySem.W.fnOf "__init__" "NoStep.__init__" (k8 (iNS)) (h9 (iNS)) (b7 (iNS)) .none kVNS dcNS pmNS anNS cdNS ctNS),slNS⟩) (cNS:PySem.W.codeIn K cdNS "NoStep.__init__" = true) (kNS:PySem.W.keepIn K (.ref f1)=true)
  (aNP:PySem.W.nsIn K mainGlobals "NoPaper" = some (some (.ref C2))) (iNP_:PySem.W.findIn K (.ref C2) "__init__" = some (some (.ref f2))) (nNP:PySem.W.isFn K (.ref f2)=true) (lNP:K.lookup f2=some ⟨ocNP,odNP,.func (PySem.W.fnOf "__init__" "NoPaper.__init__" (k8 (iNP)) (h9 (iNP)) (b7 (iNP)) .none kVNP dcNP pmNP anNP cdNP ctNP),slNP⟩) (cNP:PySem.W.codeIn K cdNP "NoPaper.__init__" = true) (kNP:PySem.W.keepIn K (.ref f2)=true)
  (aND:PySem.W.nsIn K mainGlobals "NoStand" = some (some (.ref C3))) (iND_:PySem.W.findIn K (.ref C3) "__init__" = some (some (.ref f3))) (nND:PySem.W.isFn K (.ref f3)=true) (lND:K.lookup f3=some ⟨ocND,odND,.func (PySem.W.fnOf "__init__" "NoStand.__init__" (k8 (iND)) (h9 (iND)) (b7 (iND)) .none kVND dcND pmND anND cdND ctND),slND⟩) (cND:PySem.W.codeIn K cdND "NoStand.__init__" = true) (kND:PySem.W.keepIn K (.ref f3)=true)
  (aTM:PySem.W.nsIn K mainGlobals "TooMany" = some (some (.ref C4))) (iTM_:PySem.W.findIn K (.ref C4) "__init__" = some (some (.ref f4))) (nTM:PySem.W.isFn K (.ref f4)=true) (lTM:K.lookup f4=some ⟨ocTM,odTM,.func (PySem.W.fnOf "__init__" "TooMany.__init__" (k8 (iTM)) (h9 (iTM)) (b7 (iTM)) .none kVTM dcTM pmTM anTM cdTM ctTM),slTM⟩) (cTM:PySem.W.codeIn K cdTM "TooMany.__init__" = true) (kTM:PySem.W.keepIn K (.ref f4)=true)
  (aNT:PySem.W.nsIn K mainGlobals "NoType" = some (some (.ref C5))) (iNT_:PySem.W.findIn K (.ref C5) "__init__" = some (some (.ref f5))) (nNT:PySem.W.isFn K (.ref f5)=true) (lNT:K.lookup f5=some ⟨ocNT,odNT,.func (PySem.W.fnOf "__init__" "NoType.__init__" (k8 (iNT)) (h9 (iNT)) (b7 (iNT)) .none kVNT dcNT pmNT anNT cdNT ctNT),slNT⟩) (cNT:PySem.W.codeIn K cdNT "NoType.__init__" = true) (kNT:PySem.W.keepIn K (.ref f5)=true)
  (aNR:PySem.W.nsIn K mainGlobals "NoRow" = some (some (.ref C6))) (iNR:PySem.W.findIn K (.ref C6) "__init__" = some (some (.ref fB)))
  (fV:PySem.W.findCls K (.type "ValueError") (.type "type") "__init__" = some (.val (.builtin "ValueError.__init__"))) (sB:PySem.W.specialIn K (.ref B) "__getattribute__" = some (some (.builtin "type.__getattribute__"))) (rB:PySem.W.readsIn K B (.type "type")=true) (cB:PySem.W.findCls K (.ref B) (.type "type") "__init__" = some (.val (.ref fB)))
  (rxc:[B,C1,C2,C3,C4,C5,C6].all (xcB K)=true)
  (rjk:X6 K fB=false)
  (rsub:((List.range [B,C1,C2,C3,C4,C5,C6].length).all λc=>(List.range [B,C1,C2,C3,C4,C5,C6].length).all λc0=>isB (PySem.W.kitOne K (.ref (bj [B,C1,C2,C3,C4,C5,C6] fB c)) (.ref (bj [B,C1,C2,C3,C4,C5,C6] fB c0))) (Γ.sub c c0))=true)
  (rsV:([B,C1,C2,C3,C4,C5,C6].all λC=>isB (PySem.W.kitOne K (.ref C) (.type "ValueError")) true)=true)
  (rsT:([B,C1,C2,C3,C4,C5,C6].all λC=>tys.all λt=>isB (PySem.W.kitOne K (.ref C) (.type t)) false)=true)
  (rfl_:(Γ.flds.all λg=>[B,C1,C2,C3,C4,C5,C6].all λC=>isNo (PySem.W.findIn K (.ref C) g))=true)
  (rbl:(bnames.all λx=>(Γ.gl.lookup x).isSome||isNo (PySem.W.nsIn K mainGlobals x))=true)
  (dg0:GF K "is_whole" (top 9) g0)
  (dg1:GF K "is_within" (top 10) g1)
  (dg2:GF K "is_tuple_of" (top 11) g2)
  (dg3:GF K "are_rising_hands" (top 12) g3)
  (dg4:GF K "hands_up_to" (top 14) g4)
  (dg5:GF K "lets_levels" (top 16) g5)
  (dg6:GF K "is_level_stand" (top 17) g6)
  (dg7:GF K "is_hand_here" (top 18) g7)
  (dg8:GF K "box_due" (top 19) g8)
  (dg9:GF K "_law_well" (top 21) g9)
  (dg10:GF K "_law_draw" (top 22) g10)
  (dg11:GF K "_law_with" (top 23) g11)
  (dg12:GF K "_law_seen" (top 24) g12)
  (dg13:GF K "_law_refusal" (top 25) g13)
  (dg14:GF K "_law_odd" (top 26) g14)
  (dg15:GF K "_law_bent" (top 27) g15)
  (dg16:GF K "_law_level_rows" (top 28) g16)
  (dg17:GF K "_law_let_by" (top 29) g17)
  (dg18:GF K "_law_any_levels" (top 30) g18)
  (dg19:GF K "_law_is_whole" (top 31) g19)
  (dg20:GF K "_law_is_level_hand" (top 32) g20)
  (dg21:GF K "_law_is_levels" (top 33) g21)
  (dg22:GF K "_law_box_of" (top 34) g22)
  (dg23:GF K "_law_level_due" (top 35) g23)
  (dg24:GF K "_law_level_told" (top 36) g24)
  (dg25:GF K "_law_broken" (top 37) g25)
  (dg26:GF K "_law_judged_right" (top 38) g26)
  (dg27:GF K "law" (top 39) g27) :
  ∃ fd:FuncData,(∀ (s:Shared) (v:Value),BindsTo s fd ⟨[v],[]⟩ [("_law_script",v)])/\∀ base:Heap,K.In base->base.Ns mainGlobals mg->FnOk l.prog w K mg base CX0 12 fa fd ["_law_script"] (dZ K):=by
 have e:=hfa.symm.trans (Gu X G dg27.a);cases e;have RB:RowB K Γ [B,C1,C2,C3,C4,C5,C6] fB:=⟨rxc,rjk,rsub,rsV,rsT,rfl_,rbl⟩;have FHE:=K8 (st:=iHE) lHE cHE kHE;have bHE:=FHE.binds (ps:=["self","text"]) λ_ _ _ _ _ _ us hl=>D6 hl λ_ _=>rfl;have FNS:=K8 (st:=iNS) lNS cNS kNS;have bNS:=FNS.binds (ps:=["self","hand"]) λ_ _ _ _ _ _ us hl=>D6 hl λ_ _=>rfl;have FNP:=K8 (st:=iNP) lNP cNP kNP;have bNP:=FNP.binds (ps:=["self","word","at"]) λ_ _ _ _ _ _ us hl=>gU hl λ_ _ _=>rfl;have FND:=K8 (st:=iND) lND cND kND;have bND:=FND.binds (ps:=["self","word","at"]) λ_ _ _ _ _ _ us hl=>gU hl λ_ _ _=>rfl;have FTM:=K8 (st:=iTM) lTM cTM kTM;have bTM:=FTM.binds (ps:=["self","word"]) λ_ _ _ _ _ _ us hl=>D6 hl λ_ _=>rfl;have FNT:=K8 (st:=iNT) lNT cNT kNT;have bNT:=FNT.binds (ps:=["self","type_here"]) λ_ _ _ _ _ _ us hl=>D6 hl λ_ _=>rfl;have xHE:XC K B:=O7 ((Fi.mp rxc) B (by simp));have xNS:XC K C1:=O7 ((Fi.mp rxc) C1 (by simp));have xNP:XC K C2:=O7 ((Fi.mp rxc) C2 (by simp));have xND:XC K C3:=O7 ((Fi.mp rxc) C3 (by simp));have xTM:XC K C4:=O7 ((Fi.mp rxc) C4 (by simp));have xNT:XC K C5:=O7 ((Fi.mp rxc) C5 (by simp));have xNR:XC K C6:=O7 ((Fi.mp rxc) C6 (by simp));obtain ⟨_,⟨oc,od,kV,dc,pm,an,cd,ct,sl,rfl,lk,hc⟩,kp⟩:=dg27.f;have FL:=K8 lk hc kp;refine ⟨PySem.W.fnOf "law" "law" (k8 (top 39)) (h9 (top 39)) (b7 (top 39)) .none kV dc pm an cd ct,λs v=>.of_eq rfl,λbase KB GB=>?_⟩
 let T:Tx:=⟨l.prog,w,K,mg,base,bj [B,C1,C2,C3,C4,C5,C6] fB⟩
 have mV:mg "ValueError" = none:=PySem.W.mg_none_of X G (Z4 ((Fi.mp rbl) "ValueError" (by decide)));have TE:TxE K mg B fB:=⟨mV,fV,Gu X G aHE,sB,rB,cB,kHE⟩;have gHE:FnOk l.prog w K mg base CX0 2 fB _ ["self","text"] (spHE K):=(ce FHE TE).mono (by decide);have gNS:FnOk l.prog w K mg base CX0 2 f1 _ _ _:=BY FNS TE FHE bHE;have gNP:FnOk l.prog w K mg base CX0 2 f2 _ _ _:=Bb FNP TE FHE bHE;have gND:FnOk l.prog w K mg base CX0 2 f3 _ _ _:=DC FND TE FHE bHE;have gTM:FnOk l.prog w K mg base CX0 2 f4 _ _ _:=Bu FTM TE FHE bHE;have gNT:FnOk l.prog w K mg base CX0 2 f5 _ _ _:=Cg FNT TE FHE bHE;have st:TxSt T Γ:=by
  refine RB.st (T:=T) X G rfl (λx d e=>?_) (λx c fs e=>?_) (λx kvs e=>?_)
  ·have m:=L2.mem_of_lookup e;simp [Γ] at m
  ·have m:=L2.mem_of_lookup e;simp only [Γ,Ez,Ge,Ia,Prod.mk.injEq,L3.G.err.injEq,reduceCtorEq,and_false,false_or] at m;rcases m with ⟨rfl,rfl,rfl⟩ | ⟨rfl,rfl,rfl⟩ | ⟨rfl,rfl,rfl⟩ | ⟨rfl,rfl,rfl⟩ | ⟨rfl,rfl,rfl⟩ | ⟨rfl,rfl,rfl⟩ | ⟨rfl,rfl,rfl⟩
   ·exact ⟨by simp,⟨xHE,Gu X G aHE,fB,_,_,iHE_,nHE,bHE,gHE⟩,by simp⟩
   ·exact ⟨by simp,⟨xNS,Gu X G aNS,f1,_,_,iNS_,nNS,bNS,gNS⟩,by simp [Γ]⟩
   ·exact ⟨by simp,⟨xNP,Gu X G aNP,f2,_,_,iNP_,nNP,bNP,gNP⟩,by simp [Γ]⟩
   ·exact ⟨by simp,⟨xND,Gu X G aND,f3,_,_,iND_,nND,bND,gND⟩,by simp [Γ]⟩
   ·exact ⟨by simp,⟨xTM,Gu X G aTM,f4,_,_,iTM_,nTM,bTM,gTM⟩,by simp [Γ]⟩
   ·exact ⟨by simp,⟨xNT,Gu X G aNT,f5,_,_,iNT_,nNT,bNT,gNT⟩,by simp [Γ]⟩
   ·exact ⟨by simp,⟨xNR,Gu X G aNR,fB,_,_,iNR,nHE,bHE,gHE⟩,by simp⟩
  ·have m:=L2.mem_of_lookup e;simp [Γ] at m
 have fs:nM T Γ Tb:=by
  refine BS ?_;refine And.intro (fe X G (T:=T) dg0 (by decide +kernel) (λ_ _ _ _ _ _ us hl=>kq hl λ_=>rfl) rfl rfl) ?_;refine And.intro (fe X G (T:=T) dg1 (by decide +kernel) (λ_ _ _ _ _ _ us hl=>gU hl λ_ _ _=>rfl) rfl rfl) ?_;refine And.intro (fe X G (T:=T) dg2 (by decide +kernel) (λ_ _ _ _ _ _ us hl=>D6 hl λ_ _=>rfl) rfl rfl) ?_;refine And.intro (fe X G (T:=T) dg3 (by decide +kernel) (λ_ _ _ _ _ _ us hl=>D6 hl λ_ _=>rfl) rfl rfl) ?_;refine And.intro (fe X G (T:=T) dg4 (by decide +kernel) (λ_ _ _ _ _ _ us hl=>D6 hl λ_ _=>rfl) rfl rfl) ?_;refine And.intro (fe X G (T:=T) dg5 (m:=["count"]) (by decide +kernel) (λ_ _ _ _ _ _ us hl=>D6 hl λ_ _=>rfl) rfl rfl) ?_;refine And.intro (fe X G (T:=T) dg6 (by decide +kernel) (λ_ _ _ _ _ _ us hl=>D6 hl λ_ _=>rfl) rfl rfl) ?_;refine And.intro (fe X G (T:=T) dg7 (by decide +kernel) (λ_ _ _ _ _ _ us hl=>gU hl λ_ _ _=>rfl) rfl rfl) ?_;refine And.intro (fe X G (T:=T) dg8 (by decide +kernel) (λ_ _ _ _ _ _ us hl=>kq hl λ_=>rfl) rfl rfl) ?_;refine And.intro (fe X G (T:=T) dg9 (by decide +kernel) (λ_ _ _ _ _ _ us hl=>D6 hl λ_ _=>rfl) rfl rfl) ?_;refine And.intro (fe X G (T:=T) dg10 (by decide +kernel) (λ_ _ _ _ _ _ us hl=>D6 hl λ_ _=>rfl) rfl rfl) ?_;refine And.intro (fe X G (T:=T) dg11 (by decide +kernel) (λ_ _ _ _ _ _ us hl=>gU hl λ_ _ _=>rfl) rfl rfl) ?_;refine And.intro (fe X G (T:=T) dg12 (by decide +kernel) (λ_ _ _ _ _ _ us hl=>D6 hl λ_ _=>rfl) rfl rfl) ?_;refine And.intro (fe X G (T:=T) dg13 (m:=["~","_law_found"]) (by decide +kernel) (λ_ _ _ _ _ _ us hl=>kq hl λ_=>rfl) rfl rfl) ?_;refine And.intro (fe X G (T:=T) dg14 (by decide +kernel) (λ_ _ _ _ _ _ us hl=>kq hl λ_=>rfl) rfl rfl) ?_;refine And.intro (fe X G (T:=T) dg15 (by decide +kernel) (λ_ _ _ _ _ _ us hl=>D6 hl λ_ _=>rfl) rfl rfl) ?_;refine And.intro (fe X G (T:=T) dg16 (m:=["_law_rows","_law_inside"]) (by decide +kernel) (λ_ _ _ _ _ _ us hl=>D6 hl λ_ _=>rfl) rfl rfl) ?_;refine And.intro (fe X G (T:=T) dg17 (m:=["_law_hands"]) (by decide +kernel) (λ_ _ _ _ _ _ us hl=>D6 hl λ_ _=>rfl) rfl rfl) ?_;refine And.intro (fe X G (T:=T) dg18 (m:=["_law_boxes","_law_hands"]) (by decide +kernel) (λ_ _ _ _ _ _ us hl=>D6 hl λ_ _=>rfl) rfl rfl) ?_;refine And.intro (fe X G (T:=T) dg19 (by decide +kernel) (λ_ _ _ _ _ _ us hl=>gU hl λ_ _ _=>rfl) rfl rfl) ?_;refine And.intro (fe X G (T:=T) dg20 (by decide +kernel) (λ_ _ _ _ _ _ us hl=>gU hl λ_ _ _=>rfl) rfl rfl) ?_;refine And.intro (fe X G (T:=T) dg21 (by decide +kernel) (λ_ _ _ _ _ _ us hl=>D6 hl λ_ _=>rfl) rfl rfl) ?_;refine And.intro (fe X G (T:=T) dg22 (by decide +kernel) (λ_ _ _ _ _ _ us hl=>kq hl λ_=>rfl) rfl rfl) ?_;refine And.intro (fe X G (T:=T) dg23 (by decide +kernel) (λ_ _ _ _ _ _ us hl=>D6 hl λ_ _=>rfl) rfl rfl) ?_;refine And.intro (fe X G (T:=T) dg24 (by decide +kernel) (λ_ _ _ _ _ _ us hl=>D6 hl λ_ _=>rfl) rfl rfl) ?_;refine And.intro (fe X G (T:=T) dg25 (by decide +kernel) (λ_ _ _ _ _ _ us hl=>D6 hl λ_ _=>rfl) rfl rfl) ?_;refine And.intro (fe X G (T:=T) dg26 (by decide +kernel) (λ_ _ _ _ _ _ us hl=>D6 hl λ_ _=>rfl) rfl rfl) ?_;refine And.intro (fe X G (T:=T) dg27 (m:=["_law_things"]) (by decide +kernel) (λ_ _ _ _ _ _ us hl=>kq hl λ_=>rfl) rfl rfl) ?_
  trivial
 have ok:=tt (Rs:=Rs) (T:=T) (k:=8) (i:=27) (fd:=q4 (top 39) ["_law_things"]) (sk st fs 8) rfl FL rfl rfl (bR (by decide +kernel));exact FnOk.imp ok (mH zC)
theorem walk {l:PySem.W.OpenLaw} {q:Program} {loose:List Str} {XP:(Str->Option Value)->Heap->Prop} {YP:World->Heap->Prop} {d:DefRec} {K:Params->PySem.W.Frag} (hn:l.most=some 63) (hdf:d.params.defaults=[])
  (hY:∀ (w:World) (h:Heap),YP w h->(K w.params).In h)
  (F:∀ (w:World) (mg:Str->Option Value) (fa:Addr) (h:Heap),(K w.params).In h->h.Ns mainGlobals mg->mg d.name=some (.ref fa) ->
   ∃ fd:FuncData,(∀ (s:Shared) (u:Value),BindsTo s fd ⟨[u],[]⟩ [("_law_script",u)])/\∀ base:Heap,(K w.params).In base->base.Ns mainGlobals mg->FnOk l.prog w (K w.params) mg base CX0 12 fa fd ["_law_script"] (dZ (K w.params))) :
  PySem.W.WalkO q loose XP YP l.row.toRowW d [] (λf vs=>PySem.call f vs):=
 L2.walk_of (n:=63) (k:=12) (x:="_law_script") (CX:=λ_=>CX0) (sp:=λw=>dZ (K w.params)) hn (by decide) hdf ⟨λ_=>rfl,by decide,by decide,rfl⟩ hY F (λ_ _ a ns hl _ hS=>⟨a,ns,rfl,hS,λ_=>rfl⟩) λ_ _ _ _ _ z=>z
end L3.K22
open PySem PySem.W PyProof.Rows
set_option maxRecDepth 100000 in
set_option maxHeartbeats 0 in
theorem PySem.Challenge.cw_handnames_k22_levels_judged_holds : PySem.Challenge.rw_handnames_k22_levels_judged.Holds := by
 w_on;o_law;k_head;(case hw=>w_witness2)
 k_fill
 refine L3.K22.walk (l:=PySem.Challenge.rw_handnames_k22_levels_judged) rfl rfl (λw h Y=>PySem.W.kIn_of Y) ?F
 case F=>
  intro w mg fa h KX G hmg;refine' L3.K22.all_mk KX G hmg ?_ ?_ ?_ ?_ ?_ ?_ ?_ ?_ ?_ ?_ ?_ ?_ ?_ ?_ ?_ ?_ ?_ ?_ ?_ ?_ ?_ ?_ ?_ ?_ ?_ ?_ ?_ ?_ ?_ ?_ ?_ ?_ ?_ ?_ ?_ ?_ ?_ ?_ ?_ ?_ ?_ ?_ ?_ ?_ ?_ ?_ ?_ ?_ ?_ ?_ ?_ ?_ ?_ ?_ ?_ ?_ ?_ ?_ ?_ ?_ ?_ ?_ ?_ ?_ ?_ ?_ ?_ ?_ ?_ ?_ ?_ ?_ ?_ ?_ ?_ ?_ ?_
  rotate_left 95
  iterate 42 k_is
  iterate 7 kernel_rfl
  iterate 28 (refine' L3.gf_mk ?a ?l ?c ?k;(case a=>k_is);(case l=>k_is);(case c=>k_is);(case k=>k_is))
end
