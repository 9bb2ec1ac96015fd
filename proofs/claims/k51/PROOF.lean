import PyProof.Rows.All
import Wide.All
import OpenK.AllK
import Wide.FinOn
import Lean
import PyProof.EqAt
import PyProof.EqKinds
import PyProof.TupleCall
import PyProof.CompUse
import PyProof.P3Eq
import PyProof.NeData
import PyProof.P3In
import PyProof.EnumMake
import PyProof.Draws
import PyProof.ConsumeWalk
import PyProof.Rows.SetFrom
import PyProof.SetRoads
import PyProof.Rows.SortWalk
import PyProof.ListRange
import PyProof.WalksMore
import KE.KSortTup
import KE.KSortKey
import KE.KLam
import KE.KNestM
import PySem.Challenge.RW_handnames_k51_told_rings
set_option Elab.async false
set_option linter.all false
set_option bootstrap.genMatcherCode false
set_option maxRecDepth 100000
set_option maxHeartbeats 4000000
local macro_rules (kind:=Lean.Parser.Command.declaration)
|s=>do
 if (s[1].isOfKind ``Lean.Parser.Command.definition||s[1].isOfKind ``Lean.Parser.Command.abbrev)&&s[0].getArgs.all (·.isNone) then return s.setArg 0 (<-`(command|noncomputable def x:=0)).raw[0]
 else Lean.Macro.throwUnsupported
local macro_rules|`(tactic|omega)=>`(tactic|first|with_reducible assumption|with_reducible exact Nat.le_refl _|exact Nat.zero_le _|exact Nat.succ_pos _|exact Nat.le_of_lt (by with_reducible assumption)|exact Nat.lt_succ_of_le (by with_reducible assumption)|exact Nat.le_trans (by with_reducible assumption) (by decide)|exact Nat.lt_of_le_of_lt (by with_reducible assumption) (by decide)|exact Nat.lt_of_lt_of_le (by with_reducible assumption) (by decide)|lia|omega +splitDisjunctions)
namespace PySem.W.Fast
def tw10277880021251724145:=0
def tw2900747659323097417:=0
def tw16443066483907006566:=0
def tw6021067164988928868:=0
def tw13992831240428037219:=0
def tw16482317103008703141:=0
def tw17832488363628877649:=0
def tw7156173868300754246:=0
def tw2160261118070618296:=0
def tw4115211460708669478:=0
def tw9381648915573732583:=0
def tw6929544366146961031:=0
def tw16333781068776102339:=0
def tw11846409159783897533:=0
def tw14916799521955803138:=0
def tw10469048333652969256:=0
def tw12133031306639355065:=0
def tw217313739809262958:=0
def tw10928065968655702944:=0
def tw523679161916154612:=0
def tw17488137136625132619:=0
def tw5025234692454983968:=0
def tw11039603753267902216:=0
def tw6659854055961482038:=0
def tw14244245956041221781:=0
def tw13708098757904680772:=0
def tw3981870145985996050:=0
def tw11015942776733950819:=0
def tw1609419340847990068:=0
def tw2137332546886272695:=0
def tw842490273725082520:=0
def tw15301950068618485025:=0
def tw821211775673731817:=0
def tw8155463590275319049:=0
def tw1838839735274117255:=0
def tw3048661656596254228:=0
def tw12318214052168995889:=0
def tw9662959226502222395:=0
def tw942240422508014255:=0
def tw11621893332052445795:=0
def tw15152722653703400302:=0
def tw8109934163105679741:=0
def tw4588232477167014249:=0
def tw6026282927042489376:=0
def tw14781829353571805495:=0
def tw8721088181432148774:=0
def tw3926084709165816387:=0
def tw13091328925400863027:=0
def tw17387147620647788863:=0
def tw9159505380134733219:=0
def tw7126582089173045641:=0
def tw4162851121595951670:=0
def tw1561288379031563999:=0
def tw1895207296354707052:=0
def tw9339962625795916554:=0
def tw7149710940044260184:=0
def tw3625057723864749483:=0
def tw2309641269704134592:=0
def tw6699111339973567429:=0
def tw6516013335253833974:=0
def tw2481167387663177564:=0
def tw9041267208857918228:=0
def tw16269139854533743180:=0
def tw10796033688537711924:=0
def tw6902002389982448022:=0
def tw5127088323705687822:=0
def tw15814062923800506843:=0
def tw1163656046967854303:=0
def tw8414747690684289401:=0
def tw4546589839817282099:=0
def tw15135039696166716886:=0
def tw12282438668418652326:=0
def tw16046943458358811067:=0
def tw2425690473250504981:=0
def tw10223471615673452426:=0
def tw13908115420956720433:=0
def tw434695794380404939:=0
def tw5209017238634367322:=0
def tw9108236954428593314:=0
def tw8302085604458538592:=0
def tw8491226496556315765:=0
def tw8819316119458954197:=0
def tw17038262432942806708:=0
def tw13410502360563632589:=0
def tw1090201639148508767:=0
def tw10037999495077448727:=0
def tw11078987574350687312:=0
def tw1358368334900332940:=0
def tw3496262979541565269:=0
def tw5857438126494685381:=0
def tw51575302390776635:=0
def tw7125010175555138733:=0
def tw1425510428755639618:=0
def tw15550727506563236254:=0
def tw16308007234784888989:=0
def tw10235383690022323322:=0
def tw3944109290017347416:=0
def tw3806419454595495603:=0
def tw15436081735041111159:=0
def tw15948629806093607324:=0
def tw9299879464311817882:=0
def tw3522822683146399949:=0
def tw10155986115935151621:=0
def tw5328394891829480258:=0
def tw6792673499379637424:=0
def tw9338573040904189958:=0
def tw12627738920967900084:=0
def tw11602370559065983691:=0
def tw3764098572269509306:=0
def tw11727557594416836549:=0
def tw9998291973792327298:=0
def tw15193937662057662720:=0
def tw1249890840326814021:=0
def tw16144427010099728228:=0
def tw13084470780046445359:=0
def tw4115179625175959210:=0
def tw6168483576252563104:=0
def tw14499288280930142644:=0
def tw5517664636910196832:=0
def tw9187841144591216922:=0
def tw12100428191166454068:=0
def tw15372379649974967295:=0
def tw10972281693233754624:=0
def tw8151846917199597856:=0
def tw13190646765752787204:=0
def tw5376032064751648840:=0
def tw4854282861881204085:=0
def tw9379428311397828629:=0
def tw14564578788622094065:=0
def tw4296597271623118768:=0
def tw6107059472976817117:=0
def tw16317339452305803579:=0
def tw2773343706013200307:=0
def tw10878719905180899162:=0
def tw5150551973816263:=0
def tw18307186135807777657:=0
def tw13411831431718551295:=0
def tw12778648728550934175:=0
def tw11440796282298015164:=0
def tw3701566038082567319:=0
def tw18035725235192168543:=0
def tw17722849231081077424:=0
def tw9160428341816642064:=0
def tw8568946391185051744:=0
def tw6451864289305394909:=0
def tw4437834695191644475:=0
def tw14316038606138026855:=0
def tw14939084767517216218:=0
def tw1711935064049920626:=0
def tw11304274728022815964:=0
def tw14949559398925070043:=0
def tw2859041026028704524:=0
def tw1677031319613171485:=0
def tw3166969397280612194:=0
def tw1200595007637828501:=0
def tw12098151102489507314:=0
def tw338127755784946207:=0
def tw5334346549968640003:=0
def tw17396491032319819061:=0
def tw3807082834501630830:=0
def tw7063136698357223572:=0
def tw17797823198642097281:=0
def tw9370998338146554196:=0
def tw9598627855351482313:=0
def tw3041551208989945125:=0
def tw13780464686886793143:=0
def tw10859145547409094388:=0
def tw4538649327137680022:=0
def tw8927062385546789757:=0
def tw9211757682426848474:=0
def tw11434499647745123797:=0
def tw9081140978797585068:=0
def tw2231342215410420784:=0
def tw2162527630608560346:=0
def tw6746192716611345915:=0
def tw16112984199709055211:=0
def tw17671052782126704463:=0
def tw8669444411307815656:=0
def tw18123937662216235436:=0
def tw2682183463970181971:=0
def tw1495906733869747182:=0
def tw3434391980162938836:=0
def tw9298490294721150904:=0
def tw8830040835012209371:=0
def tw7292853574297226932:=0
def tw17240784433196888018:=0
def tw12876151854026207181:=0
def tw17592479249439703122:=0
def tw5822873593238143065:=0
def tw10086509342454379388:=0
def tw2160238999160499000:=0
def tw3845692673776153285:=0
def tw14383994688584770196:=0
def tw6495117302639758714:=0
def tw5920557199411281029:=0
def tw13319517506802080066:=0
def tw9327641338381536297:=0
def tw10194349202250909477:=0
def tw14864090755614326406:=0
def tw16020896611095517607:=0
def tw10373499337685362823:=0
def tw16770003443798601434:=0
def tw5587522250677769142:=0
def tw844622095139064616:=0
def tw9286234570871670922:=0
def tw6106821828247277494:=0
def tw8515609631358802346:=0
def tw13162867155106438023:=0
def tw11265035445766905510:=0
def tw14293054704313967437:=0
def tw16589053972317141090:=0
def tw4747801215042940146:=0
def tw1544979488695973530:=0
def tw9528803223404560761:=0
def tw12338842691099333482:=0
def tw8552140747990981780:=0
def tw9547176552169545837:=0
def tw15261473180061448220:=0
def tw16201119379884126749:=0
def tw5835930814186771157:=0
def tw14024867239716961087:=0
def tw8835139059335626842:=0
def tw7559163050570348060:=0
def tw4775646372729508865:=0
def tw4460329971887685986:=0
def tw13469299027646201216:=0
def tw8860685598919423498:=0
def tw1750764332607350252:=0
def tw8287259867231205597:=0
def tw16475016824760181470:=0
def tw17526271360726311768:=0
def tw10286257146635430525:=0
def tw10055435126455839404:=0
def tw12685736730643887953:=0
def tw7995747996213758168:=0
def tw13981741364604652575:=0
def tw9921852734231041551:=0
def tw6633701836316332673:=0
def tw324163899303533639:=0
def tw18099835971447090057:=0
def tw7676345019998123082:=0
def tw10327096290542941081:=0
def tw10156207544928518317:=0
def tw6365523090615673035:=0
def tw12812278883001873225:=0
def tw1817724796740539923:=0
def tw15334076119653232240:=0
def tw7492238726610138754:=0
def tw12541986343745692532:=0
def tw15414528576544809179:=0
def tw10824732079016028455:=0
def tw5772904271810511023:=0
def tw16539454061500902477:=0
def tw399526869049884268:=0
def tw5307634789564917658:=0
def tw12870083552555566724:=0
def tw13601878757861030076:=0
def tw5314580105164998958:=0
def tw16265116930314600813:=0
def tw14273060695880483749:=0
def tw525247780703841471:=0
def tw18249746696861602318:=0
def tw10686069859212574191:=0
def tw10844004169245743627:=0
def tw10603666093247027412:=0
def tw217412630954074449:=0
def tw14974205849481337036:=0
def tw8734597190965253344:=0
def tw2697150834899501052:=0
def tw5321338336786069937:=0
def tw15276347089705012970:=0
def tw7751767705061756808:=0
def tw768121784266618304:=0
def tw16215542720738222841:=0
def tw12652026236411740424:=0
def tw15665736903301496279:=0
def tw10440356183148787625:=0
def tw12365081640185294069:=0
def tw13612212994395354589:=0
def tw13721295717956905077:=0
def tw3841145455907923261:=0
def tw17268049865255790425:=0
def tw3971283483840336340:=0
def tw7326871712779289332:=0
def tw17856936028032524021:=0
def tw3108828254126511393:=0
def tw4200340653511361848:=0
def tw15852369340104218036:=0
def tw11186649652478063594:=0
def tw17482107658124323487:=0
def tw787035959959956854:=0
def tw50264133125255654:=0
def tw5919618993924720416:=0
def tw7149555340480561159:=0
def tw15409190007392255267:=0
def tw4995011473782643773:=0
def tw17810672728461021658:=0
def tw13051389355430001460:=0
def tw13918048745603447572:=0
def tw6694989164399939889:=0
def tw10704827072927486038:=0
def tw12334239356188863237:=0
def tw12355415960675772926:=0
def tw13958446552800244504:=0
def tw16366454740945018366:=0
def tw16162432145751444353:=0
def tw11582457797071055310:=0
def tw10006493911111805523:=0
def tw644360229514382014:=0
def tw12315208633465354708:=0
def tw7965377656073866189:=0
def tw13506562765588819137:=0
def tw2108763816120292248:=0
def tw16534076283173860875:=0
def tw6268921140954439474:=0
def tw2965494509759842950:=0
def tw7068497094127198946:=0
def tw8422888199255001801:=0
def tw615088150186358048:=0
def tw11534179681350298804:=0
def tw8693908416265141091:=0
def tw1445849135157402056:=0
def tw9677265525026685722:=0
def tw12843201439637149581:=0
def tw7387932174532930921:=0
def tw11074814084743528415:=0
def tw9738646735735814239:=0
def tw7934539698228479152:=0
def tw1595573100259934972:=0
def tw11555688616440133781:=0
def tw11064528532966336571:=0
def tw6839937611504299473:=0
def tw4348886456881487831:=0
def tw6170563641090282257:=0
def tw1643893883160218751:=0
def tw17653960957268212035:=0
def tw17570262651191576009:=0
def tw1319442518598211559:=0
def tw12042202589390061471:=0
def tw6664680463858336793:=0
def tw39678991473764476:=0
def tw5033298968518229506:=0
def tw5421550723191107353:=0
def tw4587483795289711884:=0
def tw18035429018399978937:=0
def tw17381234319731278636:=0
def tw7270929820476564804:=0
def tw1848842227162493058:=0
def tw12356063684601752335:=0
def tw8282352631396450441:=0
def tw2792864135395874148:=0
def tw2416010856755301370:=0
def tw6073036569780815950:=0
def tw11704165723619946870:=0
def tw15307128053033959879:=0
def tw17808438437565965205:=0
def tw6390577908952496154:=0
def tw4397316986560265919:=0
def tw2162880018999431141:=0
def tw1836663722012695393:=0
def tw221219437963874337:=0
end PySem.W.Fast
def Do:=@PySem.wpAny_bind
def Dp:=@PySem.wpAny_pure
def Dq:=@PySem.Heap.get?_push_of_some
def Dr:=@List.length_map
def Ds:=@List.getElem?_eq_getElem
def Dt:=@Bool.and_eq_true
def Du:=@PySem.Heap.get?_push_size
def Dv:=@PySem.Heap.lt_size
def Dw:=@Nat.ne_of_lt
def Dx:=@List.mem_append_right
def Dy:=@List.size_toArray
def Dz:=@Nat.le_refl
def Ea:=@List.mem_cons
def Eb:=@List.getElem?_eq_some_iff
def Ec:=@Bool.false_ne_true
def Ed:=@List.mem_cons_of_mem
def Ee:=@List.getD_eq_getElem?_getD
def Ef:=@PySem.wpAny_mono
def Eg:=@Nat.lt_of_lt_of_le
def Eh:=@decide_eq_true_eq
def Ei:=@List.mem_cons_self
def Ej:=@Array.length_toList
def Ek:=@Nat.lt_succ_self
def El:=@Nat.lt_succ_of_lt
def Em:=@List.getElem_mem
def En:=@PySem.lookup_relabel_local
def Eo:=@List.getElem?_map
def Ep:=@PySem.wpAny_holding
def Er:=@List.all_eq_true
def Es:=@List.length_append
def Et:=@List.getElem?_eq_none
def Eu:=@List.take_succ_eq_append_getElem
def Ew:=@PySem.sizeLine_eq
def Ey:=@Option.isNone_iff_eq_none
def Ez:=@PySem.wpAny_newObj_type
def EA:=@Option.some.inj
def EB:=@PySem.Heap.get?_update_self
def EC:=@List.getElem?_append_left
def ED:=@List.getElem?_append_right
def EE:=@decide_eq_true
def EF:=@Option.bind_eq_some_iff
def EG:=@List.map_cons
def EH:=@List.append_nil
def EI:=@PySem.wpAny_Call_Name_kw
def EJ:=@List.mem_singleton
def EK:=@Array.getElem?_eq_getElem
def EL:=@PySem.Heap.size_push
def EM:=@List.getElem?_set_self
def EN:=@PyProof.Rows.callWith_type1
def EO:=@PySem.wpAny_call_entry
def EQ:=@Nat.le_trans
def ER:=@List.findIdx?_eq_some_iff_getElem
def ES:=@decide_eq_false
def ET:=@List.mem_of_getElem?
def EU:=@Nat.le_succ
def EV:=@Bool.false_eq_true
def EW:=@Array.getElem?_toList
def EX:=@PySem.Heap.SameBut.update
def EY:=@PySem.wpAny_callSpecial?_slot
def EZ:=@PySem.wpAny_standAt
def Fa:=@Bool.not_eq_true'
def Fb:=@List.all_cons
def Fc:=@PySem.W.mg_of
def Fe:=@Nat.zero_le
def Ff:=@PySem.codeAny_mono
def Fg:=@Int.toNat_natCast
def Fh:=@List.getElem?_set_ne
def Fi:=@of_decide_eq_true
def Fj:=@Option.isSome_iff_exists
def Fk:=@List.map_append
def Fm:=@PySem.Calls.spliced_cons
def Fn:=@List.length_take
def Fo:=@List.not_mem_nil
def Fp:=@List.mem_range
def Fq:=@PySem.Calls.spliced_nil
def Fs:=@PySem.Heap.get?_update_other
def Fu:=@PySem.wpAny_setField
def Fv:=@List.length_range
def Fw:=@PySem.Heap.get?_update_ne
def Fy:=@PySem.codeAny_builtin
def Fz:=@PyProof.Rows.slot_tuple_getitem
def FA:=@PyProof.Rows.callWith_builtin1
def FC:=@PySem.wpAny_pyIter_tuple
def FD:=@List.pairwise_cons
def FE:=@PySem.wpAny_comprehension_free
def FF:=@PySem.wpAny_field
def FG:=@List.mem_append
def FH:=@PySem.W.kia_one
def FI:=@List.replicate_succ
def FJ:=@PyProof.Rows.F.plain_set_update_loop
def FK:=@List.flatten_append
def FM:=@PySem.codeAny_compStart_list
def FN:=@Nat.lt_irrefl
def FO:=@List.take_length
def FP:=@List.nodup_iff_pairwise_ne
def FQ:=@List.getElem?_toArray
def FR:=@List.take_append_drop
def FS:=@PyProof.Rows.listItems_at
def FT:=@List.find?_cons
def FU:=@List.forIn_cons
def FV:=@Nat.le_of_lt
def FW:=@Nat.ne_of_gt
def FX:=@PySem.wpAny_truthy_bool
def FY:=@PySem.wpAny_newFunctionEnv
def FZ:=@PySem.codeAny_call_builtin
def Ga:=@PySem.wpAny_setState_of
def Gb:=@PySem.Around.under_plainId
def Gc:=@PySem.wpAny_call
def Ge:=@PySem.wpAny_rule
def Gf:=@PySem.mem_of_lookup
def Gg:=@PySem.wpAny_setEntries_of
def Gh:=@List.lookup_cons
def Gi:=@List.length_cons
def Gj:=@PySem.F.plainAttrs_list
def Gk:=@Option.map_eq_some_iff
def Gn:=@List.take_of_length_le
def Go:=@List.nodup_cons
def Gp:=@PySem.wpAny_attempt
def Gq:=@PySem.wpAny_newList
def Gr:=@PyProof.Rows.listUpdate_at
def Gs:=@List.length_replicate
def Gu:=@List.set_append_right
def Gv:=@List.flatten_cons
def Gw:=@bne_self_eq_false
def Gx:=@PySem.wpAny_pyIter_list
def Gy:=@beq_iff_eq
def Gz:=@PySem.call_meets
def GA:=@Array.toArray_toList
def GC:=@List.mem_iff_getElem
def GD:=@PySem.wpAny_typeOf
def GE:=@Nat.le_of_not_lt
def GG:=@PySem.wpAny_askSetting
def GH:=@List.mem_flatMap
def GI:=@PySem.wpAny_binaryOp_repeat_ref
def GJ:=@List.getElem?_eq_none_iff
def GK:=@PySem.Calls.call_function_entry
def GL:=@List.filterMap_cons
def GM:=@PyProof.Rows.F.entry_set_update_loop
def GN:=@List.flatMap_append
def GO:=@PySem.F.args_tuple_add_2
def GP:=@List.any_cons
def GQ:=@PySem.wpAny_execs_nil
def GR:=@PySem.wpAny_passesOwn
def GS:=@PySem.codeAny_of_tree
def GT:=@PySem.W.callWith_K
def GU:=@Int.emod_lt_of_pos
def GV:=@List.getElem?_replicate
def GW:=@PySem.F.entry_tuple_add
def GX:=@List.length_eq_zero_iff
def GY:=@PySem.F.slot_tuple_add
def GZ:=@PySem.Calls.callWith_builtin
def Ha:=@if_false
def Hb:=@PySem.wpAny_pyIter_enum
def Hc:=@Array.getElem?_eq_none
def Hd:=@PySem.Heap.get?_push_ne
def He:=@List.getElem_inj
def Hf:=@List.length_drop
def Hg:=@PySem.typeIs_int
def Hh:=@Option.bind_some
def Hi:=@PySem.Heap.size_update
def Hj:=@PySem.Calls.evalArgs_plain
def Hk:=@PySem.wpAny_of_eq
def Hl:=@List.mem_of_mem_tail
def Hm:=@or_false
def Ho:=@Array.getElem_toList
def Hq:=@List.reverse_reverse
def Hr:=@Bool.eq_iff_iff
def Hs:=@List.nil_append
def Ht:=@PyProof.Rows.entry_list_sort
def Hu:=@List.find?_some
def Hv:=@Int.emod_nonneg
def Hw:=@PyProof.Rows.get?_update_seq
def Hy:=@beq_eq_false_iff_ne
def Hz:=@List.mem_map_of_mem
def HA:=@List.length_reverse
def HB:=@PyProof.Rows.slot_list_sort
def HC:=@PyProof.Rows.list_sort_tree
def HD:=@PyProof.Rows.args_list_sort
def HE:=@PyProof.Rows.IntsAre.int_at
def HF:=@PySem.Calls.Name_function_global
def HG:=@PySem.wpAny_newFunctionEnv_cells
def HH:=@Nat.lt_of_le_of_lt
def HI:=@List.forIn_nil
def HJ:=@PySem.wpAny_loadPart
def HK:=@PySem.F.excBase_ValueError
def HL:=@PySem.wpAny_seqItems
def HM:=@List.drop_zero
def HN:=@PySem.wpAny_runValue
def HP:=@PyProof.Rows.listUpdate_at
def HQ:=@PySem.wpAny_fieldsOf
def HR:=@List.filter_append
def HS:=@PyProof.Rows.plain_sorted
def HU:=@PyProof.Rows.entry_sorted
def HV:=@PyProof.Rows.args_sorted1
def HW:=@List.findIdx?_eq_none_iff
def HX:=@List.drop_eq_getElem_cons
def HY:=@PySem.wpAny_assign_Name
def HZ:=@List.append_assoc
def Ia:=@Option.some.injEq
def Ib:=@List.pairwise_map
def Ic:=@Array.toList_push
def Ie:=@PyProof.Rows.seqEpoch_at
def Ig:=@PyProof.Rows.tupleItemsOf_
def Ih:=@PySem.strLen_append
def Ii:=@PyProof.Rows.kind_sorted
def Ij:=@PySem.plainId_quiet
def Ik:=@List.length_erase_of_mem
def Il:=@PySem.F.slot_list_extend
def Im:=@PySem.F.type_list_extend
def Io:=@Bool.and_self
def Ip:=@PySem.wpAny_execs_cons
def Iq:=@PySem.noFill_tuple_add
def Ir:=@Nat.succ_ne_self
def Iu:=@List.ext_getElem
def Iv:=@PyProof.Rows.size_push'
def Iw:=@PySem.F.entry_type_call
def Ix:=@PySem.wpAny_isInstance
def Iy:=@PySem.F.plain_list_iadd
def Iz:=@Int.eq_ofNat_of_zero_le
def IA:=@List.filter_cons_of_pos
def IB:=@List.mem_flatten
def IC:=@PySem.codeAny_loop
def ID:=@List.map_map
def IE:=@Nat.lt_or_ge
def IF:=@Int.ne_of_gt
def IG:=@List.mem_map
def IH:=@List.of_mem_zip
def II:=@Option.map_some
def IJ:=@Bool.or_eq_true
def IK:=@PySem.wpAny_specialOf
def IL:=@Bool.false_and
def IM:=@PySem.wpAny_noted
def IN:=@PySem.wpAny_alloc
def IP:=@PySem.isSubtype_type
def IQ:=@PySem.wpAny_newTuple
def IR:=@PySem.seq_tuple_add
def IS:=@PySem.eval_ListComp
def IT:=@Prod.mk.injEq
def IU:=@PySem.wpAny_load
namespace L2
open PySem PySem.Spec PyProof.Rows
abbrev Key:=Sum Int Str
def bg:Key->Value->Bool
 | .inl k,v=>Value.isInt k v
 | .inr x,v=>Value.isStrOf x v
def Cw (w:World):Key->Int
 | .inl k=>hashInt k
 | .inr x=>hashStr w x
theorem j9:∀ {k:Key} {v:Value},bg k v=true->(∃ i t,k=Sum.inl i/\v=Value.int i t)\/(∃ x t,k=Sum.inr x/\v=Value.str x t)
 | .inl i,v,h=>by
  obtain ⟨t,e⟩:=Value.isInt_shape h;exact .inl ⟨i,t,rfl,e⟩
 | .inr x,v,h=>by
  obtain ⟨t,e⟩:=Value.isStrOf_shape h;exact .inr ⟨x,t,rfl,e⟩
theorem jx (i:Int) (t:Tok):bg (.inl i) (.int i t)=true:=by simp [bg,Value.isInt]
theorem kE (x:Str) (t:Tok):bg (.inr x) (.str x t)=true:=by simp [bg,Value.isStrOf]
theorem ya (a b:Int):decide ((Sum.inl a:Key)=Sum.inl b)=(a==b):=by grind
theorem yI (a b:Str):decide ((Sum.inr a:Key)=Sum.inr b)=decide (a=b):=by grind
theorem xU (a:Int) (b:Str):decide ((Sum.inl a:Key)=Sum.inr b)=false:=by grind
theorem wh (a:Str) (b:Int):decide ((Sum.inr a:Key)=Sum.inl b)=false:=by grind
def q5 (prog:Program) (w:World):PySem.KeyKind prog w Key where
 is:=bg
 hash:=Cw w
 inj:=λv a b f d=>by
  rcases j9 f with ⟨i,t,rfl,rfl⟩ | ⟨x,t,rfl,rfl⟩
  ·rcases j9 d with ⟨j,u,rfl,e⟩ | ⟨y,u,rfl,e⟩
   ·grind
   ·exact nomatch e
  ·rcases j9 d with ⟨j,u,rfl,e⟩ | ⟨y,u,rfl,e⟩
   ·exact nomatch e
   ·grind
 byValue:=λk v h=>by
  rcases j9 h with ⟨i,t,rfl,rfl⟩ | ⟨x,t,rfl,rfl⟩ <;> rfl
 pyHash:=λc h=>by
  rcases j9 c with ⟨i,t,rfl,rfl⟩ | ⟨x,t,rfl,rfl⟩
  ·exact wpAny_pyHash_int h
  ·exact wpAny_pyHash_str h
 eqBool:=λg c h=>by
  rcases j9 g with ⟨i,t,rfl,rfl⟩ | ⟨x,t,rfl,rfl⟩
  ·rcases j9 c with ⟨j,u,rfl,rfl⟩ | ⟨y,u,rfl,rfl⟩
   ·rw [ya] at h;exact wpAny_eqBool_int h
   ·rw [xU] at h;exact SeqAt.EqAt.int_str i t y u _ _ _ _ h
  ·rcases j9 c with ⟨j,u,rfl,rfl⟩ | ⟨y,u,rfl,rfl⟩
   ·rw [wh] at h;exact SeqAt.EqAt.str_int x t j u _ _ _ _ h
   ·rw [yI] at h;exact wpAny_eqBool_str h
 «strs»:=λk x t v h=>by
  rcases j9 h with ⟨i,u,rfl,e⟩ | ⟨y,u,rfl,e⟩
  ·exact nomatch e
  ·injection e with e1 _;subst e1;cases v <;> rfl
theorem dn (prog:Program) (w:World) (i:Int) (t:Tok):(q5 prog w).is (.inl i) (.int i t)=true:=jx i t
theorem eH (prog:Program) (w:World) (x:Str) (t:Tok):(q5 prog w).is (.inr x) (.str x t)=true:=kE x t
inductive V where
 | non | bl (b:Bool) | int (i:Int) | str (x:Str) | byt (b:Array UInt8) | flt (b:UInt64) | ref (a:Addr) | ty (n:String)
 deriving DecidableEq
def RelV:V->Value->Prop
 | .non,u=>u=Value.none
 | .bl b,u=>u=Value.bool b
 | .int i,u=>∃ t,u=Value.int i t
 | .str x,u=>∃ t,u=Value.str x t
 | .byt b,u=>∃ t,u=Value.bytes b t
 | .flt b,u=>∃ t,u=Value.float b t
 | .ref a,u=>u=Value.ref a
 | .ty n,u=>u=Value.type n
abbrev Vals:List V->List Value->Prop:=Paired RelV
theorem Vals.length (r:Vals xs us):xs.length=us.length:=Paired.length r
theorem Vals.get:∀ {xs:List V} {us:List Value} {i:Nat} {x:V},Vals xs us->xs[i]?=some x->∃ u,us[i]?=some u/\RelV x u
 | _,_,_,_,.nil,e=>by simp at e
 | _,_,0,_,.cons r _,e=>by simp at e;subst e;exact ⟨_,rfl,r⟩
 | _,_,i+1,x,.cons _ t,e=>by
  obtain ⟨u,b,a⟩:=Vals.get t (by simpa using e);exact ⟨u,by simpa using b,a⟩
theorem Vals.set (r:RelV x u):∀ {xs:List V} {us:List Value} (i:Nat),Vals xs us->Vals (xs.set i x) (us.set i u)
 | _,_,_,.nil=>.nil
 | _,_,0,.cons _ t=>.cons r t
 | _,_,i+1,.cons q t=>.cons q (Vals.set r i t)
theorem Vals.append:∀ {xs ys:List V} {us ws:List Value},Vals xs us->Vals ys ws->Vals (xs++ys) (us++ws)
 | _,_,_,_,.nil,s=>s
 | _,_,_,_,.cons r t,s=>.cons r (Vals.append t s)
theorem Vals.take:∀ {xs:List V} {us:List Value} (n:Nat),Vals xs us->Vals (xs.take n) (us.take n)
 | _,_,0,_=>.nil
 | _,_,_+1,.nil=>.nil
 | _,_,n+1,.cons r t=>.cons r (Vals.take n t)
theorem Vals.drop:∀ {xs:List V} {us:List Value} (n:Nat),Vals xs us->Vals (xs.drop n) (us.drop n)
 | _,_,0,r=>r
 | _,_,_+1,.nil=>.nil
 | _,_,n+1,.cons _ t=>Vals.drop n t
def RelO:Option V->Option Value->Prop
 | some v,some u=>RelV v u
 | none,none=>True
 | _,_=>False
def KV {κ:Type}:List (κ×V)->List (κ×Value)->Prop:=Paired λ(p:κ×V) (q:κ×Value)=>p.1=q.1/\RelV p.2 q.2
def kV:Key->V
 | .inl i=>.int i
 | .inr x=>.str x
inductive HO where
 | lst (xs:List V)
 | tup (xs:List V)
 | dK (kvs:List (Key×V)) | dT (kvs:List (List Key×V))
 | set (S:Int->Bool) (n:Nat)
 | ins (C dx:Addr) (fs:List (Str×V))
 | own (x:Addr)
 | xd (fs:List (Str×V))
 | met (f x:Addr)
 | rng (lo hi:Int)
 | frz (o:Obj) (u:HO)
 | tbl (ps:Array Value)
 | ext (φ:Heap->Prop)
abbrev Hp:=Addr->Option HO
def upd (H:Hp) (a:Addr) (o:HO):Hp:=λb=>if b=a then some o else H b
theorem b8:upd H a o a=some o:=by unfold upd;rw [if_pos rfl]
theorem a8 {a b:Addr} {o:HO} (h:b≠a):upd H a o b=H b:=by unfold upd;rw [if_neg h]
theorem vY {H:Hp} {a b:Addr} {o u:HO} (h:H a=some o) (h':H b=some u) (d:o≠u):a≠b:=by grind
theorem b9 {H:Hp} {a b:Addr} {o:HO} (h:H a=some o) (h':H b=none):a≠b:=by grind
def TupN (h:Heap) (a:Addr) (items:Array Value):Prop:=∃ o,h.get? a=some o/\o.cls=.type "tuple"/\∃ n,o.data=.seq items n/\o.dict=none
theorem TupN.is (x:TupN h a items):IsTup h a items:=let ⟨o,e,c,n,d,_⟩:=x;⟨o,e,c,n,d⟩
theorem TupN.new (h:Heap) (items:Array Value):TupN (h.push { cls:=.type "tuple",data:=.seq items }) h.objs.size items:=⟨_,Du _ rfl,rfl,_,rfl,rfl⟩
section
variable (P:Program) (w:World)
def ObjOk (H:Hp) (h:Heap) (a:Addr):HO->Prop
 | .lst xs=>xs.length<=sizeLine/\∃ (its:List Value) (n:Nat),Vals xs its/\h.get? a=some { cls:=.type "list",data:=.seq its.toArray n }
 | .tup xs=>xs.length<=sizeLine/\∃ its:List Value,Vals xs its/\TupN h a its.toArray
 | .dK kvs=>kvs.length<=sizeLine/\(a==sysModules)=false/\∃ vs,KV kvs vs/\h.DictOf (q5 P w) a vs
 | .dT kvs=>kvs.length<=sizeLine/\(a==sysModules)=false/\∃ xs:List (List Key×Addr×Value),
   Paired (λ(p:List Key×V) (q:List Key×Addr×Value)=>p.1=q.1/\H q.2.1=some (.tup (p.1.map kV))/\RelV p.2 q.2.2) kvs xs /\
   ∃ o es ep,h.get? a=some o/\o.ExactDict/\o.data=.dict es ep/\es.toList=xs.map (entryOfKey (tupleKind (q5 P w)))/\(xs.map (·.1)).Nodup
 | .set S n=>h.SetOf (intKind P w) a S n
 | .ins C dx fs=>H dx=some (.own a)/\fs.length<=1000/\dx≠a/\h.get? a=some (PySem.W.instObj C dx) /\
   ∃ mA,h.Ns1 dx mA/\(∀ f,RelO (fs.lookup f) (mA f))/\PySem.Within mA (fs.map (·.1))
 | .own _=>∃ o,h.get? a=some o
 | .xd fs=>∃ mA,h.Ns1 a mA/\∀ f,RelO (fs.lookup f) (mA f)
 | .rng lo hi=>∃ t u v,h.get? a=some { cls:=.type "range",data:=.fields #[.int lo t,.int hi u,.int 1 v] }
 | .frz o u=>h.get? a=some o/\ObjOk H h a u
 | .tbl ps=>∃ tb:Array Value,h.get? a=some { cls:=.none,data:=.fields tb }/\TriplesOk tb.toList/\∀ pos cv,codeAmong pos tb.toList=some cv->∃ c o vs t q,cv=.ref c/\H c=some (.frz o (.own a))/\o.data=.fields vs/\vs[1]?=some (.str q t)/\ps[0]?=some (.str q 0)
 | .met f x=>h.get? a=some (PySem.W.methodObj (.ref f) (.ref x))
 | .ext φ=>φ h/\(∃ o,h.get? a=some o)/\∀ h1 h2:Heap,φ h1->(∀ o,h1.get? a=some o->h2.get? a=some o)->φ h2
def HOk (H:Hp) (h:Heap):Prop:=∀ a o,H a=some o->ObjOk P w H h a o
end
section
variable {P:Program} {w:World} {H H':Hp} {h h':Heap} {a:Addr} {o:HO}
theorem ObjOk.lt (x:ObjOk P w H h a o):a<h.objs.size:=by
 cases o with
 | lst xs=>obtain ⟨_,_,_,_,e⟩:=x;exact Dv e
 | tup xs=>obtain ⟨_,_,_,p⟩:=x;exact p.is.lt
 | dK kvs=>obtain ⟨_,_,_,_,o,_,_,e,_⟩:=x;exact Dv e
 | dT kvs=>obtain ⟨_,_,_,_,o,_,_,e,_⟩:=x;exact Dv e
 | set S n=>obtain ⟨o,_,_,_,e,_⟩:=x;exact Dv e
 | ins C dx fs=>obtain ⟨_,_,_,e,_⟩:=x;exact Dv e
 | own y=>obtain ⟨_,e⟩:=x;exact Dv e
 | xd fs=>obtain ⟨_,⟨_,_,_,e,_⟩,_⟩:=x;exact Dv e
 | rng lo hi=>obtain ⟨_,_,_,e⟩:=x;exact Dv e
 | frz ob u=>obtain ⟨e,_⟩:=x;exact Dv e
 | tbl ps=>obtain ⟨_,e,_⟩:=x;exact Dv e
 | met f y=>exact Dv (x)
 | ext φ=>obtain ⟨_,⟨_,e⟩,_⟩:=x;exact Dv e
theorem Paired.mapP:∀ {c:List α} {d:List β},Paired F c d->(∀ a b,F a b->G a b)->Paired G c d
 | _,_,.nil,_=>.nil
 | _,_,.cons r t,f=>.cons (f _ _ r) (Paired.mapP t f)
theorem ObjOk.stay (x:ObjOk P w H h a o) (k:∀ b u,(b=a\/H b=some (.own a))->h.get? b=some u->h'.get? b=some u)
  (ho:∀ b,H b=some (.own a)->H' b=some (.own a)) (ht:∀ b xs,H b=some (.tup xs)->H' b=some (.tup xs)) (hz:∀ b o u,H b=some (.frz o u)->H' b=some (.frz o u):=by exact λ_ _ _ q=>q):ObjOk P w H' h' a o:=by
 induction o with
 | lst xs=>obtain ⟨z,its,n,r,e⟩:=x;exact ⟨z,its,n,r,k _ _ (.inl rfl) e⟩
 | tup xs=>obtain ⟨z,its,r,ob,e,c⟩:=x;exact ⟨z,its,r,ob,k _ _ (.inl rfl) e,c⟩
 | dK kvs=>obtain ⟨z,y,vs,r,ob,es,ep,e,c⟩:=x;exact ⟨z,y,vs,r,ob,es,ep,k _ _ (.inl rfl) e,c⟩
 | dT kvs=>
  obtain ⟨z,y,xs,r,ob,es,ep,e,c⟩:=x;exact ⟨z,y,xs,Paired.mapP r λp q z=>⟨z.1,ht _ _ z.2.1,z.2.2⟩,ob,es,ep,k _ _ (.inl rfl) e,c⟩
 | set S n=>obtain ⟨ob,es,ep,t,e,c⟩:=x;exact ⟨ob,es,ep,t,k _ _ (.inl rfl) e,c⟩
 | ins C dx fs=>
  obtain ⟨d,z,ne,e,mA,⟨od,es,ep,e2,c⟩,r⟩:=x;exact ⟨ho _ d,z,ne,k _ _ (.inl rfl) e,mA,⟨od,es,ep,k _ _ (.inr d) e2,c⟩,r⟩
 | own y=>obtain ⟨ob,e⟩:=x;exact ⟨ob,k _ _ (.inl rfl) e⟩
 | xd fs=>obtain ⟨mA,⟨od,es,ep,e,c⟩,r⟩:=x;exact ⟨mA,⟨od,es,ep,k _ _ (.inl rfl) e,c⟩,r⟩
 | rng lo hi=>obtain ⟨t,u,v,e⟩:=x;exact ⟨t,u,v,k _ _ (.inl rfl) e⟩
 | frz ob u ih=>obtain ⟨e,q⟩:=x;exact ⟨k _ _ (.inl rfl) e,ih q⟩
 | tbl ps=>
  obtain ⟨tb,e,z,q⟩:=x;exact ⟨tb,k _ _ (.inl rfl) e,z,λpos cv y=>let ⟨c,o,vs,t,q,h1,h2,h3⟩:=q pos cv y;⟨c,o,vs,t,q,h1,hz _ _ _ h2,h3⟩⟩
 | met f y=>
  have e:=x;exact k a _ (.inl rfl) e
 | ext φ=>obtain ⟨p,⟨o,e⟩,st⟩:=x;exact ⟨st _ _ p λo q=>k _ _ (.inl rfl) q,⟨o,k _ _ (.inl rfl) e⟩,st⟩
theorem HOk.lt (x:HOk P w H h) (e:H a=some o):a<h.objs.size:=(x a o e).lt
theorem HOk.fresh (x:HOk P w H h) (e:h.objs.size<=a):H a=none:=by
 cases q:H a with
 | none=>rfl
 | some u=>exact absurd (Eg (x.lt q) e) (FN _)
theorem HOk.kept (x:HOk P w H h) (k:∀ b u,h.get? b=some u->h'.get? b=some u):HOk P w H h':=λa o e=>
 (x a o e).stay (λb u _ q=>k b u q) (λ_ q=>q) λ_ _ q=>q
theorem HOk.laid (x:HOk P w H h) (k:∀ b u,h.get? b=some u->h'.get? b=some u) (hp:h.objs.size<=a) (new:ObjOk P w (upd H a o) h' a o):HOk P w (upd H a o) h':=λb u e=>by
 have hn:=x.fresh hp;by_cases hb:b=a
 ·subst hb;rw [b8] at e;cases e;exact new
 ·rw [a8 hb] at e;exact (x b u e).stay (λc v _ q=>k c v q) (λc q=>by rw [a8 (b9 q hn)];exact q) (λc xs q=>by rw [a8 (b9 q hn)];exact q) λc o u q=>by rw [a8 (b9 q hn)];exact q
end
def Rd (H:Hp) (a:Addr) (u:HO):Prop:=H a=some u\/∃ o,H a=some (.frz o u)
theorem Rd.ok {H:Hp} {h:Heap} {a:Addr} {u:HO} (r:Rd H a u) (x:HOk P w H h):ObjOk P w H h a u:=by
 rcases r with r | ⟨o,r⟩
 ·exact x a u r
 ·obtain ⟨_,q⟩:=x a _ r;exact q
def Mut:Option HO->Prop
 | some (.lst _)=>True
 | some (.dK _)=>True
 | some (.dT _)=>True
 | some (.set _ _)=>True
 | some (.ins _ _ _)=>True
 | some (.ext _)=>True
 | _=>False
section
variable {P:Program} {w:World} {H:Hp} {h h':Heap} {x e:Addr} {o':HO}
theorem HOk.write (ok:HOk P w H h) (mu:Mut (H x)) (he:e=x\/H e=some (.own x)) (k:∀ b u,b≠e->h.get? b=some u->h'.get? b=some u) (heo:∃ u,h'.get? e=some u)
  (new:ObjOk P w (upd H x o') h' x o'):HOk P w (upd H x o') h':=λb u q=>by
 have nown:∀ c y,H c=some (.own y)->c≠x:=λc y r z=>by subst z;rw [r] at mu;exact mu
 have ntup:∀ c xs,H c=some (.tup xs)->c≠x:=λc xs r z=>by subst z;rw [r] at mu;exact mu
 by_cases hb:b=x
 ·subst hb;rw [b8] at q;cases q;exact new
 ·rw [a8 hb] at q;by_cases hbe:b=e
  ·have q':H b=some (.own x):=by
    rcases he with z | z
    ·grind
    ·rw [hbe];exact z
   rw [q] at q';cases q';obtain ⟨v,hv⟩:=heo;exact ⟨v,by rw [hbe];exact hv⟩
  ·refine (ok b u q).stay (λc v hc r=>k c v ?_ r) (λc r=>by rw [a8 (nown c b r)];exact r) (λc xs r=>by rw [a8 (ntup c xs r)];exact r) λc o u r=>by rw [a8 (λz=>by subst z;rw [r] at mu;exact mu)];exact r
   rcases hc with rfl | hc
   ·exact hbe
   ·grind
end
structure Un (fs ex:List Addr) (H H':Hp) (h h':Heap):Prop where
 keep:∀ b o,h.get? b=some o->H b=none->b∉fs->b∉ex->h'.get? b=some o
 slot:∀ b o,h.get? b=some o->H b=none->b∈fs->b∉ex->∃ sl,h'.get? b=some { o with slots:=sl }
 free:∀ b o,h.get? b=some o->H b=none->b∉ex->H' b=none
 there:∀ b o,h.get? b=some o->b∉ex->∃ o',h'.get? b=some o'
 tups:∀ b xs,H b=some (.tup xs)->H' b=some (.tup xs)
 frzs:∀ b o u,H b=some (.frz o u)->H' b=some (.frz o u)
 tbls:∀ b ps,H b=some (.tbl ps)->∃ more,H' b=some (.tbl (ps++more))
section
variable {fs fs' ex ex':List Addr} {H H1 H2:Hp} {h h1 h2 h':Heap} {a x e:Addr} {o:HO}
theorem Un.any (u:Un fs ex H H1 h h1) {b:Addr} {ob:Obj} (q:h.get? b=some ob) (n:H b=none) (c:b∉ex):∃ d,h1.get? b=some { ob with slots:=d }:=by
 by_cases a:b∈fs
 ·exact u.slot b ob q n a c
 ·exact ⟨ob.slots,u.keep b ob q n a c⟩
theorem Un.kept (k:∀ b u,h.get? b=some u->h'.get? b=some u):Un fs ex H H h h':=
 ⟨λb ob q _ _ _=>k b ob q,λb ob q _ _ _=>⟨ob.slots,k b ob q⟩,λ_ _ _ n _=>n,λb ob q _=>⟨ob,k b ob q⟩,λ_ _ q=>q,λ_ _ _ q=>q,λ_ ps q=>⟨#[],by rw [q];simp⟩⟩
theorem Un.refl:Un fs ex H H h h:=Un.kept λ_ _ q=>q
theorem Un.laid (k:∀ b u,h.get? b=some u->h'.get? b=some u) (d:h.objs.size<=a) (c:H a=none):Un fs ex H (upd H a o) h h' where
 keep:=λb u q _ _ _=>k b u q
 slot:=λb u q _ _ _=>⟨u.slots,k b u q⟩
 free:=λb u q n _=>by rw [a8 (Dw (Eg (Dv q) d))];exact n
 there:=λb u q _=>⟨u,k b u q⟩
 tups:=λb xs q=>by rw [a8 (b9 q c)];exact q
 frzs:=λb u xs q=>by rw [a8 (b9 q c)];exact q
 tbls:=λb ps q=>⟨#[],by rw [a8 (b9 q c),q];simp⟩
theorem Un.write (a:Mut (H x)) (i:e=x\/H e=some (.own x)) (k:∀ b u,b≠e->h.get? b=some u->h'.get? b=some u) (g:∃ u,h'.get? e=some u):Un fs ex H (upd H x o) h h':=by
 have d:∀ b,H b=none->b≠x:=λb n z=>by subst z;rw [n] at a;exact a
 have f:∀ b,H b=none->b≠e:=λb n z=>by
  subst z;rcases i with r | r
  ·exact d b n r
  ·rw [n] at r;cases r
 have c:∀ b u,H b=some u->¬ Mut (some u)->b≠x:=λb u q j z=>by subst z;rw [q] at a;exact j a
 refine ⟨λb u q n _ _=>k b u (f b n) q,λb u q n _ _=>⟨u.slots,k b u (f b n) q⟩,λb u q n _=>by rw [a8 (d b n)];exact n,λb u q _=>?_,
  λb xs q=>by rw [a8 (c b _ q λz=>z)];exact q,λb u xs q=>by rw [a8 (c b _ q λz=>z)];exact q,λb ps q=>⟨#[],by rw [a8 (c b _ q λz=>z),q];simp⟩⟩
 grind
end
def trk (h:Heap) (H:Hp):List Addr:=(List.range h.objs.size).filter λa=>(H a).isSome
def eI (h:Heap) (H:Hp):Heap:=PySem.W.hideAll h (trk h H)
theorem kU (h:Heap) (H:Hp):(eI h H).objs.size=h.objs.size:=PySem.W.hideAll_size _ _
theorem ag {H:Hp} {b:Addr} {o:Obj} (e:h.get? b=some o) (n:H b=none):(eI h H).get? b=some o:=
 PySem.W.hideAll_get _ e λa=>by
  have q:=(List.mem_filter.mp a).2;rw [n] at q;simp at q
theorem rq (e:(eI h H).get? b=some o):h.get? b=some o/\H b=none:=by
 have a:=PySem.W.of_hideAll (trk h H) e;refine ⟨a,?_⟩;cases q:H b with
 | none=>rfl
 | some x=>
  have c:b∈trk h H:=List.mem_filter.mpr ⟨Fp.mpr (Dv a),by simp [q]⟩;have z:(eI h H).get? b=none:=PySem.W.hideAll_none (trk h H) c;rw [z] at e;cases e
def Bi (mg:Str->Option Value) (h:Heap):Prop:=∃ bm ob,mg "__builtins__" = some (.ref bm)/\bm≠builtinsNs/\h.get? bm=some ob/\ob.cls=.type "module"/\ob.dict=some builtinsNs/\ob.data=.plain
structure Mod (K:PySem.W.Frag) (mg:Str->Option Value) (base:Heap):Prop where
 kin:K.In base
 glob:base.Ns mainGlobals mg
 blt:∃ mb,base.Ns builtinsNs mb/\∀ x:Str,x ≠ "__name__"->mb x=bootBuiltins x
 nolimit:base.NoLimit
 bm:Bi mg base
structure Cx where
 prog:Program
 w:World
 K:PySem.W.Frag
 mg:Str->Option Value
 base:Heap
 A:Around
 N:List Str
 s₀:Shared
 H₀:Hp
 env:Env
 outer:List Env
 stack:List Env
 ex:List Addr
 fn:Str->Bool
 calm:Bool
 pn:List (Addr×Obj)
 xe:Value->Shared->Prop
def frs (l:List Env):List Addr:=l.filterMap (·.frame)
abbrev Cx.fs (X:Cx):List Addr:=frs X.outer
def Vis (a:Scope) (x:Str):Prop:=a.names.lookup x=some .local\/a.names.lookup x=some .cell\/a.names.lookup x=some .free
def Loc (a:Scope) (x:Str):Prop:=a.names.lookup x=some .local\/a.names.lookup x=some .cell
def DR (a:Env) (h:Heap) (m:Str->Option Value) (x:Str) (u:Value):Prop:=
 (a.kindOf x=some .local/\m x=some u)\/((a.kindOf x=some .cell\/a.kindOf x=some .free)/\∃ c,a.cells.lookup x=some c/\h.IsCell c (some u))
structure Cx.Ok (X:Cx):Prop where
 mod:Mod X.K X.mg X.base
 kind:X.env.scope.kind=.function
 glob:X.env.globals=mainGlobals
 blt:X.env.builtins=builtinsNs
 above:X.s₀.heap.objs.size<=X.env.locals
 inj:∀ x y c,X.env.cells.lookup x=some c->X.env.cells.lookup y=some c->x=y
 has:∀ x,(X.env.kindOf x=some .cell\/X.env.kindOf x=some .free)->∃ c,X.env.cells.lookup x=some c
 cab:∀ x c,X.fn x=true->X.env.cells.lookup x=some c->X.s₀.heap.objs.size<=c
 hd:X.calm=true->X.A.handled=none
 frames:X.A.frames=some X.stack
 stk:X.stack=X.outer\/(X.stack=X.env :: X.outer/\X.env.frame=some X.env.locals)
 exf:∀ b∈X.ex,b≠X.env.locals/\∀ x c,X.env.cells.lookup x=some c->c≠b
 bs:∀ b o,X.base.get? b=some o->X.s₀.heap.get? b=some o/\X.H₀ b=none
 bsz:X.base.objs.size<=X.s₀.heap.objs.size
 noex:∀ b o,X.base.get? b=some o->b∉X.ex
 exfs:∀ b∈X.ex,b∉X.fs
 funs:X.s₀.heap.FunFrames X.base X.outer
 frf:∀ b∈X.fs,X.H₀ b=none
structure Inv (X:Cx) (pins:List (Addr×Obj)) (σ:List (Option V)) (H:Hp) (s:Shared):Prop where
 ok:X.Ok
 os:s.os=X.s₀.os
 bare:AllBare s.gens
 base:Un X.fs X.ex X.H₀ H X.s₀.heap s.heap
 loc:∃ m,s.heap.Ns X.env.locals m/\∀ (i:Nat) (x:Str) (v:V),X.N[i]?=some x->σ[i]?=some (some v)->Vis X.env.scope x->∃ u,RelV v u/\DR X.env s.heap m x u
 cell:∀ x c,X.env.cells.lookup x=some c->∃ v,s.heap.IsCell c v
 free:H X.env.locals=none
 freeC:∀ x c,X.env.cells.lookup x=some c->H c=none
 pin:∀ p∈X.pn++pins,s.heap.get? p.1=some p.2/\H p.1=none/\p.1≠X.env.locals/\p.1∉X.fs/\∀ v,p.2.data≠.cell v
 hok:HOk X.prog X.w H s.heap
 len:σ.length=X.N.length
section
variable {X:Cx} {pins:List (Addr×Obj)} {σ:List (Option V)} {H H':Hp} {s:Shared} {h':Heap}
theorem Cx.Ok.nofr (c:X.Ok) {b:Addr} {o:Obj} (e:X.base.get? b=some o):b∉X.fs:=λa=>by
 have:=(c.funs.mem a).1;rw [e] at this;cases this
theorem Inv.bs (I:Inv X pins σ H s):∀ b o,X.base.get? b=some o->s.heap.get? b=some o/\H b=none:=λb o e=>
 ⟨I.base.keep b o (I.ok.bs b o e).1 (I.ok.bs b o e).2 (I.ok.nofr e) (I.ok.noex b o e),I.base.free b o (I.ok.bs b o e).1 (I.ok.bs b o e).2 (I.ok.noex b o e)⟩
theorem Inv.bk (I:Inv X pins σ H s):∀ b o,X.base.get? b=some o->s.heap.get? b=some o:=λb o e=>(I.bs b o e).1
theorem Inv.mod (I:Inv X pins σ H s):Mod X.K X.mg X.base:=I.ok.mod
theorem Inv.kIn (I:Inv X pins σ H s):X.K.In s.heap:=I.ok.mod.kin.keeps I.bk
theorem Inv.fr (I:Inv X pins σ H s):∃ m,Fr X.base X.env.locals s.heap m:=
 let ⟨m,a,_⟩:=I.loc
 ⟨m,a,I.bk,EQ I.ok.bsz I.ok.above⟩
theorem Inv.lt (I:Inv X pins σ H s):X.env.locals<s.heap.objs.size:=let ⟨_,a,_⟩:=I.loc;a.lt
theorem Inv.sz (I:Inv X pins σ H s):X.s₀.heap.objs.size<=s.heap.objs.size:=EQ I.ok.above (FV I.lt)
theorem Inv.nofs (I:Inv X pins σ H s) {a:Addr} (h:s.heap.objs.size<=a):a∉X.fs:=λb=>by
 obtain ⟨_,o,c,_⟩:=I.ok.funs.mem b;exact absurd (Eg (Dv c) (EQ I.sz h)) (FN _)
theorem Inv.cne (I:Inv X pins σ H s):∀ x c,X.env.cells.lookup x=some c->c≠X.env.locals:=λx c e z=>by
 obtain ⟨v,o,d,hd⟩:=I.cell x c e;obtain ⟨m,⟨o',es,f,a,b,_⟩,_⟩:=I.loc;rw [z,a] at d;cases d;rw [b] at hd;cases hd
theorem Inv.funs (I:Inv X pins σ H s):s.heap.FunFrames X.base X.outer:=by
 have a:∀ (l:List Env),(∀ b∈frs l,b∈X.fs)->X.s₀.heap.FunFrames X.base l->s.heap.FunFrames X.base l:=by
  intro l;induction l with
  | nil=>intro _ _;trivial
  | cons j r n=>
   intro hs k;obtain ⟨g,⟨L,o,c,i,h,hd⟩,m⟩:=k;have f:=hs L (by unfold frs;rw [GL,c];exact Ei);obtain ⟨p,e⟩:=I.base.slot L o h (I.ok.frf L f) f λz=>I.ok.exfs L z f;exact ⟨g,⟨L,_,c,i,e,hd⟩,n (λb d=>hs b (by unfold frs;rw [GL,c];exact Ed _ d)) m⟩
 exact a X.outer (λ_ d=>d) I.ok.funs
theorem Inv.stack (I:Inv X pins σ H s):s.heap.FunFrames X.base X.stack:=by
 rcases I.ok.stk with e | ⟨e,hf⟩
 ·rw [e];exact I.funs
 ·rw [e];obtain ⟨m,a,_⟩:=I.loc;refine .cons (by rw [I.ok.kind];decide) hf a ?_ I.funs;exact Heap.get?_none_of_le (EQ I.ok.bsz I.ok.above)
theorem Inv.stkSub (I:Inv X pins σ H s):∀ b∈frs X.stack,b∈X.env.locals :: X.fs:=λb a=>by
 rcases I.ok.stk with e | ⟨e,hf⟩
 ·grind
 ·rw [e] at a;unfold frs at a;rw [GL,hf] at a;exact a
theorem Inv.stkFree (I:Inv X pins σ H s):∀ b∈frs X.stack,H b=none:=λb a=>by
 rcases Ea.mp (I.stkSub b a) with e | a
 ·rw [e];exact I.free
 ·obtain ⟨_,o,c,_⟩:=I.ok.funs.mem a;exact I.base.free b o c (I.ok.frf b a) λz=>I.ok.exfs b z a
theorem Inv.step {d':Drawn} {ch:List Addr} (I:Inv X pins σ H s)
  (h:∀ b∈ch,(b∈X.ex\/X.s₀.heap.objs.size<=b)/\b≠X.env.locals/\(∀ x c,X.env.cells.lookup x=some c->c≠b)/\∀ p∈X.pn++pins,p.1≠b)
  (j:∀ b o,b≠X.env.locals->b∉X.fs->b∉ch->s.heap.get? b=some o->H b=none->h'.get? b=some o)
  (A:∀ b o,b≠X.env.locals->b∈X.fs->b∉ch->s.heap.get? b=some o->H b=none->∃ O,h'.get? b=some { o with slots:=O }) (f:∀ b o,b∉ch->s.heap.get? b=some o->H b=none->H' b=none)
  (C:∀ b o,b∉ch->s.heap.get? b=some o->∃ o',h'.get? b=some o')
  (G:∀ b xs,H b=some (.tup xs)->H' b=some (.tup xs)) (J:∀ b o u,H b=some (.frz o u)->H' b=some (.frz o u)) (E:∀ b ps,H b=some (.tbl ps)->∃ F,H' b=some (.tbl (ps++F)))
  (ns:∀ m,s.heap.Ns X.env.locals m->h'.Ns X.env.locals m) (N:HOk X.prog X.w H' h') (Y:AllBare g') :
  Inv X pins σ H' { s with heap:=h',gens:=g',drawn:=d',toks:=t' }:=by
 have K:∀ b o,X.s₀.heap.get? b=some o->b≠X.env.locals:=λb o e=>Dw (Eg (Dv e) I.ok.above);have w:∀ b o,X.s₀.heap.get? b=some o->b∉X.ex->b∉ch:=λb o e a B=>by
  rcases (h b B).1 with z | z
  ·exact a z
  ·exact absurd (Eg (Dv e) z) (FN _)
 have t:∀ x c,X.env.cells.lookup x=some c->∀ v,s.heap.IsCell c v->h'.IsCell c v:=λx c e v ⟨o,D,hd⟩=>by
  have g:=λz=>(h c z).2.2.1 x c e rfl;by_cases P:c∈X.fs
  ·obtain ⟨O,q⟩:=A c o (I.cne x c e) P g D (I.freeC x c e);exact ⟨_,q,hd⟩
  ·exact ⟨o,j c o (I.cne x c e) P g D (I.freeC x c e),hd⟩
 refine ⟨I.ok,I.os,Y,⟨λb o e n B a=>?_,λb o e n B a=>?_,λb o e n a=>?_,λb o e a=>?_,λb xs e=>G b xs (I.base.tups b xs e),λb o xs e=>J b o xs (I.base.frzs b o xs e),λb ps e=>?_⟩,?_,λx c e=>?_,?_,λx c e=>?_,λp S=>?_,N,I.len⟩
 ·exact j b o (K b o e) B (w b o e a) (I.base.keep b o e n B a) (I.base.free b o e n a)
 ·obtain ⟨O,y⟩:=I.base.slot b o e n B a;obtain ⟨M,L⟩:=A b _ (K b o e) B (w b o e a) y (I.base.free b o e n a);exact ⟨M,L⟩
 ·obtain ⟨o',y⟩:=I.base.there b o e a;exact f b o' (w b o e a) y (I.base.free b o e n a)
 ·obtain ⟨o',y⟩:=I.base.there b o e a;exact C b o' (w b o e a) y
 ·obtain ⟨U,y⟩:=I.base.tbls b ps e;obtain ⟨m2,L⟩:=E b _ y;exact ⟨U++m2,by rw [L,Array.append_assoc]⟩
 ·obtain ⟨m,V,T⟩:=I.loc;refine ⟨m,ns m V,λi x v y L W=>?_⟩;obtain ⟨u,r,l⟩:=T i x v y L W;refine ⟨u,r,?_⟩;rcases l with l | ⟨k,c,e,z⟩
  ·exact .inl l
  ·exact .inr ⟨k,c,e,t x c e _ z⟩
 ·obtain ⟨v,z⟩:=I.cell x c e;exact ⟨v,t x c e v z⟩
 ·obtain ⟨m,⟨o,_,_,D,_⟩,_⟩:=I.loc;exact f _ o (λz=>(h _ z).2.1 rfl) D I.free
 ·obtain ⟨v,o,D,hd⟩:=I.cell x c e;exact f c o (λz=>(h c z).2.2.1 x c e rfl) D (I.freeC x c e)
 ·obtain ⟨e,n,R,Q,d⟩:=I.pin p S;have g:=λz=>(h p.1 z).2.2.2 p S rfl;exact ⟨j p.1 p.2 R Q g e n,f p.1 p.2 g e n,R,Q,d⟩
theorem Inv.un (I:Inv X pins σ H s) (u:Un X.fs [] H H' s.heap h') (c:HOk X.prog X.w H' h'):Inv X pins σ H' { s with heap:=h',toks:=t' }:=by
 obtain ⟨m,⟨o,es,k,g,r⟩,_⟩:=id I.loc;obtain ⟨l,j⟩:=u.any g I.free (by simp);exact I.step (ch:=[]) (λ_ z=>nomatch z) (λb o _ d _ e n=>u.keep b o e n d (by simp)) (λb o _ d _ e n=>u.slot b o e n d (by simp)) (λb o _ e n=>u.free b o e n (by simp)) (λb o _ e=>u.there b o e (by simp)) u.tups u.frzs u.tbls (λm' i=>by
  obtain ⟨o',es',f,a,h⟩:=i;rw [g] at a;cases a;exact ⟨_,es',f,j,h⟩) c I.bare
theorem Inv.call {d':Drawn} {ch:List Addr} (I:Inv X pins σ H s) (u:Un (frs X.stack) ch H H' s.heap h') (g:HOk X.prog X.w H' h') (q:AllBare g')
  (f:∀ b∈ch,(b∈X.ex\/X.s₀.heap.objs.size<=b)/\b≠X.env.locals/\(∀ x c,X.env.cells.lookup x=some c->c≠b)/\∀ p∈X.pn++pins,p.1≠b) :
  Inv X pins σ H' { s with heap:=h',gens:=g',drawn:=d',toks:=t' }:=by
 obtain ⟨m,⟨o,es,v,j,r⟩,_⟩:=id I.loc;obtain ⟨w,i⟩:=u.any j I.free λz=>(f _ z).2.1 rfl;exact I.step f (λb o i l a e n=>u.keep b o e n (λz=>(Ea.mp (I.stkSub b z)).elim i l) a) (λb o _ _ a e n=>u.any e n a) (λb o a e n=>u.free b o e n a) (λb o a e=>u.there b o e a) u.tups u.frzs u.tbls (λm' t=>by
  obtain ⟨o',es',h,d,k⟩:=t;rw [j] at d;cases d;exact ⟨_,es',h,i,k⟩) g q
theorem Inv.turned {t':Nat} {it:Addr} (I:Inv X pins σ H s) (k:∀ b o,b≠it->s.heap.get? b=some o->h'.get? b=some o) (hn:H it=none) (hL:it≠X.env.locals)
  (h1:it∈X.ex\/X.s₀.heap.objs.size<=it) (h2:∀ x c,X.env.cells.lookup x=some c->c≠it) (h3:∀ p∈X.pn++pins,p.1≠it):Inv X pins σ H { s with heap:=h',toks:=t' }:=by
 have nit:∀ b u,H b=some u->b≠it:=λb u e z=>by rw [z,hn] at e;cases e
 refine I.step (g':=s.gens) (d':=s.drawn) (ch:=[it]) (λb hb=>?_) (λb o _ _ hc e _=>k b o (λz=>hc (by simp [z])) e) (λb o _ _ hc e _=>⟨o.slots,k b o (λz=>hc (by simp [z])) e⟩) (λ_ _ _ _ n=>n)
  (λb o hc e=>⟨o,k b o (λz=>hc (by simp [z])) e⟩) (λ_ _ e=>e) (λ_ _ _ e=>e) (λb ps e=>⟨#[],by rw [e];simp⟩) (λm hm=>?_) (λb u e=>?_) I.bare
 ·have e:b=it:=by simpa using hb
  subst e;exact ⟨h1,hL,h2,h3⟩
 ·obtain ⟨o,es,ep,ho,r⟩:=hm;exact ⟨o,es,ep,k _ o (Ne.symm hL) ho,r⟩
 ·refine (I.hok b u e).stay (λc v hc q=>k c v ?_ q) (λ_ q=>q) λ_ _ q=>q;rcases hc with z | z
  ·rw [z];exact nit b u e
  ·exact nit c _ z
theorem Inv.tok (I:Inv X pins σ H s) (t:Nat):Inv X pins σ H { s with toks:=t }:=I.un Un.refl I.hok
theorem Inv.kept (I:Inv X pins σ H s) (k:∀ b u,s.heap.get? b=some u->h'.get? b=some u):Inv X pins σ H { s with heap:=h',toks:=t' }:=I.un (Un.kept k) (I.hok.kept k)
theorem Inv.laid {a:Addr} {o:HO} {t':Nat} (I:Inv X pins σ H s) (k:∀ b u,s.heap.get? b=some u->h'.get? b=some u) (d:s.heap.objs.size<=a) (c:ObjOk X.prog X.w (upd H a o) h' a o) :
  Inv X pins σ (upd H a o) { s with heap:=h',toks:=t' }:=I.un (Un.laid k d (I.hok.fresh d)) (I.hok.laid k d c)
theorem Inv.write (I:Inv X pins σ H s) (f:Mut (H x)) (d:e=x\/H e=some (.own x)) (k:∀ b u,b≠e->s.heap.get? b=some u->h'.get? b=some u) (a:∃ u,h'.get? e=some u)
  (c:ObjOk X.prog X.w (upd H x o) h' x o):Inv X pins σ (upd H x o) { s with heap:=h',toks:=t' }:=I.un (Un.write f d k a) (I.hok.write f d k a c)
theorem Inv.weak (I:Inv X pins σ H s) (d:σ'.length=σ.length) (w:∀ (i:Nat) v,σ'[i]?=some (some v)->σ[i]?=some (some v)):Inv X pins σ' H s:=
 ⟨I.ok,I.os,I.bare,I.base,let ⟨m,b,a⟩:=I.loc;⟨m,b,λi x v e c f=>a i x v e (w i v c) f⟩,I.cell,I.free,I.freeC,I.pin,I.hok,d.trans I.len⟩
theorem Inv.pins_of (I:Inv X pins σ H s) (h:∀ p∈pins',s.heap.get? p.1=some p.2/\H p.1=none/\p.1≠X.env.locals/\p.1∉X.fs/\∀ v,p.2.data≠.cell v):Inv X pins' σ H s:=
 ⟨I.ok,I.os,I.bare,I.base,I.loc,I.cell,I.free,I.freeC,λp a=>(FG.mp a).elim (λz=>I.pin p (List.mem_append_left _ z)) (h p),I.hok,I.len⟩
theorem aS {N:List Str} (e:N.Nodup) {i j:Nat} {x:Str} (a:N[i]?=some x) (b:N[j]?=some x):i=j:=by
 obtain ⟨f,d⟩:=Eb.mp a;obtain ⟨g,c⟩:=Eb.mp b;exact (He e).mp (d.trans c.symm)
theorem U1 {i:Nat} {x:Str} {v:V} {u:Value} {Q:Unit->Shared->Prop} (I:Inv X pins σ H s) (hN:X.N.Nodup) (O:X.N[i]?=some x) (t:Loc X.env.scope x) (r:RelV v u)
  (h:∀ s',Inv X pins (σ.set i (some v)) H s'->(∃ a,Heap.SameBut a s.heap s'.heap/\(a=X.env.locals\/X.env.cells.lookup x=some a))->Q () s') (hf:X.fn x=true\/X.env.scope.names.lookup x=some .local:=by first | exact .inl rfl | exact .inr rfl | assumption):wpAny M A (storeName X.env x u) Q E s:=by
 obtain ⟨m,Z,hl⟩:=id I.loc;have L:(X.env.scope.kind==.class||(X.env.scope.kind==.module&&X.env.locals != X.env.globals))=false:=by rw [I.ok.kind];rfl
 have B:i<σ.length:=by rw [I.len];exact (Eb.mp O).1
 have C:=I.cne;have f:∀ {a:Addr} {h':Heap},(∃ o,s.heap.get? a=some o/\H a=none)->Heap.SameBut a s.heap h'->HOk X.prog X.w H h':=λ{a h'} ha hs b ob e=>by
  obtain ⟨_,_,hfree⟩:=ha;refine (I.hok b ob e).stay (λc w' l q=>(hs.2 c ?_).trans q) (λ_ q=>q) λ_ _ q=>q;rintro rfl;rcases l with rfl | l
  ·grind
  ·grind
 rcases t with hk | hk
 ·refine wpAny_storeName_local hk Z (λh' W hs=>?_) L;obtain ⟨oL,_,_,hoL,_⟩:=id Z;refine h _ ⟨I.ok,I.os,I.bare,⟨λb o e n D t=>?_,λb o e n D t=>?_,I.base.free,λb o e t=>?_,I.base.tups,I.base.frzs,I.base.tbls⟩,⟨_,W,λj y T g w e3=>?_⟩,λy c e=>?_,I.free,I.freeC,λp hp=>?_,f ⟨oL,hoL,I.free⟩ hs,by simpa using I.len⟩ ⟨_,hs,.inl rfl⟩
  ·exact (hs.2 b (Dw (Eg (Dv e) I.ok.above))).trans (I.base.keep b o e n D t)
  ·obtain ⟨sl,g⟩:=I.base.slot b o e n D t;exact ⟨sl,(hs.2 b (Dw (Eg (Dv e) I.ok.above))).trans g⟩
  ·obtain ⟨o',g⟩:=I.base.there b o e t;exact ⟨o',(hs.2 b (Dw (Eg (Dv e) I.ok.above))).trans g⟩
  ·by_cases F:j=i
   ·subst F;rw [O] at g;cases g;rw [EM B] at w;cases w;exact ⟨u,r,.inl ⟨hk,by simp⟩⟩
   ·rw [Fh (Ne.symm F)] at w;obtain ⟨Y,r',q⟩:=hl j y T g w e3;refine ⟨Y,r',?_⟩;rcases q with ⟨k,e⟩ | ⟨k,c,e,z⟩
    ·refine .inl ⟨k,?_⟩;have:y≠x:=λe=>F (aS hN g (e▸O));simp [this,e]
    ·exact .inr ⟨k,c,e,z.sameBut hs (C y c e)⟩
  ·obtain ⟨w',z⟩:=I.cell y c e;exact ⟨w',z.sameBut hs (C y c e)⟩
  ·obtain ⟨e,n,R,U,d⟩:=I.pin p hp;exact ⟨(hs.2 p.1 R).trans e,n,R,U,d⟩
 ·have G:X.fn x=true:=by
   rcases hf with z | z
   ·exact z
   ·rw [z] at hk;cases hk
  obtain ⟨c,l⟩:=I.ok.has x (.inl hk);obtain ⟨w',z⟩:=I.cell x c l;refine wpAny_storeName_cell I.ok.kind hk l z (λh' N hs=>?_);obtain ⟨oc,J,P⟩:=id z;refine h { s with heap:=h' } ⟨I.ok,I.os,I.bare,⟨λb o e n D t=>?_,λb o e n D t=>?_,I.base.free,λb o e t=>?_,I.base.tups,I.base.frzs,I.base.tbls⟩,⟨m,Z.sameBut hs (Ne.symm (C x c l)),λj y T g w e3=>?_⟩,λy S e=>?_,I.free,I.freeC,λp hp=>?_,f ⟨oc,J,I.freeC x c l⟩ hs,by simpa using I.len⟩ ⟨c,hs,.inr l⟩
  ·exact (hs.2 b (Dw (Eg (Dv e) (I.ok.cab x c G l)))).trans (I.base.keep b o e n D t)
  ·obtain ⟨sl,g⟩:=I.base.slot b o e n D t;exact ⟨sl,(hs.2 b (Dw (Eg (Dv e) (I.ok.cab x c G l)))).trans g⟩
  ·obtain ⟨o',g⟩:=I.base.there b o e t;exact ⟨o',(hs.2 b (Dw (Eg (Dv e) (I.ok.cab x c G l)))).trans g⟩
  ·by_cases F:j=i
   ·subst F;rw [O] at g;cases g;rw [EM B] at w;cases w;exact ⟨u,r,.inr ⟨.inl hk,c,l,N⟩⟩
   ·rw [Fh (Ne.symm F)] at w;obtain ⟨Y,r',q⟩:=hl j y T g w e3;refine ⟨Y,r',?_⟩;rcases q with q | ⟨k,S,e,z'⟩
    ·exact .inl q
    ·refine .inr ⟨k,S,e,z'.sameBut hs ?_⟩;rintro rfl;exact F (aS hN g (I.ok.inj _ _ _ e l▸O))
  ·by_cases K:S=c
   ·subst K;exact ⟨_,N⟩
   ·obtain ⟨w2,z2⟩:=I.cell y S e;exact ⟨w2,z2.sameBut hs K⟩
  ·obtain ⟨e,n,R,U,d⟩:=I.pin p hp;refine ⟨(hs.2 p.1 ?_).trans e,n,R,U,d⟩;intro q;rw [q,J] at e;have q':=EA e;exact d w' (by rw [<- q'];exact P)
theorem O8 {i:Nat} {x:Str} {v:V} {u:Value} {Q:Unit->Shared->Prop} (I:Inv X pins σ H s) (e:X.N.Nodup) (c:X.N[i]?=some x) (a:Loc X.env.scope x) (r:RelV v u)
  (h:∀ s',Inv X pins (σ.set i (some v)) H s'->Q () s') (b:X.fn x=true\/X.env.scope.names.lookup x=some .local:=by first | exact .inl rfl | exact .inr rfl | assumption):wpAny M A (storeName X.env x u) Q E s:=
 U1 I e c a r (λs' d _=>h s' d) b
theorem Inv.call' {ch:List Addr} (I:Inv X pins σ H s) (g:s'.os=s.os) (u:Un (frs X.stack) ch H H' s.heap s'.heap) (d:HOk X.prog X.w H' s'.heap) (f:AllBare s'.gens)
  (a:∀ b∈ch,(b∈X.ex\/X.s₀.heap.objs.size<=b)/\b≠X.env.locals/\(∀ x c,X.env.cells.lookup x=some c->c≠b)/\∀ p∈X.pn++pins,p.1≠b):Inv X pins σ H' s':=by
 obtain ⟨h',g',d',t',o'⟩:=s';have e:=g;subst e;exact I.call u d f a
end
abbrev XK:=Value->Option Addr->Hp->Prop
abbrev St:=List (Option V)
abbrev VK:=V->Hp->Prop
abbrev TE:=St->Hp->VK->Prop
abbrev TT:=St->Hp->(Bool->Hp->Prop)->Prop
abbrev TA:=St->Hp->(List V->Hp->Prop)->Prop
structure Ends where
 nx:St->Hp->Prop
 rt:VK
 bk:St->Hp->Prop:=λ_ _=>False
 ct:St->Hp->Prop:=λ_ _=>False
abbrev TS:=Ends->St->Hp->Prop
def EP (X:Cx) (pins:List (Addr×Obj)) (σ:St) (Q:VK) (u:Value) (s':Shared):Prop:=∃ v H',Inv X pins σ H' s'/\RelV v u/\Q v H'
def TP (X:Cx) (pins:List (Addr×Obj)) (σ:St) (Q:Bool->Hp->Prop) (b:Bool) (s':Shared):Prop:=∃ H',Inv X pins σ H' s'/\Q b H'
def AP (X:Cx) (pins:List (Addr×Obj)) (σ:St) (Q:List V->Hp->Prop) (us:List Value) (s':Shared):Prop:=∃ vs H',Inv X pins σ H' s'/\Vals vs us/\Q vs H'
def SP (X:Cx) (pins:List (Addr×Obj)) (D:Ends) (f:Flow) (s':Shared):Prop:=
 match f with
 | .next=>∃ a H',Inv X pins a H' s'/\D.nx a H'
 | .brk=>∃ a H',Inv X pins a H' s'/\D.bk a H'
 | .cont=>∃ a H',Inv X pins a H' s'/\D.ct a H'
 | .ret u=>∃ v a H',Inv X pins a H' s'/\RelV v u/\D.rt v H'
def PE (X:Cx) (e:Expr) (t:TE):Prop:=
 ∀ (pins:List (Addr×Obj)) (s:Shared) (σ:St) (H:Hp) (Q:VK),Inv X pins σ H s->t σ H Q->wpAny (model X.prog X.w) X.A (eval e X.env) (EP X pins σ Q) X.xe s
def PT (X:Cx) (e:Expr) (t:TT):Prop:=
 ∀ (pins:List (Addr×Obj)) (s:Shared) (σ:St) (H:Hp) (Q:Bool->Hp->Prop),Inv X pins σ H s->t σ H Q->wpAny (model X.prog X.w) X.A (isTrue e X.env (eval e X.env)) (TP X pins σ Q) X.xe s
def PW (X:Cx) (e:Expr) (t:TT):Prop:=
 ∀ (a:Sem Value) (pins:List (Addr×Obj)) (s:Shared) (σ:St) (H:Hp) (Q:Bool->Hp->Prop),Inv X pins σ H s->t σ H Q->wpAny (model X.prog X.w) X.A (isTrue e X.env a) (TP X pins σ Q) X.xe s
theorem PW.pt (h:PW X e t):PT X e t:=h _
def PA (X:Cx) (es:List Expr) (t:TA):Prop:=
 ∀ (pos:Pos) (pins:List (Addr×Obj)) (s:Shared) (σ:St) (H:Hp) (Q:List V->Hp->Prop),Inv X pins σ H s->t σ H Q->wpAny (model X.prog X.w) X.A (spliced (backTo pos (starEach es X.env))) (AP X pins σ Q) X.xe s
def PS (X:Cx) (st:Stmt) (t:TS):Prop:=
 ∀ (pins:List (Addr×Obj)) (s:Shared) (σ:St) (H:Hp) (D:Ends),Inv X pins σ H s->t D σ H->wpAny (model X.prog X.w) X.A (exec st X.env) (SP X pins D) X.xe s
def PSs (X:Cx) (st:List Stmt) (t:TS):Prop:=
 ∀ (pins:List (Addr×Obj)) (s:Shared) (σ:St) (H:Hp) (D:Ends),Inv X pins σ H s->t D σ H->wpAny (model X.prog X.w) X.A (execs st X.env) (SP X pins D) X.xe s
theorem thn {M:Model} {A:Around} {E:Value->Shared->Prop} {s:Shared} (h:wpAny M A t Q E s) (b:∀ a s,Q a s->Q' a s):wpAny M A t Q' E s:=Ef h b λ_ _ x=>x
section
variable {X:Cx}
def xg (i:Nat):TE:=λσ H Q=>∃ v,σ[i]?=some (some v)/\Q v H
def tC (v:V):TE:=λ_ H Q=>Q v H
theorem fh {pos:Pos} (o:X.N[i]?=some x) (p:Vis X.env.scope x) (hd:(x==("__debug__" : Str))=false:=by decide) (f:(x==("__classdict__" : Str))=false:=by decide):PE X (.Name x pos) (xg i):=by
 intro pins s σ H Q I h;obtain ⟨v,e,h⟩:=h;obtain ⟨m,j,k⟩:=I.loc;obtain ⟨u,r,l⟩:=k i x v o e p;have d:EP X pins σ Q u s:=⟨v,H,I,r,h⟩;rcases l with ⟨b,n⟩ | ⟨b,c,g,a⟩
 ·exact wpAny_Name (wpAny_loadName_local I.ok.kind b j n d) hd
 ·rcases b with b | b
  ·exact wpAny_Name (wpAny_loadName_cell I.ok.kind b g a d) hd
  ·exact wpAny_Name (wpAny_loadName_free I.ok.kind b g a d f) hd
theorem nE {i j pos}:PE X (.Constant (.int i) j pos) (tC (.int i)):=λ_ _ _ H _ I h=>wpAny_Constant_int ⟨.int i,H,I.tok _,⟨_,rfl⟩,h⟩
theorem Bq {b j pos}:PE X (.Constant (.bool b) j pos) (tC (.bl b)):=λ_ _ _ H _ I h=>Constant_bool ⟨.bl b,H,I,rfl,h⟩
theorem wY {j pos}:PE X (.Constant .none j pos) (tC .non):=λ_ _ _ H _ I h=>Constant_none ⟨.non,H,I,rfl,h⟩
theorem xW {x j pos}:PE X (.Constant (.str x) j pos) (tC (.str x)):=λ_ _ _ H _ I h=>Calls.Constant_str ⟨.str x,H,I.tok _,⟨_,rfl⟩,h⟩
def Gl (X:Cx) (x:Str):Prop:=X.env.kindOf x=some .globalImplicit
theorem F4 {pins:List (Addr×Obj)} {s:Shared} {σ:St} {H:Hp} {x:Str} {u:Value} {pos:Pos} {Q:Value->Shared->Prop} (I:Inv X pins σ H s) (a:Gl X x) (b:X.mg x=some u) (h:Q u s)
  (hd:(x==("__debug__" : Str))=false:=by decide):wpAny (model X.prog X.w) X.A (eval (.Name x pos) X.env) Q E s:=
 HF I.ok.kind a (Calls.loadGlobal_global (by rw [I.ok.glob];exact I.mod.glob.keeps I.bk) b h) hd
theorem w8 {E:Value->Shared->Prop} {pins:List (Addr×Obj)} {s:Shared} {σ:St} {H:Hp} {x:Str} {u:Value} {pos:Pos} {Q:Value->Shared->Prop} (I:Inv X pins σ H s) (d:Gl X x) (e:X.mg x=none) (f:bootBuiltins x=some u) (h:Q u s)
  (a:x ≠ "__name__":=by decide) (hd:(x==("__debug__" : Str))=false:=by decide):wpAny (model X.prog X.w) X.A (eval (.Name x pos) X.env) Q E s:=by
 obtain ⟨g,b,c⟩:=I.mod.blt;exact HF I.ok.kind d (Calls.loadGlobal_builtin (by rw [I.ok.glob];exact I.mod.glob.keeps I.bk) e (by rw [I.ok.blt];exact b.keeps I.bk) ((c x a).trans f) h) hd
theorem ci {u:Value} {pos:Pos} (a:Gl X x) (b:X.mg x=some u) (r:RelV v u) (hd:(x==("__debug__" : Str))=false:=by decide):PE X (.Name x pos) (tC v):=
 λ_ _ _ H _ I h=>F4 I a b ⟨v,H,I,r,h⟩ hd
theorem sd {u:Value} {pos:Pos} (c:Gl X x) (d:X.mg x=none) (b:bootBuiltins x=some u) (r:RelV v u) (a:x ≠ "__name__":=by decide) (hd:(x==("__debug__" : Str))=false:=by decide):PE X (.Name x pos) (tC v):=
 λ_ _ _ H _ I h=>w8 I c d b ⟨v,H,I,r,h⟩ a hd
variable {a b:Expr} {ta tb:TE} {pos:Pos}
variable {tA tB':TT} {rest:List Expr}
def CP (t u:TT):TT:=λσ H Q=>t σ H λc a=>if c=true then u σ a Q else Q false a
def tOr (t u:TT):TT:=λσ H Q=>t σ H λc a=>if c=true then Q true a else u σ a Q
def xk (t:TT):TT:=λσ H Q=>t σ H λc a=>Q (!c) a
theorem pw_and1 (b:PT X a tA):PW X (.BoolOp .And [a] pos) tA:=by
 intro d pins s σ H Q I h;refine isTrue_and (thn (b pins s σ H Q I h) λc f e=>?_);cases c with
 | true=>exact isTrue_and_nil e
 | false=>exact e
theorem pw_or1 (b:PT X a tA):PW X (.BoolOp .Or [a] pos) tA:=by
 intro d pins s σ H Q I h;refine isTrue_or (thn (b pins s σ H Q I h) λc f e=>?_);cases c with
 | false=>exact isTrue_or_nil e
 | true=>exact e
theorem pw_and (g:PT X a tA) (j:PW X (.BoolOp .And (b :: rest) pos) tB'):PW X (.BoolOp .And (a :: b :: rest) pos) (CP tA tB'):=by
 intro i pins s σ H Q I h;refine isTrue_and (thn (g pins s σ H _ I h) λc k ⟨e,d,f⟩=>?_);cases c with
 | true=>exact j i pins k σ e Q d f
 | false=>exact ⟨e,d,f⟩
theorem pw_or (g:PT X a tA) (j:PW X (.BoolOp .Or (b :: rest) pos) tB'):PW X (.BoolOp .Or (a :: b :: rest) pos) (tOr tA tB'):=by
 intro i pins s σ H Q I h;refine isTrue_or (thn (g pins s σ H _ I h) λc k ⟨e,d,f⟩=>?_);cases c with
 | true=>exact ⟨e,d,f⟩
 | false=>exact j i pins k σ e Q d f
theorem yE (d:PT X a tA):PT X (.UnaryOp .Not a pos) (xk tA):=by
 intro pins s σ H Q I h;exact isTrue_not (d pins s σ H (λc b=>Q (!c) b) I h)
theorem xC {op} {t:TE} (h:PE X a t):PE X (.BoolOp op [a] pos) t:=λpins s σ H Q I b=>BoolOp_one (h pins s σ H Q I b)
def tIf (t:TT) (b d:TE):TE:=λσ H Q=>t σ H λc a=>if c=true then b σ a Q else d σ a Q
theorem lj (l:PT X c tA) (j:PE X a ta) (k:PE X b tb):PE X (.IfExp c a b pos) (tIf tA ta tb):=by
 intro pins s σ H Q I h;refine wpAny_IfExp (thn (l pins s σ H _ I h) λd g ⟨f,e,i⟩=>?_);cases d with
 | true=>exact j pins g σ f Q e i
 | false=>exact k pins g σ f Q e i
end
def SqL (K:PySem.W.Frag) (H:Hp) (a:Addr) (xs:List V):Prop:=
 Rd H a (.lst xs) \/
  ∃ (o:Obj) (b:Array Value) (n:Nat),K.lookup a=some o/\o.cls=.type "list"/\o.dict=none/\o.data=.seq b n/\b.size<=sizeLine/\Vals xs b.toList
def SqT (K:PySem.W.Frag) (H:Hp) (a:Addr) (xs:List V):Prop:=
 Rd H a (.tup xs) \/
  ∃ (o:Obj) (b:Array Value) (n:Nat),K.lookup a=some o/\o.cls=.type "tuple"/\o.data=.seq b n/\b.size<=sizeLine/\Vals xs b.toList
def Cn:Value->Option V
 | .none=>some .non
 | .bool b=>some (.bl b)
 | .int i _=>some (.int i)
 | .str x _=>some (.str x)
 | .bytes b _=>some (.byt b)
 | .float b _=>some (.flt b)
 | .ref a=>some (.ref a)
 | .type n=>some (.ty n)
 | _=>none
theorem RelV.abs (r:RelV x u):Cn u=some x:=by
 cases x with
 | non=>cases r;rfl
 | bl _=>cases r;rfl
 | int _=>obtain ⟨t,rfl⟩:=r;rfl
 | str _=>obtain ⟨t,rfl⟩:=r;rfl
 | byt _=>obtain ⟨t,rfl⟩:=r;rfl
 | flt _=>obtain ⟨t,rfl⟩:=r;rfl
 | ref _=>cases r;rfl
 | ty _=>cases r;rfl
theorem RelV.inj {u:Value} (r:RelV x u) (q:RelV y u):x=y:=EA (r.abs.symm.trans q.abs)
theorem Vals.inj:∀ {xs ys:List V} {us:List Value},Vals xs us->Vals ys us->xs=ys
 | _,_,_,.nil,.nil=>rfl
 | _,_,_,.cons r t,.cons a t'=>by rw [r.inj a,Vals.inj t t']
section
variable {X:Cx} {pins:List (Addr×Obj)} {σ:St} {H:Hp} {s:Shared} {a:Addr} {xs ys:List V}
theorem Inv.list (I:Inv X pins σ H s) (h:SqL X.K H a xs):∃ b:List Value,Vals xs b/\PlainL s.heap a b.toArray/\xs.length<=sizeLine:=by
 rcases h with h | ⟨o,b,n,hk,hc,hd,hs,hz,r⟩
 ·obtain ⟨z,b,n,r,e⟩:=h.ok I.hok;exact ⟨b,r,⟨_,n,e,rfl,rfl,rfl⟩,z⟩
 ·refine ⟨b.toList,r,⟨o,n,I.kIn a o hk,hc,hd,by simpa using hs⟩,?_⟩;have e:=r.length;simp at e;omega
theorem Inv.tuple (I:Inv X pins σ H s) (h:SqT X.K H a xs):∃ b:List Value,Vals xs b/\IsTup s.heap a b.toArray/\xs.length<=sizeLine:=by
 rcases h with h | ⟨o,b,n,hk,hc,hs,hz,r⟩
 ·obtain ⟨z,b,r,p⟩:=h.ok I.hok;exact ⟨b,r,p.is,z⟩
 ·refine ⟨b.toList,r,⟨o,I.kIn a o hk,hc,n,by simpa using hs⟩,?_⟩;have e:=r.length;simp at e;omega
theorem Inv.list_inj (I:Inv X pins σ H s) (h:SqL X.K H a xs) (h':SqL X.K H a ys):xs=ys:=by
 obtain ⟨b,r,⟨o,n,e,_,_,d⟩,_⟩:=I.list h;obtain ⟨its',f,⟨o',g,c,_,_,d'⟩,_⟩:=I.list h';rw [e] at c;cases c;rw [d] at d';injection d' with d1 _;have:b=its':=by simpa using congrArg Array.toList d1
 subst this;exact r.inj f
theorem Inv.tuple_inj (I:Inv X pins σ H s) (h:SqT X.K H a xs) (h':SqT X.K H a ys):xs=ys:=by
 obtain ⟨b,r,⟨o,e,_,n,d⟩,_⟩:=I.tuple h;obtain ⟨its',f,⟨o',c,_,g,d'⟩,_⟩:=I.tuple h';rw [e] at c;cases c;rw [d] at d';injection d' with d1 _;have:b=its':=by simpa using congrArg Array.toList d1
 subst this;exact r.inj f
end
abbrev Cx.wish (X:Cx) (E:Value->Shared->Prop):Cx:={ X with xe:=E }
abbrev Cx.nox (X:Cx):Cx:=X.wish λ_ _=>False
theorem Cx.Ok.wish {X:Cx} (a:X.Ok) (E:Value->Shared->Prop):(X.wish E).Ok:=
 ⟨a.mod,a.kind,a.glob,a.blt,a.above,a.inj,a.has,a.cab,a.hd,a.frames,a.stk,a.exf,a.bs,a.bsz,a.noex,a.exfs,a.funs,a.frf⟩
theorem Cx.Ok.unwish {X:Cx} {E:Value->Shared->Prop} (a:(X.wish E).Ok):X.Ok:=
 ⟨a.mod,a.kind,a.glob,a.blt,a.above,a.inj,a.has,a.cab,a.hd,a.frames,a.stk,a.exf,a.bs,a.bsz,a.noex,a.exfs,a.funs,a.frf⟩
section
variable {X:Cx} {pins:List (Addr×Obj)} {σ:St} {H:Hp} {s:Shared} {E:Value->Shared->Prop}
theorem Inv.wish (I:Inv X pins σ H s) (E:Value->Shared->Prop):Inv (X.wish E) pins σ H s:=⟨I.ok.wish E,I.os,I.bare,I.base,I.loc,I.cell,I.free,I.freeC,I.pin,I.hok,I.len⟩
theorem Inv.unwish (I:Inv (X.wish E) pins σ H s):Inv X pins σ H s:=⟨I.ok.unwish,I.os,I.bare,I.base,I.loc,I.cell,I.free,I.freeC,I.pin,I.hok,I.len⟩
theorem SP.unwish (h:SP (X.wish E) pins D f s'):SP X pins D f s':=by
 cases f with
 | next=>obtain ⟨σ',H',I,q⟩:=h;exact ⟨σ',H',I.unwish,q⟩
 | brk=>obtain ⟨σ',H',I,q⟩:=h;exact ⟨σ',H',I.unwish,q⟩
 | cont=>obtain ⟨σ',H',I,q⟩:=h;exact ⟨σ',H',I.unwish,q⟩
 | ret u=>obtain ⟨v,σ',H',I,r,q⟩:=h;exact ⟨v,σ',H',I.unwish,r,q⟩
theorem PSs.nox {st:List Stmt} {t:TS} (h:PSs X.nox st t):PSs X st t:=λpins s σ H D I a=>
 Ef (h pins s σ H D (I.wish _) a) (λ_ _ q=>q.unwish) λ_ _ z=>False.elim z
end
section
variable {X:Cx} {st:Stmt} {rest:List Stmt} {t u:TS} {e:Expr} {te:TE} {pos:Pos}
def tNext:TS:=λD σ H=>D.nx σ H
def CV (t u:TS):TS:=λD σ H=>t { D with nx:=u D } σ H
theorem rZ:PSs X [] tNext:=λ_ _ σ H _ I h=>GQ ⟨σ,H,I,h⟩
theorem A2 (h1:PS X st t) (h2:PSs X rest u):PSs X (st :: rest) (CV t u):=by
 intro pins s σ H D I h;refine Ip (thn (h1 pins s σ H { D with nx:=u D } I h) λf s1 q=>?_);cases f with
 | next=>
  obtain ⟨σ',H',I',q⟩:=q;exact h2 pins s1 σ' H' D I' q
 | ret v=>exact q
 | brk=>exact q
 | cont=>exact q
theorem M3 (h1:PS X st t):PSs X [st] t:=by
 intro pins s σ H D I h;refine Ip (thn (h1 pins s σ H D I h) λf s1 q=>?_);cases f with
 | next=>exact GQ q
 | ret v=>exact q
 | brk=>exact q
 | cont=>exact q
def tBreak:TS:=λD σ H=>D.bk σ H
def tCont:TS:=λD σ H=>D.ct σ H
theorem sP:PS X (.Pass pos) tNext:=λ_ _ σ H _ I h=>wpAny_Pass ⟨σ,H,I,h⟩
theorem mR:PS X (.Break pos) tBreak:=λ_ _ σ H _ I h=>wpAny_Break ⟨σ,H,I,h⟩
theorem dm:PS X (.Continue pos) tCont:=λ_ _ σ H _ I h=>wpAny_Continue ⟨σ,H,I,h⟩
theorem Inv.quiet {σ:St} {H:Hp} {s:Shared} (I:Inv X pins σ H s):interactive X.env=false:=by simp [interactive,I.ok.kind]
def Ar (te:TE):TS:=λD σ H=>te σ H λ_ a=>D.nx σ a
theorem F3 (a:PE X e te) (hs:swapsWith e none pos.line X.env=pure false:=by rfl):PS X (.Expr e pos) (Ar te):=by
 intro pins s σ H D I h;exact wpAny_Expr_any (thn (a pins s σ H _ I h) λv f ⟨x,c,b,g,d⟩=>⟨σ,c,b,d⟩) I.quiet hs
def DG (te:TE):TS:=λD σ H=>te σ H D.rt
theorem wO (a:PE X e te):PS X (.Return (some e) pos) (DG te):=by
 intro pins s σ H D I h;exact wpAny_Return_some (thn (a pins s σ H _ I h) λv g ⟨x,c,b,f,d⟩=>⟨x,σ,c,b,f,d⟩)
def tRetN:TS:=λD _ H=>D.rt .non H
theorem tq:PS X (.Return none pos) tRetN:=λ_ _ σ H _ I h=>wpAny_Return_none ⟨.non,σ,H,I,rfl,h⟩
def CZ (c:TT) (t u:TS):TS:=λD σ H=>c σ H λb a=>if b=true then t D σ a else u D σ a
theorem ps_if {j:TT} (m:PT X c j) (k:PSs X a t) (l:PSs X b u):PS X (.If c a b pos) (CZ j t u):=by
 intro pins s σ H D I h;refine wpAny_If (thn (m pins s σ H _ I h) λd g ⟨f,e,i⟩=>?_);cases d with
 | true=>exact k pins g σ f D e i
 | false=>exact l pins g σ f D e i
def tNever:TS:=λ_ _ _=>False
theorem fK:PS X st tNever:=λ_ _ _ _ _ _ h=>h.elim
end
abbrev TG:=V->St->Hp->(St->Hp->Prop)->Prop
abbrev TGs:=List V->St->Hp->(St->Hp->Prop)->Prop
def PG (X:Cx) (a:Expr) (t:TG):Prop:=
 ∀ (pins:List (Addr×Obj)) (s:Shared) (σ:St) (H:Hp) (v:V) (u:Value) (Q:St->Hp->Prop),Inv X pins σ H s->RelV v u->t v σ H Q ->
  wpAny (model X.prog X.w) X.A (assign a X.env u) (λ_ s'=>∃ b H',Inv X pins b H' s'/\Q b H') X.xe s
def PGs (X:Cx) (b:List Expr) (t:TGs):Prop:=
 ∀ (pins:List (Addr×Obj)) (s:Shared) (σ:St) (H:Hp) (vs:List V) (us:List Value) (Q:St->Hp->Prop),Inv X pins σ H s->Vals vs us->t vs σ H Q ->
  wpAny (model X.prog X.w) X.A (assignInOrder ((assignEach b X.env).map (·.2)) us) (λ_ s'=>∃ a H',Inv X pins a H' s'/\Q a H') X.xe s
abbrev yN:=V->V->V->Hp->(Hp->Prop)->Prop
def wQ (X:Cx) (t:yN):Prop:=
 ∀ (pins:List (Addr×Obj)) (s:Shared) (σ:St) (H:Hp) (o i v:V) (b a u:Value) (Q:Hp->Prop),Inv X pins σ H s->RelV o b->RelV i a->RelV v u->t o i v H Q ->
  wpAny (model X.prog X.w) X.A (setItem b a u) (λ_ s'=>∃ H',Inv X pins σ H' s'/\Q H') X.xe s
section
variable {X:Cx} {pos:Pos}
def aw (i:Nat):TG:=λv σ H Q=>Q (σ.set i (some v)) H
theorem w9 (e:X.N.Nodup) (c:X.N[i]?=some x) (a:Loc X.env.scope x) (b:X.fn x=true\/X.env.scope.names.lookup x=some .local:=by first | exact .inl rfl | exact .inr rfl | assumption):PG X (.Name x pos) (aw i):=by
 intro pins s σ H v u Q I r h;exact HY (O8 I e c a r (λs' d=>⟨_,H,d,h⟩) b)
def gNil:TGs:=λvs σ H Q=>vs=[]/\Q σ H
def nX (t:TG) (u:TGs):TGs:=λvs σ H Q=>∃ v r,vs=v :: r/\t v σ H λa H'=>u r a H' Q
theorem cD:PGs X [] gNil:=by
 intro pins s σ H vs us Q I r h;obtain ⟨e,h⟩:=h;subst e;cases r;exact assignInOrder_nil ⟨σ,H,I,h⟩
theorem G5 {t:TG} {u:TGs} (b:PG X e t) (g:PGs X es u)
  (hs:(assignEach (e :: es) X.env).map (·.2)=assign e X.env :: (assignEach es X.env).map (·.2):=by rfl):PGs X (e :: es) (nX t u):=by
 intro pins s σ H vs us Q I r h;obtain ⟨v,l,f,h⟩:=h;subst f;cases r with
 | cons r i=>
  rw [hs];refine assignInOrder_cons (thn (b pins s σ H _ _ _ I r h) λ_ j ⟨a,d,c,k⟩=>?_);exact g pins j a d _ _ Q c i k
def xb (K:PySem.W.Frag) (n:Nat) (t:TGs):TG:=λv σ H Q=>∃ a xs,v=.ref a/\SqT K H a xs/\xs.length=n/\t xs σ H Q
theorem fU {k:Nat} {t:TGs} {n:Nat} (x:X.calm=true) (h:PGs X es t)
  (i:(assignEach es X.env).length=n:=by rfl) (d:(assignEach es X.env).findIdx? (·.1)=none:=by rfl):PG X (.Tuple es k pos) (xb X.K n t):=by
 intro pins s σ H v u Q I r c;obtain ⟨a,xs,w,j,p,c⟩:=c;subst w;cases r;obtain ⟨q,f,l,hz⟩:=I.tuple j;refine assign_Tuple_tuple (I.ok.hd x) l (by simp [i,<- p,f.length]) d λh' g=>?_;have m:=I.kept (t':=s.toks) λb o e=>g b o (Dw (Dv e)) e;exact h pins _ σ H xs _ Q m (by simpa using f) c
def DQ (c d:TE) (t:yN):TG:=λv σ H Q=>c σ H λo b=>d σ b λi e=>t o i v e λa=>Q σ a
theorem xA {c d:TE} {t:yN} (w:PE X o c) (A:PE X i d) (hs:wQ X t)
  (q:∀ v,assign (.Subscript o i pos) X.env v=(do
   let a <- holding [v] (eval o X.env)
   let b <- holding [v,a] (eval i X.env)
   standAt pos
   holding [v,a,b] (setItem a b v)
   release [v,a,b] []):=by intro _;rfl):PG X (.Subscript o i pos) (DQ c d t):=by
 intro pins s σ H v u Q I r h;rw [q];refine Do (Ep (thn (w pins s σ H _ I h) λa f ⟨x,l,g,p,n⟩=>?_));refine Do (Ep (thn (A pins f σ l _ g n) λb C ⟨y,D,z,k,e⟩=>?_));refine Do (EZ (Do (Ep (thn (hs pins C σ D x y v a b u _ z p k r e) λ_ E ⟨B,j,m⟩=>?_))));exact wpAny_release ⟨σ,B,j,m⟩
def pK (te:TE) (g:TG):TS:=λD σ H=>te σ H λx a=>g x σ a D.nx
theorem cK {tg e:Expr} {te:TE} {g:TG} (a:PE X e te) (f:PG X tg g) (hs:swapsWithSole [tg] e pos.line X.env=pure false:=by rfl) (l:swappedStores [tg] e X.env=pure none:=by rfl)
  (b:(assignEach [tg] X.env).map (·.2)=[assign tg X.env]:=by rfl):PS X (.Assign [tg] e pos) (pK te g):=by
 intro pins s σ H D I h;refine wpAny_Assign_stores (thn (a pins s σ H _ I h) λv i ⟨x,d,c,k,j⟩=>?_) hs l;rw [b];exact thn (f pins i σ d x v _ c k j) λ_ m q=>q
theorem ni (k:X.N.Nodup) (f:X.N[i]?=some x) (a:Loc X.env.scope x) (d:PE X e te) (hs:swapsWith e (some (.Name x pos')) pos.line X.env=pure false:=by rfl) (b:X.fn x=true\/X.env.scope.names.lookup x=some .local:=by first | exact .inl rfl | exact .inr rfl | assumption) :
  PS X (.Assign [.Name x pos'] e pos) (pK te (aw i)):=by
 intro pins s σ H D I h;refine wpAny_Assign_Name (thn (d pins s σ H _ I h) λv n ⟨y,j,g,m,l⟩=>?_) hs;exact O8 g k f a m (λo c=>⟨_,j,c,l⟩) b
end
structure It where
 go:Nat->Hp->Prop
 yld:Nat->Hp->V->Hp->Prop
 stop:Nat->Hp->Prop
def E1 (X:Cx) (pins:List (Addr×Obj)) (H:Hp) (b:Addr):Prop:=
 H b=none/\b≠X.env.locals/\b∉X.fs/\(b∈X.ex\/X.s₀.heap.objs.size<=b)/\(∀ x c,X.env.cells.lookup x=some c->c≠b)/\∀ p∈X.pn++pins,p.1≠b
theorem Inv.fpOk {σ:St} {H H':Hp} {s:Shared} {b:Addr} (I:Inv X pins σ H s) (a:s.heap.objs.size<=b) (f:H' b=none):E1 X pins H' b:=by
 refine ⟨f,FW (Eg I.lt a),I.nofs a,.inr (EQ I.sz a),λx c e z=>?_,λp d z=>?_⟩
 ·obtain ⟨v,q⟩:=I.cell x c e;exact absurd (Eg q.lt (by rw [z];exact a)) (FN _)
 ·exact absurd (Eg (Dv (I.pin p d).1) (by rw [z];exact a)) (FN _)
structure Turn (P:Program) (w:World) (K:PySem.W.Frag) (tg:Expr) (J:It) (fp:List Addr) (it:Addr) (tn:Nat->Heap->Prop):Prop where
 mem:it∈fp
 obj:∀ i h,tn i h->∀ b∈fp,∃ o,h.get? b=some o/\∀ v,o.data≠.cell v
 keep:∀ i h h',tn i h->(∀ b∈fp,∀ o,h.get? b=some o->h'.get? b=some o)->tn i h'
 item:∀ (X:Cx),X.prog=P->X.w=w->X.K=K->X.calm=true->∀ (i:Nat) (pins:List (Addr×Obj)) (s:Shared) (σ:St) (H:Hp) (E:Value->Shared->Prop),Inv X pins σ H s->(∀ b∈fp,E1 X pins H b)->tn i s.heap->J.go i H ->
  wpAny (model P w) X.A (pyNext (.ref it)) (λr s1=>∃ u,r=some u /\
   wpAny (model P w) X.A (letOwnedTupleGo tg (.ref it) u) (λ_ s2=>∃ x H',Inv X pins σ H' s2/\RelV x u/\J.yld i H x H'/\tn (i+1) s2.heap/\∀ b∈fp,H' b=none) E s1) E s
 done:∀ (X:Cx),X.prog=P->X.w=w->X.K=K->X.calm=true->∀ (i:Nat) (pins:List (Addr×Obj)) (s:Shared) (σ:St) (H:Hp) (E:Value->Shared->Prop),Inv X pins σ H s->(∀ b∈fp,E1 X pins H b)->tn i s.heap->J.stop i H ->
  wpAny (model P w) X.A (pyNext (.ref it)) (λr s1=>r=none/\Inv X pins σ H s1) E s
 self:∀ (A:Around) (i:Nat) (s:Shared) (Q:Value->Shared->Prop) (E:Value->Shared->Prop),tn i s.heap->Q (.ref it) s->wpAny (model P w) A (pyIter (.ref it)) Q E s
abbrev TI:=St->Hp->(It->Hp->Prop)->Prop
def PIE (X:Cx) (pins:List (Addr×Obj)) (σ:St) (tg:Expr) (R:It->Hp->Prop) (a:Value) (d:Shared):Prop:=
 ∃ (it:Addr) (c:List Addr) (tn:Nat->Heap->Prop) (J:It) (H':Hp),a=.ref it/\Inv X pins σ H' d/\Turn X.prog X.w X.K tg J c it tn/\tn 0 d.heap/\(∀ b∈c,E1 X pins H' b)/\R J H'
def PI (X:Cx) (tg a:Expr) (b:TI):Prop:=
 ∀ (pins:List (Addr×Obj)) (s:Shared) (σ:St) (H:Hp) (R:It->Hp->Prop),Inv X pins σ H s->b σ H R ->
  wpAny (model X.prog X.w) X.A (eval a X.env) (λv c=>wpAny (model X.prog X.w) X.A (pyIter v) (PIE X pins σ tg R) X.xe c) X.xe s
theorem oU {s:Shared} {tg:Expr} {it:Addr} {u:Value} {o:Obj} {n:String} {vs:Array Value} {Q:Unit->Shared->Prop} (c:s.heap.get? it=some o) (b:o.cls=.type n) (hd:o.data=.fields vs)
  (d:["enumerate","zip","dict_itemiterator","dict_reverseitemiterator","odict_iterator","itertools.zip_longest","itertools.pairwise"].contains n=false) (a:Q () s):wpAny M A (letOwnedTupleGo tg (.ref it) u) Q E s:=by
 cases tg <;> first
  | exact Dp a
  | (cases u <;> first
    | exact Dp a
    | (refine Do (IU c ?_);rw [b,hd];show wpAny M A (if (["enumerate","zip","dict_itemiterator","dict_reverseitemiterator","odict_iterator","itertools.zip_longest","itertools.pairwise"].contains n&&vs[0]?==some (rawInt _))=true then _ else _) Q E s;rw [if_neg (by intro h;rw [d,IL] at h;cases h)];exact Dp a))
def Itl (K:PySem.W.Frag) (a:Addr):It:=
 ⟨λi H=>∃ xs x,SqL K H a xs/\xs[i]?=some x,λi H x H'=>H'=H/\∀ xs,SqL K H a xs->xs[i]?=some x,λi H=>∃ xs,SqL K H a xs/\xs.length<=i⟩
def Itt (K:PySem.W.Frag) (a:Addr):It:=
 ⟨λi H=>∃ xs x,SqT K H a xs/\xs[i]?=some x,λi H x H'=>H'=H/\∀ xs,SqT K H a xs->xs[i]?=some x,λi H=>∃ xs,SqT K H a xs/\xs.length<=i⟩
def Itr (lo:Int) (n:Nat):It:=⟨λi _=>i<n,λi H x H'=>H'=H/\x=.int (lo+i),λi _=>n<=i⟩
theorem jq {K:PySem.W.Frag} {tg:Expr} (a it:Addr):Turn P w K tg (Itl K a) [it] it (λi h=>h.IsListIter it a i) where
 mem:=by simp
 obj:=λi h st b f=>by
  have e:b=it:=by simpa using f
  subst e;obtain ⟨o,e,c,d⟩:=st;exact ⟨o,e,λv z=>by rw [d] at z;cases z⟩
 keep:=λi h h' st k=>st.at λo e=>k it (by simp) o e
 item:=by
  intro X G D A J i pins s σ H E I j st F;subst G D A;obtain ⟨xs,x,l,B⟩:=F;obtain ⟨n,C,p,hz⟩:=I.list l;obtain ⟨u,S,N⟩:=C.get B;obtain ⟨y,q,O,m,t,r⟩:=j it (by simp);refine wpAny_pyNext_list_item st p.isList (by simpa using S) λh' g R=>?_;have M:=I.turned (t':=s.toks) (λb o f e=>(R.2 b f).trans e) y q m t r;obtain ⟨o,e,c,d⟩:=id g;exact ⟨u,rfl,oU e c d (by decide) ⟨x,H,M,N,⟨rfl,λys Q=>by rw [I.list_inj Q l];exact B⟩,g,λb f=>(j b f).1⟩⟩
 done:=by
  intro X G D A J i pins s σ H E I j st F;subst G D A;obtain ⟨xs,l,B⟩:=F;obtain ⟨n,C,p,hz⟩:=I.list l;obtain ⟨y,q,O,m,t,r⟩:=j it (by simp);have T:=C.length;exact wpAny_pyNext_list_end (I.ok.hd J) st p.isList (by simp;omega) λh' L=>⟨rfl,I.turned (λb o f e=>L b o f e) y q m t r⟩
 self:=λ_ _ _ _ _ st h=>wpAny_pyIter_listiter st h
theorem fc {K:PySem.W.Frag} {tg:Expr} (a it:Addr):Turn P w K tg (Itt K a) [it] it (λi h=>h.IsTupleIter it a i) where
 mem:=by simp
 obj:=λi h st b f=>by
  have e:b=it:=by simpa using f
  subst e;obtain ⟨o,e,c,d⟩:=st;exact ⟨o,e,λv z=>by rw [d] at z;cases z⟩
 keep:=λi h h' st k=>st.at λo e=>k it (by simp) o e
 item:=by
  intro X G D A J i pins s σ H E I j st F;subst G D A;obtain ⟨xs,x,l,B⟩:=F;obtain ⟨n,C,p,hz⟩:=I.tuple l;obtain ⟨u,S,N⟩:=C.get B;obtain ⟨y,q,O,m,t,r⟩:=j it (by simp);refine wpAny_pyNext_tuple_item st (p) (by simpa using S) λh' g R=>?_;have M:=I.turned (t':=s.toks) (λb o f e=>(R.2 b f).trans e) y q m t r;obtain ⟨o,e,c,d⟩:=id g;exact ⟨u,rfl,oU e c d (by decide) ⟨x,H,M,N,⟨rfl,λys Q=>by rw [I.tuple_inj Q l];exact B⟩,g,λb f=>(j b f).1⟩⟩
 done:=by
  intro X G D A J i pins s σ H E I j st F;subst G D A;obtain ⟨xs,l,B⟩:=F;obtain ⟨n,C,p,hz⟩:=I.tuple l;obtain ⟨y,q,O,m,t,r⟩:=j it (by simp);have T:=C.length;exact wpAny_pyNext_tuple_end (I.ok.hd J) st (p) (by simp;omega) λh' L=>⟨rfl,I.turned (λb o f e=>L b o f e) y q m t r⟩
 self:=λ_ _ _ _ _ st h=>wpAny_pyIter_tupleiter st h
theorem fg {K:PySem.W.Frag} {tg:Expr} (it:Addr) (lo:Int) (n:Nat):Turn P w K tg (Itr lo n) [it] it (λi h=>IsRangeIter h it (lo+(i:Nat) * 1) ((n:Int)-(i:Nat)) 1) where
 mem:=by simp
 obj:=λi h st b a=>by
  have e:b=it:=by simpa using a
  subst e;exact ⟨_,st,λv z=>by
   have D:=z;cases D⟩
 keep:=λi h h' st k=>k it (by simp) _ st
 item:=by
  intro X x r q g i pins s σ H E I d st u;subst x r q;obtain ⟨p,j,C,f,m,l⟩:=d it (by simp);have W:=Walks.range (prog:=X.prog) (w:=X.w) (I.ok.hd g) it lo 1 n;refine W.item i s _ _ u st λv h' G A c F=>?_;obtain ⟨t,rfl⟩:=A;have B:Inv X pins σ H { s with heap:=h',toks:=G }:=I.turned (λb o a e=>F b o (by simpa using a) e) p j f m l;refine ⟨_,rfl,oU c rfl rfl (by decide) ⟨.int (lo+i),H,B,⟨t,?_⟩,⟨rfl,rfl⟩,c,λb a=>(d b a).1⟩⟩;rw [Int.mul_one]
 done:=by
  intro X x r q g i pins s σ H E I d st u;subst x r q;obtain ⟨p,j,C,f,m,l⟩:=d it (by simp);exact wpAny_pyNext_range_end (I.ok.hd g) st (by have:n<=i:=u;omega) λh' y=>⟨rfl,I.turned (λb o a e=>y b o a e) p j f m l⟩
 self:=λ_ _ _ _ _ st h=>wpAny_pyIter_rangeiter st h
section
variable {X:Cx} {tg:Expr}
theorem eQ {σ:St} {H:Hp} {s:Shared} {R:It->Hp->Prop} {E:Value->Shared->Prop} {lo a:Int} {t u v:Tok} {d:Nat} (I:Inv X pins σ H s) (f:-(2 ^ 62)<=lo) (j:lo<2 ^ 62) (l:-(2 ^ 62)<=a) (h:a<2 ^ 62)
  (q:R (Itr lo (a-lo).toNat) H):wpAny (model X.prog X.w) X.A (pyIter (.ref s.heap.objs.size)) (PIE X pins σ tg R) E { s with heap:=s.heap.push { cls:=.type "range",data:=.fields #[.int lo t,.int a u,.int 1 v] },toks:=d }:=by
 refine wpAny_pyIter_range (IsRange.new ..) (small_one f j l h) ?_;have c:Inv X pins σ H { s with heap:=s.heap.push { cls:=.type "range",data:=.fields #[.int lo t,.int a u,.int 1 v] },toks:=d }:=I.kept λb o e=>Dq _ e;refine ⟨(s.heap.push { cls:=.type "range",data:=.fields #[.int lo t,.int a u,.int 1 v] }).objs.size,[(s.heap.push { cls:=.type "range",data:=.fields #[.int lo t,.int a u,.int 1 v] }).objs.size],_,_,H,rfl,
  c.kept λb o e=>Dq _ e,fg _ lo (a-lo).toNat,?_,λb k=>?_,q⟩
 ·have i:lo+((0:Nat):Int) * 1=lo:=by simp
  have g:(((a-lo).toNat:Nat):Int)-((0:Nat):Int)=Builtin.Range.rangeSize lo a 1:=by rw [rangeSize_one];split <;> omega
  rw [i,g];exact Du _ rfl
 ·have e:b=(s.heap.push { cls:=.type "range",data:=.fields #[.int lo t,.int a u,.int 1 v] }).objs.size:=by simpa using k
  subst e;exact c.fpOk (Dz _) (c.hok.fresh (Dz _))
def Ba (a:TA):TI:=λσ H R=>a σ H λvs b=>∃ j:Int,vs=[.int j]/\-(2 ^ 62)<=j/\j<2 ^ 62/\R (Itr 0 j.toNat) b
def zb (a:TA):TI:=λσ H R=>a σ H λvs b=>∃ i j:Int,vs=[.int i,.int j]/\(-(2 ^ 62)<=i/\i<2 ^ 62/\-(2 ^ 62)<=j/\j<2 ^ 62)/\R (Itr i (j-i).toNat) b
theorem kn (f:Gl X "range") (k:X.mg "range" = none) (c:PA X [a] ta) (hs:starEach [a] X.env=[(false,eval a X.env)]:=by rfl):PI X tg (.Call (.Name "range" p) [a] [] pos) (Ba ta):=by
 intro pins s σ H R I h;refine Call_ (w8 I f k boot_range (EN (thn (c pos pins s σ H _ I h) λus m ⟨vs,n,d,l,b⟩=>?_) hs rfl));obtain ⟨j,e,b,g,q⟩:=b;subst e;cases l with
 | cons r i=>
  cases i;obtain ⟨t,rfl⟩:=r;exact call_range_1 (eQ d (by omega) (by omega) b g (by simpa using q))
theorem lD {p pos:Pos} (u:Gl X "range") (v:X.mg "range" = none) (g:PA X [a,b] ta) (hs:starEach [a,b] X.env=[(false,eval a X.env),(false,eval b X.env)]:=by rfl) (c:starEach [b] X.env=[(false,eval b X.env)]:=by rfl) :
  PI X tg (.Call (.Name "range" p) [a,b] [] pos) (zb ta):=by
 intro pins s σ H R I h;refine Call_ (w8 I u v boot_range (EN (thn (g pos pins s σ H _ I h) λus x ⟨vs,y,l,w,f⟩=>?_) (by rw [hs,c]) (by rw [c];rfl)));obtain ⟨i,j,e,⟨f,o,m,n⟩,q⟩:=f;subst e;cases w with
 | cons r d=>
  cases d with
  | cons k d=>
   cases d;obtain ⟨t,rfl⟩:=r;obtain ⟨t',rfl⟩:=k;exact call_range_2 (eQ l f o m n q)
def CD (f:TI) (g:TG) (c:TS):TS:=λD σ H=>f σ H λJ d=>∃ W:Nat->Nat->St->Hp->Prop,(∃ m,W 0 m σ d)/\∀ i m σ H,W i m σ H ->
 (J.stop i H/\D.nx σ H)\/(J.go i H/\∃ N:St->Hp->Prop,(∀ a H',N a H'->∃ m',m'<m/\W (i+1) m' a H')/\∀ x H',J.yld i H x H'->g x σ H' λb e=>c { D with nx:=N,ct:=N,bk:=D.nx } b e)
def f9 (a:List Addr) (h:Heap):List (Addr×Obj):=a.filterMap λb=>(h.get? b).map λo=>(b,o)
theorem e8 {b:Addr} {o:Obj} (a:b∈fp) (e:h.get? b=some o):(b,o)∈f9 fp h:=List.mem_filterMap.mpr ⟨b,a,by rw [e];rfl⟩
theorem ke (a:p∈f9 fp h):p.1∈fp/\h.get? p.1=some p.2:=by
 obtain ⟨b,c,e⟩:=List.mem_filterMap.mp a;cases q:h.get? b with
 | none=>rw [q] at e;cases e
 | some o=>
  rw [q] at e;have d:=EA e;subst d;exact ⟨c,q⟩
theorem Inv.pinned {σ:St} {H:Hp} {s:Shared} {a:List Addr} (I:Inv X pins σ H s) (i:∀ b∈a,E1 X pins H b) (k:∀ b∈a,∃ o,s.heap.get? b=some o/\∀ v,o.data≠.cell v):Inv X (pins++f9 a s.heap) σ H s:=
 I.pins_of λp j=>(FG.mp j).elim (λz=>I.pin p (Dx _ z)) λz=>by
  obtain ⟨c,e⟩:=ke z;obtain ⟨h,l,g,_⟩:=i p.1 c;obtain ⟨o,f,d⟩:=k p.1 c;rw [e] at f;cases f;exact ⟨e,h,l,g,d⟩
theorem Inv.unpinned {σ:St} {H:Hp} {s:Shared} (I:Inv X (pins++pl) σ H s):Inv X pins σ H s:=I.pins_of λp a=>I.pin p (Dx _ (List.mem_append_left _ a))
theorem yL {wi:TI} {g:TG} {tb:TS} {pos:Pos} (hp:PassesOwn (model X.prog X.w) X.A X.env X.xe) (hc:X.calm=true) (hi:PI X tg iter wi) (hg:PG X tg g) (hb:PSs X body tb)
  (hs:∀ x,foldedSetIterable iter X.env x=pure x:=by intro _;rfl):PS X (.For tg iter body [] pos) (CD wi g tb):=by
 intro pins s σ H D I h;refine wpAny_For (thn (hi pins s σ H _ I h) λv s1 h1=>thn h1 λitv s2 h2=>?_) hs;obtain ⟨it,fp,tn,J,H2,e,I2,T,st2,f2,W,⟨m0,w0⟩,turn⟩:=h2;subst e;have stat:∀ {H':Hp},(∀ b∈fp,H' b=none)->∀ b∈fp,E1 X pins H' b:=λhn b hb=>⟨hn b hb,(f2 b hb).2⟩;refine codeAny_forLoop_any (λn s'=>∃ i σ' H',Inv X pins σ' H' s'/\tn i s'.heap/\(∀ b∈fp,H' b=none)/\W i n σ' H') ?_ m0 ⟨0,σ,H2,I2,st2,λb hb=>(f2 b hb).1,w0⟩;rintro n s3 ⟨i,σ3,H3,I3,st3,fr3,w3⟩;rcases turn i n σ3 H3 w3 with ⟨stop,qn⟩ | ⟨go,N,hN,step⟩
 ·refine GR hp (thn (T.done X rfl rfl rfl hc i pins s3 σ3 H3 X.xe I3 (stat fr3) st3 stop) λr s4 ⟨hr,I4⟩=>?_);subst hr;exact GQ ⟨σ3,H3,I4,qn⟩
 ·refine GR hp (thn (T.item X rfl rfl rfl hc i pins s3 σ3 H3 X.xe I3 (stat fr3) st3 go) λr s4 ⟨u,hr,h4⟩=>?_);subst hr;refine GR hp (thn h4 λ_ s5 ⟨x,H5,I5,r5,y5,st5,fr5⟩=>?_);have I5':=I5.pinned (stat fr5) (T.obj _ _ st5);refine GR hp (thn (hg _ s5 σ3 H5 x u _ I5' r5 (step x H5 y5)) λ_ s6 ⟨σ6,H6,I6,q6⟩=>?_);refine GR hp (thn (hb _ s6 σ6 H6 _ I6 q6) λf s7 q7=>?_);have again:∀ {σ7:St} {H7:Hp},Inv X (pins++f9 fp s5.heap) σ7 H7 s7->N σ7 H7->∃ m,m<n/\∃ i σ' H',Inv X pins σ' H' s7/\tn i s7.heap/\(∀ b∈fp,H' b=none)/\W i m σ' H':=λ{σ7 H7} I7 n7=>by
   obtain ⟨m',hm,w7⟩:=hN σ7 H7 n7;refine ⟨m',hm,i+1,σ7,H7,I7.unpinned,T.keep _ _ _ st5 λb hb o e=>(I7.pin (b,o) (Dx _ (Dx _ (e8 hb e)))).1,λb hb=>?_,w7⟩;obtain ⟨o,e,d⟩:=T.obj _ _ st5 b hb;exact (I7.pin (b,o) (Dx _ (Dx _ (e8 hb e)))).2.1
  cases f with
  | next=>obtain ⟨σ7,H7,I7,n7⟩:=q7;exact again I7 n7
  | cont=>obtain ⟨σ7,H7,I7,n7⟩:=q7;exact again I7 n7
  | brk=>obtain ⟨σ7,H7,I7,q7⟩:=q7;exact ⟨σ7,H7,I7.unpinned,q7⟩
  | ret v=>obtain ⟨x7,σ7,H7,I7,r7,q7⟩:=q7;exact ⟨x7,σ7,H7,I7.unpinned,r7,q7⟩
end
abbrev R2:=V->V->Hp->VK->Prop
def OpR (X:Cx) (f:Value->Value->Sem Value) (r:R2):Prop:=
 ∀ (pins:List (Addr×Obj)) (s:Shared) (σ:St) (H:Hp) (x y:V) (v u:Value) (Q:VK),Inv X pins σ H s->RelV x v->RelV y u->r x y H Q ->
  wpAny (model X.prog X.w) X.A (f v u) (EP X pins σ Q) X.xe s
def UnR (X:Cx) (f:Value->Sem Value) (r:V->Hp->VK->Prop):Prop:=
 ∀ (pins:List (Addr×Obj)) (s:Shared) (σ:St) (H:Hp) (x:V) (v:Value) (Q:VK),Inv X pins σ H s->RelV x v->r x H Q ->
  wpAny (model X.prog X.w) X.A (f v) (EP X pins σ Q) X.xe s
def k8 (X:Cx) (f:Value) (r:List V->Hp->VK->Prop):Prop:=
 ∀ (pins:List (Addr×Obj)) (s:Shared) (σ:St) (H:Hp) (xs:List V) (us:List Value) (Q:VK),Inv X pins σ H s->Vals xs us->r xs H Q ->
  wpAny (model X.prog X.w) X.A (call f us) (EP X pins σ Q) X.xe s
def CN (X:Cx) (r:V->Hp->(Bool->Hp->Prop)->Prop):Prop:=
 ∀ (pins:List (Addr×Obj)) (s:Shared) (σ:St) (H:Hp) (x:V) (v:Value) (Q:Bool->Hp->Prop),Inv X pins σ H s->RelV x v->r x H Q ->
  wpAny (model X.prog X.w) X.A (truthy v) (TP X pins σ Q) X.xe s
def tOp (r:R2) (a b:TE):TE:=λσ H Q=>a σ H λx d=>b σ d λy c=>r x y c Q
def tUn (r:V->Hp->VK->Prop) (a:TE):TE:=λσ H Q=>a σ H λx b=>r x b Q
def rI (C:Int->Int->Prop) (g:Int->Int->V):R2:=λx y H Q=>∃ i j,x=.int i/\y=.int j/\C i j/\Q (g i j) H
def rI0 (g:Int->Int->V):R2:=λx y H Q=>∃ i j,x=.int i/\y=.int j/\Q (g i j) H
def rU (g:Int->V):V->Hp->VK->Prop:=λx H Q=>∃ i,x=.int i/\Q (g i) H
section
variable {X:Cx} {a b c:Expr} {ta tb tc:TE} {pos:Pos}
theorem xi (ha:PE X a ta) (hb:PE X b tb) {pins:List (Addr×Obj)} {s:Shared} {σ:St} {H:Hp} {R:V->V->Hp->Prop} (I:Inv X pins σ H s)
  (h:ta σ H λx H1=>tb σ H1 λy H2=>R x y H2) {Q:Value->Shared->Prop} {f:Value->Value->Sem Value}
  (hf:∀ v u s2 x y H2,Inv X pins σ H2 s2->RelV x v->RelV y u->R x y H2->wpAny (model X.prog X.w) X.A (f v u) Q X.xe s2) :
  wpAny (model X.prog X.w) X.A (eval a X.env) (λv s₁=>wpAny (model X.prog X.w) X.A (eval b X.env) (λu s₂=>wpAny (model X.prog X.w) X.A (f v u) Q X.xe s₂) X.xe s₁) X.xe s:=by
 refine thn (ha pins s σ H _ I h) λv s1 ⟨x,H1,I1,r1,q1⟩=>?_;refine thn (hb pins s1 σ H1 _ I1 q1) λu s2 ⟨y,H2,I2,r2,q2⟩=>?_;exact hf v u s2 x y H2 I2 r1 r2 q2
theorem zG (d:OpR X (binaryOp op) r) (c:PE X a ta) (g:PE X b tb):PE X (.BinOp a op b pos) (tOp r ta tb):=by
 intro pins s σ H Q I h;exact wpAny_BinOp (xi c g I h λv u j x y k e i f q=>d pins j σ k x y v u Q e i f q)
theorem Ah (c:UnR X (unaryOp op) r) (b:PE X a ta):PE X (.UnaryOp op a pos) (tUn r ta):=by
 intro pins s σ H Q I h;exact UnaryOp_ (thn (b pins s σ H _ I h) λv f ⟨x,e,d,i,g⟩=>c pins f σ e x v Q d i g)
theorem opI {C:Int->Int->Prop} {g:Int->Int->Int}
  (a:∀ (i j:Int) (t u:Tok) (s:Shared) (Q:Value->Shared->Prop) (E:Value->Shared->Prop),C i j->Q (.int (g i j) s.toks) { s with toks:=s.toks+1 }->wpAny (model X.prog X.w) X.A (f (.int i t) (.int j u)) Q E s) :
  OpR X f (rI C λi j=>.int (g i j)):=by
 intro pins s σ H x y v u Q I d c h;obtain ⟨i,j,rfl,rfl,b,q⟩:=h;obtain ⟨t,rfl⟩:=d;obtain ⟨t',rfl⟩:=c;exact a i j t t' s _ _ b ⟨.int (g i j),H,I.tok _,⟨_,rfl⟩,q⟩
theorem BA {g:Int->Int->Int}
  (a:∀ (i j:Int) (t u:Tok) (s:Shared) (Q:Value->Shared->Prop) (E:Value->Shared->Prop),Q (.int (g i j) s.toks) { s with toks:=s.toks+1 }->wpAny (model X.prog X.w) X.A (f (.int i t) (.int j u)) Q E s) :
  OpR X f (rI0 λi j=>.int (g i j)):=by
 intro pins s σ H x y v u Q I c b h;obtain ⟨i,j,rfl,rfl,q⟩:=h;obtain ⟨t,rfl⟩:=c;obtain ⟨t',rfl⟩:=b;exact a i j t t' s _ _ ⟨.int (g i j),H,I.tok _,⟨_,rfl⟩,q⟩
theorem uB {g:Int->Int->Bool}
  (a:∀ (i j:Int) (t u:Tok) (s:Shared) (Q:Value->Shared->Prop) (E:Value->Shared->Prop),Q (.bool (g i j)) s->wpAny (model X.prog X.w) X.A (f (.int i t) (.int j u)) Q E s) :
  OpR X f (rI0 λi j=>.bl (g i j)):=by
 intro pins s σ H x y v u Q I c b h;obtain ⟨i,j,rfl,rfl,q⟩:=h;obtain ⟨t,rfl⟩:=c;obtain ⟨t',rfl⟩:=b;exact a i j t t' s _ _ ⟨.bl (g i j),H,I,rfl,q⟩
def pS (i j:Int):Prop:=0<j/\j<1073741824
def rX (i j:Int):Prop:=0<=j/\j<=1000000/\i.natAbs<2 ^ 64
def CMul (i j:Int):Prop:=(-(2 ^ 64)<i/\i<2 ^ 64)\/(-(2 ^ 64)<j/\j<2 ^ 64)
theorem CMul.ok (h:CMul i j):IntMulOk i j:=by
 rcases h with ⟨b,a⟩ | ⟨b,a⟩
 ·exact .of_left (intBits_le_64 b a)
 ·exact .of_right (intBits_le_64 b a)
theorem xO:OpR X (binaryOp .Add) (rI0 λi j=>.int (i+j)):=BA λ_ _ _ _ _ _ _ q=>add_int q
theorem vz:OpR X (binaryOp .Sub) (rI0 λi j=>.int (i-j)):=BA λ_ _ _ _ _ _ _ q=>sub_int q
theorem xQ:OpR X (binaryOp .Mult) (rI CMul λi j=>.int (i * j)):=opI λ_ _ _ _ _ _ _ a q=>mul_int q a.ok
theorem td:OpR X (binaryOp .FloorDiv) (rI pS λi j=>.int (i / j)):=opI λi j _ _ _ _ _ a q=>by
 have c:=a.1;have b:=a.2;exact floordiv_int (by omega) (by rw [Int.fdiv_eq_ediv_of_nonneg i (by omega)];exact q) (.inl (PyProof.noPylong_small (by omega)))
theorem xa:OpR X (binaryOp .Mod) (rI (λ_ j=>0<j) λi j=>.int (i % j)):=opI λi j _ _ _ _ _ a q=>by
 have b:=a;exact mod_int' (by omega) (by rw [Int.fmod_eq_emod_of_nonneg i (by omega)];exact q)
theorem wB:OpR X (binaryOp .Pow) (rI rX λi j=>.int (i ^ j.toNat)):=opI λ_ _ _ _ _ _ _ a q=>pow_int_small a.1 a.2.1 a.2.2 q
theorem unI {g:Int->Int}
  (a:∀ (i:Int) (t:Tok) (s:Shared) (Q:Value->Shared->Prop) (E:Value->Shared->Prop),Q (.int (g i) s.toks) { s with toks:=s.toks+1 }->wpAny (model X.prog X.w) X.A (f (.int i t)) Q E s) :
  UnR X f (rU λi=>.int (g i)):=by
 intro pins s σ H x v Q I b h;obtain ⟨i,rfl,q⟩:=h;obtain ⟨t,rfl⟩:=b;exact a i t s _ _ ⟨.int (g i),H,I.tok _,⟨_,rfl⟩,q⟩
theorem yX:UnR X (unaryOp .USub) (rU λi=>.int (-i)):=unI λ_ _ _ _ _ q=>neg_int q
end
def Bv:V->V->Bool
 | .non,.non=>true | .non,.int _=>true | .int _,.non=>true | .non,.bl _=>true | .bl _,.non=>true | .non,.str _=>true | .str _,.non=>true
 | .int _,.int _=>true | .bl _,.bl _=>true | .str _,.str _=>true | .byt _,.byt _=>true
 | .int _,.str _=>true | .str _,.int _=>true | .bl _,.str _=>true | .str _,.bl _=>true
 | _,_=>false
def rEq:R2:=λx y H Q=>Bv x y=true/\Q (.bl (decide (x=y))) H
def rNe:R2:=λx y H Q=>Bv x y=true/\Q (.bl (!decide (x=y))) H
theorem ia {i j:Int}:decide (V.int i=V.int j)=(i==j):=by grind
theorem pH {i j:Bool}:decide (V.bl i=V.bl j)=(i==j):=by grind
theorem io {i j:Str}:decide (V.str i=V.str j)=(i==j):=by grind
theorem iE:decide (V.byt i=V.byt j)=(i.toList==j.toList):=by
 rw [Hr];simp_all
section
variable {X:Cx} {a b c:Expr} {ta tb tc:TE} {pos:Pos}
theorem e9 {σ:St} {H:Hp} {s:Shared} {Q:VK} {k a:Bool} (I:Inv X pins σ H s) (q:Q (.bl k) H) (e:k=a):EP X pins σ Q (.bool a) s:=by
 subst e;exact ⟨.bl k,H,I,rfl,q⟩
theorem zt:OpR X (compareOp .Eq) rEq:=by
 intro pins s σ H x y v u Q I rx ry h;obtain ⟨hs,q⟩:=h;cases x with
 | non=>
  cases rx;cases y with
  | non=>cases ry;exact PySem.EqNone.eq_none_none (e9 I q (by simp))
  | bl j=>cases ry;exact PySem.EqNone.eq_none_bool (e9 I q (by simp))
  | int j=>obtain ⟨t',rfl⟩:=ry;exact PySem.EqNone.eq_none_int (e9 I q (by simp))
  | str j=>obtain ⟨t',rfl⟩:=ry;exact PySem.EqNone.eq_none_str (e9 I q (by simp))
  | _=>exact absurd (show false=true from hs) Ec
 | bl i=>
  cases rx;cases y with
  | non=>cases ry;exact PySem.EqNone.eq_bool_none (e9 I q (by simp))
  | bl j=>cases ry;exact eq_bool (e9 I q pH)
  | str j=>obtain ⟨t',rfl⟩:=ry;exact PySem.EqMixed.eq_bool_str (e9 I q (by simp))
  | _=>exact absurd (show false=true from hs) Ec
 | int i=>
  obtain ⟨t,rfl⟩:=rx;cases y with
  | non=>cases ry;exact PySem.EqNone.eq_int_none (e9 I q (by simp))
  | int j=>obtain ⟨t',rfl⟩:=ry;exact eq_int (e9 I q ia)
  | str j=>obtain ⟨t',rfl⟩:=ry;exact PySem.EqMixed.eq_int_str (e9 I q (by simp))
  | _=>exact absurd (show false=true from hs) Ec
 | str i=>
  obtain ⟨t,rfl⟩:=rx;cases y with
  | non=>cases ry;exact PySem.EqNone.eq_str_none (e9 I q (by simp))
  | bl j=>cases ry;exact PySem.EqMixed.eq_str_bool (e9 I q (by simp))
  | int j=>obtain ⟨t',rfl⟩:=ry;exact PySem.EqMixed.eq_str_int (e9 I q (by simp))
  | str j=>obtain ⟨t',rfl⟩:=ry;exact eq_str (e9 I q io)
  | _=>exact absurd (show false=true from hs) Ec
 | byt i=>
  obtain ⟨t,rfl⟩:=rx;cases y with
  | byt j=>obtain ⟨t',rfl⟩:=ry;exact PySem.W.eq_bytes (e9 I q iE)
  | _=>exact absurd (show false=true from hs) Ec
 | _=>cases y <;> exact absurd (show false=true from hs) Ec
theorem zw:OpR X (compareOp .NotEq) rNe:=by
 intro pins s σ H x y v u Q I rx ry h;obtain ⟨hs,q⟩:=h;cases x with
 | non=>
  cases rx;cases y with
  | non=>cases ry;exact PySem.EqNone.ne_none_none (e9 I q (by simp))
  | bl j=>cases ry;exact PySem.EqNone.ne_none_bool (e9 I q (by simp))
  | int j=>obtain ⟨t',rfl⟩:=ry;exact PySem.EqNone.ne_none_int (e9 I q (by simp))
  | str j=>obtain ⟨t',rfl⟩:=ry;exact PySem.EqNone.ne_none_str (e9 I q (by simp))
  | _=>exact absurd (hs) Ec
 | bl i=>
  cases rx;cases y with
  | non=>cases ry;exact PySem.EqNone.ne_bool_none (e9 I q (by simp))
  | bl j=>cases ry;exact ne_bool (e9 I q (congrArg not pH))
  | str j=>obtain ⟨t',rfl⟩:=ry;exact PySem.EqMixed.ne_bool_str (e9 I q (by simp))
  | _=>exact absurd (hs) Ec
 | int i=>
  obtain ⟨t,rfl⟩:=rx;cases y with
  | non=>cases ry;exact PySem.EqNone.ne_int_none (e9 I q (by simp))
  | int j=>obtain ⟨t',rfl⟩:=ry;exact ne_int (e9 I q (congrArg not ia))
  | str j=>obtain ⟨t',rfl⟩:=ry;exact PySem.EqMixed.ne_int_str (e9 I q (by simp))
  | _=>exact absurd (hs) Ec
 | str i=>
  obtain ⟨t,rfl⟩:=rx;cases y with
  | non=>cases ry;exact PySem.EqNone.ne_str_none (e9 I q (by simp))
  | bl j=>cases ry;exact PySem.EqMixed.ne_str_bool (e9 I q (by simp))
  | int j=>obtain ⟨t',rfl⟩:=ry;exact PySem.EqMixed.ne_str_int (e9 I q (by simp))
  | str j=>obtain ⟨t',rfl⟩:=ry;exact ne_str (e9 I q (congrArg not io))
  | _=>exact absurd (hs) Ec
 | byt i=>
  obtain ⟨t,rfl⟩:=rx;cases y with
  | byt j=>obtain ⟨t',rfl⟩:=ry;exact PySem.W.ne_bytes (e9 I q (congrArg not iE))
  | _=>exact absurd (hs) Ec
 | _=>cases y <;> exact absurd (hs) Ec
theorem Bo:OpR X (compareOp .Lt) (rI0 λi j=>.bl (decide (i<j))):=uB λ_ _ _ _ _ _ _ q=>lt_int q
theorem BV:OpR X (compareOp .LtE) (rI0 λi j=>.bl (decide (i<=j))):=uB λ_ _ _ _ _ _ _ q=>le_int q
theorem Az:OpR X (compareOp .Gt) (rI0 λi j=>.bl (decide (j<i))):=uB λ_ _ _ _ _ _ _ q=>gt_int q
theorem AY:OpR X (compareOp .GtE) (rI0 λi j=>.bl (decide (j<=i))):=uB λ_ _ _ _ _ _ _ q=>ge_int q
theorem uJ (d:OpR X (compareOp op) r) (c:PE X a ta) (g:PE X b tb) (k:behindInMarks op b=false):PE X (.Compare a [op] [b] pos) (tOp r ta tb):=by
 intro pins s σ H Q I h;exact wpAny_Compare1 (xi c g I h λv u j x y l e i f q=>d pins j σ l x y v u Q e i f q) k
def vU (t:TE):TT:=λσ H Q=>t σ H λx H'=>∃ k,x=.bl k/\Q k H'
theorem uI (w:OpR X (compareOp op) r) (t:PE X a ta) (j:PE X b tb) (o:behindInMarks op b=false):PT X (.Compare a [op] [b] pos) (vU (tOp r ta tb)):=by
 intro pins s σ H Q I h;refine wpAny_isTrue_Compare1 (thn (t pins s σ H _ I h) λv f ⟨x,m,g,q,p⟩=>thn (j pins f σ m _ g p) λu C ⟨y,D,A,l,d⟩=>
  thn (w pins C σ D x y v u _ A q l d) λc F ⟨z,B,i,E,k,e,n⟩=>?_) o
 subst e;cases E;exact FX ⟨B,i,n⟩
def cI (r c:R2) (f d h:TE):TE:=λσ H Q=>f σ H λx e=>d σ e λy g=>r x y g λz a=>∃ k,z=.bl k /\
 (if k=true then h σ a λw' b=>c y w' b Q else Q (.bl false) a)
theorem lK {r j:R2} (N:OpR X (compareOp op) r) (f:OpR X (compareOp op') j) (M:PE X a ta) (B:PE X b tb) (q:PE X c tc)
  (G:lastMarks [op,op'] [b,c]=false:=by with_unfolding_all rfl):PE X (.Compare a [op,op'] [b,c] pos) (cI r j ta tb tc):=by
 intro pins s σ H Q I h;refine Compare_chain (thn (M pins s σ H _ I h) λv p ⟨x,D,A,K,J⟩=>chain_link (thn (B pins p σ D _ A J) λu P ⟨y,R,O,i,n⟩=>
  thn (N pins P σ R x y v u _ O K i n) λd w ⟨z,m,g,S,k,e,l⟩=>?_)) G
 subst e;cases S;refine FX ?_;cases k with
 | false=>exact ite_ff ⟨.bl false,m,g,rfl,l⟩
 | true=>exact ite_tt (chain_last (thn (q pins w σ m _ g l) λw' t ⟨F,L,o,C,E⟩=>f pins t σ L y F u w' Q o i C E))
theorem oQ {r j:R2} (P:OpR X (compareOp op) r) (f:OpR X (compareOp op') j) (S:PE X a ta) (D:PE X b tb) (t:PE X c tc)
  (K:lastMarks [op,op'] [b,c]=false:=by with_unfolding_all rfl):PT X (.Compare a [op,op'] [b,c] pos) (vU (cI r j ta tb tc)):=by
 intro pins s σ H Q I h;refine isTrue_chain (thn (S pins s σ H _ I h) λv q ⟨x,F,C,M,L⟩=>test_link (thn (D pins q σ F _ C L) λu V ⟨y,W,R,i,o⟩=>
  thn (P pins V σ W x y v u _ R M i o) λd B ⟨z,m,g,Z,k,e,l⟩=>?_)) K
 subst e;cases Z;refine FX ?_;cases k with
 | false=>
  obtain ⟨k',e',w⟩:=l;cases e';exact ite_ff ⟨m,g,w⟩
 | true=>
  refine ite_tt (test_last (thn (t pins B σ m _ g l) λw' A ⟨J,N,p,E,G⟩=>thn (f pins A σ N y J u w' _ p i E G) λd' s5 ⟨z2,Y,T,n,k2,U,O⟩=>?_));subst U;cases n;exact FX ⟨Y,T,O⟩
def jh (K:PySem.W.Frag) (x:V) (H:Hp) (k:Bool):Prop:=
 match x with
 | .non=>k=false
 | .bl b=>k=b
 | .int i=>k=(i != 0)
 | .str y=>y.length<=sizeLine/\k=((y.length:Int) != 0)
 | .byt y=>y.size<=sizeLine/\k=((y.size:Int) != 0)
 | .ref p=>(∃ xs,SqL K H p xs/\k=!xs.isEmpty)\/(∃ xs,SqT K H p xs/\k=!xs.isEmpty)\/∃ a,H p=some (.dK a)/\k=!a.isEmpty
 | _=>False
theorem fQ (r:KV kvs vs):(!vs.isEmpty)=!kvs.isEmpty:=by
 cases r <;> rfl
theorem aW (r:Vals xs its):(!its.toArray.isEmpty)=!xs.isEmpty:=by
 cases r <;> simp
theorem T6:(sizeLine:Nat)<2 ^ 63:=by rw [Ew];decide
theorem bq:CN X (λx H Q=>∃ k,jh X.K x H k/\Q k H):=by
 intro pins s σ H x v Q I rx h;obtain ⟨k,e,q⟩:=h;have hl:=T6;have hs:=Ew;cases x with
 | non=>
  cases rx;have e':=e;subst e';exact truthy_none ⟨H,I,q⟩
 | bl b=>
  cases rx;have e':=e;subst e';exact FX ⟨H,I,q⟩
 | int i=>
  obtain ⟨t,rfl⟩:=rx;have e':=e;subst e';exact PySem.P.truthy_int ⟨H,I,q⟩
 | str y=>
  obtain ⟨t,rfl⟩:=rx;obtain ⟨hy,e'⟩:=e;subst e';exact PySem.P.truthy_str (by omega) ⟨H,I.tok _,q⟩
 | byt y=>
  obtain ⟨t,rfl⟩:=rx;obtain ⟨hy,e'⟩:=e;subst e';exact PySem.W.truthy_bytes (by omega) ⟨H,I.tok _,q⟩
 | ref p=>
  cases rx;have e':=e;rcases e' with ⟨xs,hx,e'⟩ | ⟨xs,hx,e'⟩ | ⟨kvs,hx,e'⟩
  ·subst e';obtain ⟨its,r,pl,hz⟩:=I.list hx;have hlen:=r.length;exact wpAny_truthy_list pl.isList (by simp;omega) ⟨H,I.tok _,by rw [aW r];exact q⟩
  ·subst e';obtain ⟨its,r,pl,hz⟩:=I.tuple hx;have hlen:=r.length;exact truthy_tuple pl (by simp;omega) ⟨H,I.tok _,by rw [aW r];exact q⟩
  ·subst e';obtain ⟨hz,hS,vs,r,m⟩:=I.hok p _ hx;have hlen:=Paired.length r;exact wpAny_truthy_dict hS m (by omega) ⟨H,I.tok _,by rw [fQ r];exact q⟩
 | _=>exact (e).elim
theorem mI (c:PE X a ta) (d:∀ b,isTrue a X.env b=(do let v <- b;standAt a.pos;holding [v] (truthy v))) :
  PT X a (λσ H Q=>ta σ H λx H'=>∃ k,jh X.K x H' k/\Q k H'):=by
 intro pins s σ H Q I h;exact isTrue_plain (thn (c pins s σ H _ I h) λv g ⟨x,f,e,j,i⟩=>bq pins g σ f x v Q e j i) (d _)
theorem gm:OpR X (binaryOp .Add) (λx y H Q=>∃ i j,x=.str i/\y=.str j/\i.length+j.length<=sizeLine/\Q (.str (i++j)) H):=by
 intro pins s σ H x y v u Q I b a h;obtain ⟨i,j,rfl,rfl,hz,q⟩:=h;obtain ⟨t,rfl⟩:=b;obtain ⟨t',rfl⟩:=a;exact add_str (λt' c=>⟨.str (i++j),H,I.tok _,⟨_,rfl⟩,q⟩) hz
theorem P8 (r:Vals [x] us):∃ u,us=[u]/\RelV x u:=by
 cases r with
 | cons b a=>cases a;exact ⟨_,rfl,b⟩
theorem jU (r:Vals [x,y] us):∃ u w',us=[u,w']/\RelV x u/\RelV y w':=by
 cases r with
 | cons b a=>
  cases a with
  | cons d c=>cases c;exact ⟨_,_,rfl,b,d⟩
end
theorem L8 {h:Heap} {c:Addr} {mA:Str->Option Value} (n:h.Ns1 c mA):∃ od,h.get? c=some od/\∀ name,PySem.W.lookIn name od=some (mA name):=by
 obtain ⟨o,es,k,g,hd,d,_,j⟩:=n;refine ⟨o,g,λname=>?_⟩;have e:=j name;unfold nsFind findBy at e;rw [<- Array.find?_toList] at e;unfold PySem.W.lookIn;rw [hd];dsimp only;split
 ·grind
 ·rename_i q;rw [q] at e;have a:es.toList.any (·.refKey)=false:=by
   rw [List.any_eq_false];intro y f;obtain ⟨z,t,b⟩:=d y (Array.mem_toList_iff.mp f);simp [DictEntry.refKey,b]
  have i:¬ es.toList.any (·.refKey)=true:=by rw [a];exact Ec
  rw [if_neg i];exact congrArg some e
def G3 (f:Str) (v:V):List (Str×V)->List (Str×V)
 | []=>[(f,v)]
 | (g,x) :: r=>if g=f then (g,v) :: r else (g,x) :: G3 f v r
theorem W5 (f g:Str) (v:V):∀ fs:List (Str×V),(G3 f v fs).lookup g=if g=f then some v else fs.lookup g
 | []=>by
  show List.lookup g [(f,v)]=_;by_cases h:g=f
  ·have hb:(g==f)=true:=Gy.mpr h;simp only [List.lookup,hb,if_pos h]
  ·have hb:(g==f)=false:=Hy.mpr h;simp only [List.lookup,hb,if_neg h]
 | (k,x) :: r=>by
  have ih:=W5 f g v r;rw [show G3 f v ((k,x) :: r)=(if k=f then (k,v) :: r else (k,x) :: G3 f v r) from rfl];by_cases hk:k=f
  ·rw [if_pos hk];by_cases h:g=k
   ·have hb:(g==k)=true:=Gy.mpr h;simp only [List.lookup,hb,if_pos (h.trans hk)]
   ·have hb:(g==k)=false:=Hy.mpr h;simp only [List.lookup,hb,if_neg (λe:g=f=>h (e.trans hk.symm))]
  ·rw [if_neg hk];by_cases h:g=k
   ·have hb:(g==k)=true:=Gy.mpr h;simp only [List.lookup,hb,if_neg (λe:g=f=>hk (h.symm.trans e))]
   ·have hb:(g==k)=false:=Hy.mpr h;simp only [List.lookup,hb];exact ih
theorem U0 (f:Str) (v:V):∀ fs:List (Str×V),f∈(G3 f v fs).map (·.1)/\∀ g,g∈fs.map (·.1)->g∈(G3 f v fs).map (·.1)
 | []=>⟨by simp [G3],λg h=>by simp at h⟩
 | (k,x) :: r=>by
  obtain ⟨i1,i2⟩:=U0 f v r;rw [show G3 f v ((k,x) :: r)=(if k=f then (k,v) :: r else (k,x) :: G3 f v r) from rfl];by_cases hk:k=f
  ·rw [if_pos hk];subst hk;exact ⟨by simp,λg h=>by simpa using h⟩
  ·rw [if_neg hk];refine ⟨?_,λg h=>?_⟩
   ·rw [EG];exact Ed _ i1
   ·rw [EG] at h ⊢;rcases Ea.mp h with e | e
    ·exact Ea.mpr (.inl e)
    ·exact Ed _ (i2 g e)
theorem V6 (f:Str) (v:V):∀ fs:List (Str×V),(G3 f v fs).length<=fs.length+1
 | []=>by simp [G3]
 | (k,x) :: r=>by
  have b:=V6 f v r;rw [show G3 f v ((k,x) :: r)=(if k=f then (k,v) :: r else (k,x) :: G3 f v r) from rfl];by_cases a:k=f
  ·grind
  ·grind
theorem RelO.some_of (r:RelO (some v) o):∃ u,o=some u/\RelV v u:=by
 cases o with
 | none=>exact (r).elim
 | some u=>exact ⟨u,rfl,r⟩
theorem jp (r:RelV v u):PySem.W.handedIn u=true:=by
 cases v with
 | non=>cases (r);rfl
 | bl b=>cases (r);rfl
 | int i=>obtain ⟨t,e⟩:=(r);cases e;rfl
 | str x=>obtain ⟨t,e⟩:=(r);cases e;rfl
 | byt b=>obtain ⟨t,e⟩:=(r);cases e;rfl
 | flt b=>obtain ⟨t,e⟩:=(r);cases e;rfl
 | ref a=>cases (r);rfl
 | ty n=>cases (r);rfl
def y9 (K:PySem.W.Frag) (C:Addr) (f:Str):Prop:=PySem.W.findIn K (.ref C) f=some none
section
variable {X:Cx} {pins:List (Addr×Obj)} {σ:St} {H:Hp} {s:Shared} {a C dx:Addr} {fs:List (Str×V)} {f:Str} {v:V} {A:Around} {E:Value->Shared->Prop}
theorem rh {a:Env} {e:Expr} {f:Str} {pos:Pos} {s:Shared} {Q:Value->Shared->Prop} (c:attributeBase e f a (eval e a)=eval e a)
  (h:wpAny (model prog w) A (eval e a) (λo b=>wpAny (model prog w) A (getAttr o f true) Q E b) E s):wpAny (model prog w) A (eval (.Attribute e f pos) a) Q E s:=
 Attribute_any_ h (by rw [arm_eval_Attribute,c])
end
structure Room (q:Bool) (k:Nat) (A:Around):Prop where
 hd:q=false->A.handled=none
 dp:A.depth+3 * k+5<recursionLimit
 un:A.units+16 * k+200<cLine
 gd:A.guards=some []
theorem Room.any {k:Nat} {A:Around} (r:Room false k A):Room q k A:=⟨λ_=>r.hd rfl,r.dp,r.un,r.gd⟩
theorem Room.mono {j k:Nat} {A:Around} (r:Room q k A) (h:j<=k):Room q j A:=⟨r.hd,by have:=r.dp;omega,by have:=r.un;omega,r.gd⟩
theorem Room.deeper (r:Room q (k+1) A) (a:Env):Room q k (A.deeper a):=
 ⟨r.hd,by have:=r.dp;show A.depth+1+3 * k+5<_;omega,by have:=r.un;show A.units+3+16 * k+200<_;omega,r.gd⟩
theorem Room.in1 (r:Room q (k+1) A):Room q k A.in1:=
 ⟨r.hd,by have:=r.dp;show A.depth+3 * k+5<_;omega,by have:=r.un;show A.units+1+16 * k+200<_;omega,r.gd⟩
theorem fk {A:Around} {C:Addr} {us:List Value} {a:List (Str×Value)}:(A.under (.builtin "type.__call__" ⟨.ref C :: us,a⟩)).depth=A.depth+1:=by
 first | rfl | simp [Around.under,Code.weight,Code.isCreation,Code.isGuard,Code.isCaller,Code.frames,Code.isFrame,guardIds]
theorem fS {A:Around} {C:Addr} {us:List Value} {a:List (Str×Value)}:(A.under (.builtin "type.__call__" ⟨.ref C :: us,a⟩)).units=A.units+1:=by
 first | rfl | simp [Around.under,Code.cUnits,Code.frames,Code.isFrame]
theorem Room.make (r:Room q (k+1) A) (C:Addr) (us:List Value) (a:List (Str×Value)):Room q k (A.under (.builtin "type.__call__" ⟨.ref C :: us,a⟩)):=
 ⟨r.hd,by have:=r.dp;rw [fk];omega,by have:=r.un;rw [fS];omega,by have:=r.gd;simp [Around.under,Code.guards,Code.isGuard,guardIds,pushGuards,this]⟩
theorem Room.depth (r:Room q k A):A.depth<recursionLimit:=by have:=r.dp;omega
theorem Room.units (r:Room q k A):A.units+64<cLine:=by have:=r.un;omega
def tNil:TA:=λ_ H Q=>Q [] H
def zF (d:TE) (a:TA):TA:=λσ H Q=>d σ H λx c=>a σ c λxs b=>Q (x :: xs) b
section
variable {X:Cx} {e:Expr} {es:List Expr} {te:TE} {t:TA} {pos:Pos}
theorem B6:PA X [] tNil:=λ_ _ _ _ H Q I h=>Fq ⟨[],H,I,.nil,h⟩
theorem j0 (a:PE X e te) (g:PA X es t) (hs:starEach (e :: es) X.env=(false,eval e X.env) :: starEach es X.env:=by rfl):PA X (e :: es) (zF te t):=by
 intro pos pins s σ H Q I h;rw [hs];refine Fm (thn (a pins s σ H _ I h) λu j ⟨x,f,d,m,l⟩=>?_);exact thn (g pos pins j σ f _ d l) λus n ⟨xs,k,c,b,i⟩=>⟨x :: xs,k,c,.cons m b,i⟩
def Cr (t:TA):TE:=λσ H Q=>t σ H λxs a=>xs.length<=sizeLine/\∀ p,a p=none->Q (.ref p) (upd a p (.tup xs))
def DX (t:TA):TE:=λσ H Q=>t σ H λxs a=>xs.length<=sizeLine/\∀ p,a p=none->Q (.ref p) (upd a p (.lst xs))
theorem nr {x1} (h:PA X es t):PE X (.Tuple es x1 pos) (Cr t):=by
 intro pins s σ H Q I f;refine wpAny_Tuple_spliced (thn (h pos pins s σ H _ I f) λus c ⟨xs,g,a,r,z,q⟩=>⟨by rw [<- r.length];exact z,?_⟩);have d:=a.hok.fresh (Dz _);refine ⟨.ref c.heap.objs.size,upd g c.heap.objs.size (.tup xs),a.laid (λb u e=>Dq _ e) (Dz _) ?_,rfl,q _ d⟩;exact ⟨z,us,r,⟨_,Du _ rfl,rfl,_,rfl,rfl⟩⟩
theorem oT (h:PA X es t):PE X (.List es pos) (DX t):=by
 intro pins s σ H Q I f;refine wpAny_List_spliced (thn (h pos pins s σ H _ I f) λus c ⟨xs,g,a,r,z,q⟩=>⟨by rw [<- r.length];exact z,?_⟩);have d:=a.hok.fresh (Dz _);refine ⟨.ref c.heap.objs.size,upd g c.heap.objs.size (.lst xs),a.laid (λb u e=>Dq _ e) (Dz _) ?_,rfl,q _ d⟩;exact ⟨z,us,0,r,Du _ rfl⟩
end
abbrev Sp:=List V->Hp->VK->XK->Prop
structure CXT where
 cx:List Env->Hp->Shared->XK->Value->Shared->Prop
 q:Bool
instance:CoeFun CXT λ_=>List Env->Hp->Shared->XK->Value->Shared->Prop:=⟨CXT.cx⟩
structure Env0 (P:Program) (w:World) (K:PySem.W.Frag) (mg:Str->Option Value) (base:Heap) (A:Around) (outer:List Env) (s:Shared) (H:Hp):Prop where
 frames:A.frames=some outer
 mod:Mod K mg base
 bs:∀ b o,base.get? b=some o->s.heap.get? b=some o/\H b=none
 bsz:base.objs.size<=s.heap.objs.size
 funs:s.heap.FunFrames base outer
 frf:∀ b∈frs outer,H b=none
 hok:HOk P w H s.heap
 bare:AllBare s.gens
def CE (a:List Env) (P:Program) (w:World) (H:Hp) (s:Shared) (Q:VK) (u:Value) (s':Shared):Prop:=
 ∃ v H',s'.os=s.os/\AllBare s'.gens/\Un (frs a) [] H H' s.heap s'.heap/\HOk P w H' s'.heap/\RelV v u/\Q v H'
def CR (CX:CXT) (a:List Env) (P:Program) (w:World) (H:Hp) (s:Shared) (Q:VK) (E:XK) (r:Result) (s':Shared):Prop:=
 match r with
 | .ok (.ret u)=>CE a P w H s Q u s'
 | .ok _=>False
 | .error e=>CX a H s E e s'
structure FnOk (P:Program) (w:World) (K:PySem.W.Frag) (mg:Str->Option Value) (base:Heap) (CX:CXT) (k:Nat) (f:Addr) (fd:FuncData) (ps:List Str) (sp:Sp):Prop where
 len:∀ vs H Q E,sp vs H Q E->vs.length=ps.length
 run:∀ (A:Around) (outer:List Env) (s:Shared) (H:Hp) (args:Args) (us:List Value) (vs:List V) (Q:VK) (E:XK),Room CX.q k A->Env0 P w K mg base A outer s H->BindsTo s fd args (ps.zip us)->Vals vs us->sp vs H Q E ->
  codeAny (model P w) A (.call (.ref f) args) (CR CX outer P w H s Q E) s
theorem FnOk.mono {K:PySem.W.Frag} {d:Str->Option Value} {a:Heap} {CX:CXT} {j k:Nat} {f:Addr} {fd:FuncData} {ps:List Str} {sp:Sp} (F:FnOk P w K d a CX j f fd ps sp) (h:j<=k) :
  FnOk P w K d a CX k f fd ps sp:=⟨F.len,λA b s H c us vs Q E e=>F.run A b s H c us vs Q E (e.mono h)⟩
theorem FnOk.imp {K:PySem.W.Frag} {d:Str->Option Value} {a:Heap} {CX:CXT} {k:Nat} {f:Addr} {fd:FuncData} {ps:List Str} {sp sp':Sp} (F:FnOk P w K d a CX k f fd ps sp)
  (h:∀ vs H Q E,sp' vs H Q E->sp vs H Q E):FnOk P w K d a CX k f fd ps sp':=
 ⟨λvs H Q E q=>F.len vs H Q E (h _ _ _ _ q),λA b s H c us vs Q E g e i j hs=>F.run A b s H c us vs Q E g e i j (h _ _ _ _ hs)⟩
theorem Env0.make {K:PySem.W.Frag} {c:Str->Option Value} {b:Heap} {A:Around} {a:List Env} {s:Shared} {H:Hp} (e:Env0 P w K c b A a s H) (C:Addr) (us:List Value) (d:List (Str×Value)) :
  Env0 P w K c b (A.under (.builtin "type.__call__" ⟨.ref C :: us,d⟩)) a s H:=⟨by first | exact e.frames | (simpa [Around.under,Code.envs,Code.isFrame,pushEnvs] using e.frames),e.mod,e.bs,e.bsz,e.funs,e.frf,e.hok,e.bare⟩
section
variable {X:Cx} {pins:List (Addr×Obj)} {σ:St} {H:Hp} {s s':Shared}
theorem Inv.env0 (I:Inv X pins σ H s):Env0 X.prog X.w X.K X.mg X.base X.A X.stack s H:=
 ⟨I.ok.frames,I.ok.mod,I.bs,EQ I.ok.bsz I.sz,I.stack,I.stkFree,I.hok,I.bare⟩
theorem Inv.after (I:Inv X pins σ H s) (h:CE X.stack X.prog X.w H s Q u s'):EP X pins σ Q u s':=by
 obtain ⟨v,H',f,a,i,e,r,q⟩:=h;obtain ⟨j,g,d,t,c⟩:=s';obtain rfl:c=s.os:=f;exact ⟨v,H',I.call i e a (λb z=>absurd z (by simp)),r,q⟩
end
def pV (sp:Sp) (a:List V) (E:XK) (t:TA):TE:=λσ H Q=>t σ H λvs b=>sp (vs++a) b Q E
def Binds (K:PySem.W.Frag) (fd:FuncData) (ps:List Str) (ds:List Value):Prop:=
 ∀ (s:Shared) (us:List Value),K.In s.heap->(us++ds).length=ps.length->BindsTo s fd ⟨us,[]⟩ (ps.zip (us++ds))
theorem Binds.all {K:PySem.W.Frag} {fd:FuncData} {ps:List Str} (h:∀ us:List Value,us.length=ps.length->bindArgs fd ⟨us,[]⟩=pure (ps.zip us)):Binds K fd ps []:=λs us _ a=>by
 rw [EH] at a ⊢;exact .of_eq (h us a)
def A8 (CX:CXT) (X:Cx) (E:XK):Prop:=∀ (pins:List (Addr×Obj)) (σ:St) (H:Hp) (s:Shared) (e:Value) (s':Shared),Inv X pins σ H s->CX X.stack H s E e s'->X.xe e s'
section
variable {X:Cx} {CX:CXT} {k:Nat} {f C:Addr} {fd:FuncData} {ps:List Str} {sp:Sp} {dvs:List V} {ds:List Value} {E:XK} {x m:Str} {p pos apos:Pos} {e o:Expr} {es:List Expr} {ta:TE} {t:TA}
theorem gj {σ:St} {H:Hp} {s:Shared} {Q:VK} {us:List Value} {vs:List V} (F:FnOk X.prog X.w X.K X.mg X.base CX k f fd ps sp) (hr:Room CX.q k X.A) (hb:Binds X.K fd ps ds) (hd:Vals dvs ds) (hx:A8 CX X E)
  (I:Inv X pins σ H s) (r:Vals vs us) (h:sp (vs++dvs) H Q E):wpAny (model X.prog X.w) X.A (call (.ref f) us) (EP X pins σ Q) X.xe s:=by
 have r2:=r.append hd;have hl:(us++ds).length=ps.length:=by rw [<- r2.length];exact F.len _ _ _ _ h
 refine Gc (Ff (F.run X.A X.stack s H ⟨us,[]⟩ (us++ds) (vs++dvs) Q E hr I.env0 (hb s us I.kIn hl) r2 h) λr s' hq=>?_);cases r with
 | error e=>exact hx pins σ H s e s' I hq
 | ok fl=>
  cases fl with
  | ret u=>exact I.after hq
  | next=>exact False.elim hq
  | brk=>exact False.elim hq
  | cont=>exact False.elim hq
theorem iJ (F:FnOk X.prog X.w X.K X.mg X.base CX k f fd ps sp) (l:Room CX.q k X.A) (m:Gl X x) (o:X.mg x=some (.ref f)) (d:PySem.W.keepIn X.K (.ref f)=true) (n:Binds X.K fd ps ds) (hd:Vals dvs ds) (g:A8 CX X E)
  (i:PA X (e :: es) t) (a:(x==("__debug__" : Str))=false:=by decide) (j:starEach (e :: es) X.env=(false,eval e X.env) :: starEach es X.env:=by rfl) (b:(backTo pos (starEach es X.env)).any (·.1)=false:=by rfl) :
  PE X (.Call (.Name x p) (e :: es) [] pos) (pV sp dvs E t):=by
 intro pins s σ H Q I h;refine EI (F4 I m o ?_ a);refine GT I.ok.mod.kin d (thn (i pos pins s σ H _ I h) λus v ⟨vs,u,c,r,q⟩=>⟨c.kIn,?_⟩) j b;exact gj F l n hd g c r q
theorem qE (F:FnOk X.prog X.w X.K X.mg X.base CX k f fd ps sp) (d:Room CX.q k X.A) (e:Gl X x) (i:X.mg x=some (.ref f)) (b:PySem.W.keepIn X.K (.ref f)=true) (g:Binds X.K fd ps ds) (hd:Vals dvs ds) (c:A8 CX X E)
  (a:(x==("__debug__" : Str))=false:=by decide):PE X (.Call (.Name x p) [] [] pos) (pV sp dvs E tNil):=by
 intro pins s σ H Q I h;refine EI (F4 I e i ?_ a);exact PySem.W.callWith_K0 I.kIn b (gj F d g hd c I .nil h)
end
structure FnScope (N P:List Str) (sc:Scope):Prop where
 kind:sc.kind=.function
 co:sc.isCoroutine=false
 gen:sc.isGenerator=false
 nd:N.Nodup
 pre:N.take P.length=P
 par:∀ x∈P,sc.names.lookup x=some .local\/sc.names.lookup x=some .cell
 nofree:∀ y∈sc.names,y.2≠.free
theorem bL {b:Str->Option NameKind} {x:Str}:∀ {a:List (Str×Value)} {m:Str->Option Value},(∀ v,(x,v)∉a)->bindL b a m x=m x
 | [],_,_=>rfl
 | (n,v) :: r,m,h=>by
  unfold bindL;rw [bL λw c=>h w (Ed _ c)];split
  ·have:x≠n:=by rintro rfl;exact h v Ei
   simp [this]
  ·rfl
theorem bK {b:Str->Option NameKind} {x:Str}:∀ {a:List (Str×Value)} {m:Str->Option Value},(∀ v,(x,v)∉a)->bindC b a m x=m x
 | [],_,_=>rfl
 | (n,v) :: r,m,h=>by
  unfold bindC;rw [bK λw c=>h w (Ed _ c)];split
  ·rfl
  ·have:x≠n:=by rintro rfl;exact h v Ei
   simp [this]
theorem bW {a:Str->Option NameKind} {x:Str} {v:Value}:∀ {P:List Str} {vs:List Value} {i:Nat} {m:Str->Option Value},P.Nodup->P[i]?=some x->vs[i]?=some v->a x=some .local ->
  bindL a (P.zip vs) m x=some v
 | [],_,_,_,_,h,_,_=>by simp at h
 | _ :: _,[],_,_,_,_,h,_=>by simp at h
 | p :: P,w :: vs,0,m,d,b,c,e=>by
  simp at b c;subst b;subst c;show bindL a ((p,w) :: P.zip vs) m p=_;unfold bindL;rw [bL λv f=>(Go.mp d).1 (IH f).1,if_pos e];simp
 | p :: P,w :: vs,i+1,m,d,b,c,e=>by
  unfold bindL;exact bW (Go.mp d).2 (by simpa using b) (by simpa using c) e
theorem bc {a:Str->Option NameKind} {x:Str} {v:Value}:∀ {P:List Str} {vs:List Value} {i:Nat} {m:Str->Option Value},P.Nodup->P[i]?=some x->vs[i]?=some v->a x≠some .local ->
  bindC a (P.zip vs) m x=some v
 | [],_,_,_,_,h,_,_=>by simp at h
 | _ :: _,[],_,_,_,_,h,_=>by simp at h
 | p :: P,w :: vs,0,m,d,b,c,e=>by
  simp at b c;subst b;subst c;show bindC a ((p,w) :: P.zip vs) m p=_;unfold bindC;rw [bK λv f=>(Go.mp d).1 (IH f).1,if_neg e];simp
 | p :: P,w :: vs,i+1,m,d,b,c,e=>by
  unfold bindC;exact bc (Go.mp d).2 (by simpa using b) (by simpa using c) e
def start (N:List Str) (vs:List V):St:=vs.map some++List.replicate (N.length-vs.length) none
def X0 (CX:CXT) (P:Program) (w:World) (K:PySem.W.Frag) (mg:Str->Option Value) (base:Heap) (N:List Str) (qual:Str) (scope:Scope) (f:Addr) (cd:Value) (A:Around) (outer:List Env) (s:Shared) (H:Hp) (E:XK):Cx where
 prog:=P
 w:=w
 K:=K
 mg:=mg
 base:=base
 A:=A.deeper (envOfC qual scope s.heap.objs.size f cd)
 N:=N
 s₀:=s
 H₀:=H
 env:=envOfC qual scope s.heap.objs.size f cd
 outer:=outer
 stack:=envOfC qual scope s.heap.objs.size f cd :: outer
 ex:=[]
 calm:=!CX.q
 fn:=λ_=>true
 pn:=[]
 xe:=λe s'=>wpAny (model P w) (A.deeper (envOfC qual scope s.heap.objs.size f cd)) (leaving (envOfC qual scope s.heap.objs.size f cd) e) (λ_ s''=>CX outer H s E e s'') (λe' s''=>CX outer H s E e' s'') s'
theorem fM {a:Scope} {n:Nat} {x:Str} (h:a.names.lookup x=some .cell):∃ c,(cellsFrom n a.names []).lookup x=some c:=by
 have q:=PySem.W.cellsFrom_some a.names n [] (.inl h);exact Fj.mp q
theorem bh {CX:CXT} {P:Program} {w:World} {K:PySem.W.Frag} {mg:Str->Option Value} {base:Heap} {N ps:List Str} {qual:Str} {scope:Scope} {f:Addr} {cd:Value} {A:Around} {outer:List Env} {s s1:Shared} {H:Hp} {E:XK} {us:List Value} {vs:List V}
  (S:FnScope N ps scope) (hd:CX.q=false->A.handled=none) (e0:Env0 P w K mg base A outer s H) (hl:vs.length=ps.length) (r:Vals vs us)
  (x:InCallC s s.heap.objs.size (bindL (envOfC qual scope s.heap.objs.size f cd).kindOf (ps.zip us) λ_=>none) (cellsFrom (s.heap.objs.size+1) scope.names []) (bindC (envOfC qual scope s.heap.objs.size f cd).kindOf (ps.zip us) λ_=>none) s1) :
  Inv (X0 CX P w K mg base N qual scope f cd A outer s H E) [] (start N vs) H s1:=by
 have hpl:ps.length<=N.length:=by have:=congrArg List.length S.pre;rw [Fn] at this;omega
 obtain ⟨h1,tk,rfl,hk⟩:=x.done;have noA:∀ b:Addr,b∉(X0 CX P w K mg base N qual scope f cd A outer s H E).ex:=λb z=>absurd (show b∈([]:List Addr) from z) (by simp);refine ⟨⟨e0.mod,S.kind,rfl,rfl,Dz _,λy z c h1 h2=>?_,λy hy=>?_,λy c _ h=>?_,λz=>hd (by have z:(!CX.q)=true:=z;simpa using z),Around.frames_deeper e0.frames,.inr ⟨rfl,rfl⟩,λb z=>absurd z (noA b),e0.bs,e0.bsz,λb _ _=>noA b,λb z=>absurd z (noA b),e0.funs,e0.frf⟩,
  rfl,e0.bare,Un.kept hk,⟨_,x.toInCall.ns,λi y v h1 h2 h3=>?_⟩,λy c h=>⟨_,x.cell y c h⟩,e0.hok.fresh (Dz _),λy c h=>?_,λp hp=>absurd (show p∈([]:List (Addr×Obj)) from hp) (by simp),e0.hok.kept hk,?_⟩
 ·exact name_of_addr x.apart (Gf h1) (Gf h2)
 ·have hy:scope.names.lookup y=some .cell\/scope.names.lookup y=some .free:=hy;rcases hy with hy | hy
  ·exact fM hy
  ·exact absurd rfl (S.nofree _ (Gf hy))
 ·exact FV (x.above y c (Gf h))
 ·have hi:i<vs.length:=by
   unfold start at h2;by_cases hi:i<vs.length
   ·exact hi
   ·rw [ED (by simpa using hi)] at h2;rw [GV] at h2;split at h2 <;> cases h2
  have ha:vs[i]?=some v:=by
   unfold start at h2;rw [EC (by simpa using hi),Eo] at h2;cases e:vs[i]? with
   | none=>rw [e] at h2;cases h2
   | some a=>rw [e] at h2;cases h2;rfl
  obtain ⟨u,hu,rv⟩:=r.get ha;have hp:ps[i]?=some y:=by
   rw [<- S.pre,List.getElem?_take_of_lt (by omega)];exact h1
  have ndP:ps.Nodup:=by rw [<- S.pre];exact S.nd.sublist (List.take_sublist _ _)
  refine ⟨u,rv,?_⟩;rcases S.par y (ET hp) with k | k
  ·exact .inl ⟨k,bW ndP hp hu k⟩
  ·obtain ⟨c,e⟩:=fM (n:=s.heap.objs.size+1) k;refine .inr ⟨.inl k,c,e,?_⟩;have q:=x.cell y c e;rw [bc ndP hp hu (by show scope.names.lookup y≠_;rw [k];decide)] at q;exact q
 ·exact e0.hok.fresh (FV (x.above y c (Gf h)))
 ·unfold start;show _=N.length;rw [Es,Dr,Gs];omega
theorem vq {K:PySem.W.Frag} {mg:Str->Option Value} {base:Heap} {k:Nat} {f:Addr} {name qual:Str} {params:Arguments} {body:List Stmt} {scope:Scope} {dV kV doc pm cdv ct oc:Value} {an od:Option Addr}
  {osl:Array (Option Value)} {N ps:List Str} {sp:Sp} (lk:K.lookup f=some ⟨oc,od,.func (PySem.W.fnOf name qual params body scope dV kV doc pm an cdv ct),osl⟩) (hcd:PySem.W.codeIn K cdv qual=true) (S:FnScope N ps scope)
  (len:∀ vs H Q E,sp vs H Q E->vs.length=ps.length)
  (hbody:∀ (A:Around) (outer:List Env) (s:Shared) (H:Hp) (vs:List V) (Q:VK) (E:XK),Room CX.q k (A.deeper (envOfC qual scope s.heap.objs.size f cdv))->sp vs H Q E ->
   ∃ t,PSs (X0 CX P w K mg base N qual scope f cdv A outer s H E) body t/\t { nx:=λ_ H'=>Q .non H',rt:=Q } (start N vs) H) :
  FnOk P w K mg base CX (k+1) f (PySem.W.fnOf name qual params body scope dV kV doc pm an cdv ct) ps sp:=by
 refine ⟨len,λA outer s H args us vs Q E hr e0 hb r hsp=>?_⟩;have hl:=len _ _ _ _ hsp;have KX:=e0.mod.kin.keeps λb o e=>(e0.bs b o e).1;have lim:=e0.mod.nolimit.keeps λb o e=>(e0.bs b o e).1;have hkind:∀ y∈ps.zip us,scope.names.lookup y.1=some .local\/(scope.names.lookup y.1=some .cell/\((cellsFrom (s.heap.objs.size+1) scope.names []).lookup y.1).isSome=true):=λ⟨n,v⟩ hy=>by
  rcases S.par n (IH hy).1 with q | q
  ·exact .inl q
  ·exact .inr ⟨q,PySem.W.cellsFrom_some _ _ _ (.inl q)⟩
 refine codeAny_call_function hr.depth (KX _ _ lk) rfl S.co S.gen rfl (PySem.W.codeRec_of KX hcd) (hb _ _ _ _ ?_);refine HG S.kind hkind λenv he s1 x=>?_;subst he;refine ⟨lim.keeps x.toInCall.keep,codeAny_func ?_⟩;obtain ⟨t,ht,hq⟩:=hbody A outer s H vs Q E (hr.deeper _) hsp;have I:Inv (X0 CX P w K mg base N qual scope f cdv A outer s H E) [] (start N vs) H s1:=bh S hr.hd e0 hl r x;refine Ef (ht [] s1 (start N vs) H _ I hq) (λfl s' hs=>?_) λe s' hs=>hs;have fin:∀ {σ':St} {H':Hp} {v:V} {u:Value},Inv (X0 CX P w K mg base N qual scope f cdv A outer s H E) [] σ' H' s'->RelV v u->Q v H'->CE outer P w H s Q u s':=
  λ{σ' H' v u} J rv q=>⟨v,H',J.os,J.bare,J.base,J.hok,rv,q⟩
 cases fl with
 | ret u=>
  obtain ⟨v,σ',H',J,rv,q⟩:=hs;exact fin J rv q
 | next=>
  obtain ⟨σ',H',J,q⟩:=hs;exact fin (v:=V.non) J rfl q
 | brk=>
  obtain ⟨_,_,_,q⟩:=hs;exact False.elim q
 | cont=>
  obtain ⟨_,_,_,q⟩:=hs;exact False.elim q
section
variable {X:Cx} {x:Str} {p pos:Pos} {e:Expr} {es:List Expr} {t:TA} {id T:String} {r:List V->Hp->VK->Prop}
def tCB (r:List V->Hp->VK->Prop) (t:TA):TE:=λσ H Q=>t σ H λvs a=>r vs a Q
theorem P5 (n:k8 X (.builtin id) r) (l:Gl X x) (m:X.mg x=none) (c:bootBuiltins x=some (.builtin id)) (d:PA X (e :: es) t) (f:x ≠ "__name__":=by decide) (a:(x==("__debug__" : Str))=false:=by decide)
  (g:starEach (e :: es) X.env=(false,eval e X.env) :: starEach es X.env:=by rfl) (b:(backTo pos (starEach es X.env)).any (·.1)=false:=by rfl):PE X (.Call (.Name x p) (e :: es) [] pos) (tCB r t):=by
 intro pins s σ H Q I h;refine EI (w8 I l m c ?_ f a);exact FA (thn (d pos pins s σ H _ I h) λus i ⟨vs,k,j,q,o⟩=>n pins i σ k vs us Q j q o) g b
theorem kY (n:k8 X (.type T) r) (l:Gl X x) (m:X.mg x=none) (c:bootBuiltins x=some (.type T)) (d:PA X (e :: es) t) (f:x ≠ "__name__":=by decide) (a:(x==("__debug__" : Str))=false:=by decide)
  (g:starEach (e :: es) X.env=(false,eval e X.env) :: starEach es X.env:=by rfl) (b:(backTo pos (starEach es X.env)).any (·.1)=false:=by rfl):PE X (.Call (.Name x p) (e :: es) [] pos) (tCB r t):=by
 intro pins s σ H Q I h;refine EI (w8 I l m c ?_ f a);exact EN (thn (d pos pins s σ H _ I h) λus i ⟨vs,k,j,q,o⟩=>n pins i σ k vs us Q j q o) g b
end
end L2
namespace HT
open PySem PyProof.Rows
section
variable {prog:Program} {w:World} {A:Around} {E:Value->Shared->Prop} {s:Shared}
theorem cat_tup (q:IsTup s.heap t vs.toArray) (v:IsTup s.heap b ws.toArray) (p:vs≠[])
  (r:ws=[]->Q (.ref t) s) (u:ws≠[]->Q (.ref s.heap.objs.size) { s with heap:=s.heap.push { cls:=.type "tuple",data:=.seq (vs++ws).toArray } })
  (hsz:vs.length+ws.length<=sizeLine):wpAny (model prog w) A (binaryOp .Add (.ref t) (.ref b)) Q E s:=by
 obtain ⟨⟨cls,k,data,o⟩,f,x,n,hd⟩:=id q;obtain ⟨⟨m,d,i,c⟩,a,h,l,j⟩:=id v;subst x hd h j;have e:vs.toArray++ws.toArray=(vs++ws).toArray:=by simp
 by_cases g:ws=[]
 ·exact concat_meets ⟨_,f,rfl⟩ ⟨_,a,rfl⟩ Iq IR GY GW (GO _ _)
   (tuple_addW1 t b vs.toArray ws.toArray n l k d o c (by simpa using p) (by simp [g])) ⟨f,a,r g⟩
 ·refine concat_meets ⟨_,f,rfl⟩ ⟨_,a,rfl⟩ Iq IR GY GW (GO _ _)
   (tuple_addW2 t b vs.toArray ws.toArray n l k d o c (by simpa using p) (by simpa using g) (by rw [Dy,Dy];exact hsz)) ⟨f,a,?_⟩
  rw [e];exact u g
def sIx (n d:Nat):Option Int->Nat
 | none=>d
 | some v=>if v<0 then (v+(n:Int)).toNat else min v.toNat n
theorem sIx_none (n d:Nat):sIx n d none=d:=rfl
theorem sIx_nat (n d k:Nat):sIx n d (some (k:Int))=min k n:=by
 show (if (k:Int)<0 then ((k:Int)+(n:Int)).toNat else min (k:Int).toNat n)=min k n;rw [if_neg (by omega),Fg]
theorem wx (n d:Nat) (hd:d<=n) (o:Option Int):sIx n d o<=n:=by
 cases o with
 | none=>exact hd
 | some v=>
  show (if v<0 then (v+(n:Int)).toNat else min v.toNat n)<=n;by_cases hv:v<0
  ·rw [if_pos hv];omega
  ·rw [if_neg hv];exact Nat.min_le_right _ _
theorem iW (v:Int) (n d:Nat):(if v<0 then max (v+(n:Int)) 0 else min v (n:Int))=((sIx n d (some v):Nat):Int):=by
 show (if v<0 then max (v+(n:Int)) 0 else min v (n:Int))=(((if v<0 then (v+(n:Int)).toNat else min v.toNat n):Nat):Int);grind
theorem gL (lo hi:Option Int) (n:Nat):Builtin.Slice.sliceAdjust lo hi 1 (n:Int)=(((sIx n 0 lo:Nat):Int),((sIx n n hi:Nat):Int)):=by
 have h1:¬ ((1:Int)<0):=by omega
 refine Prod.ext ?_ ?_
 ·cases lo with
  | none=>rfl
  | some v=>exact iW v n 0
 ·cases hi with
  | none=>rfl
  | some v=>exact iW v n n
theorem gJ (i j:Nat):Builtin.Slice.slicePlaces (i:Int) (j:Int) 1=j-i:=by
 unfold Builtin.Slice.slicePlaces;grind
theorem ai (p:IsPart v o) (h:Q o s):wpAny (model prog w) A (Builtin.Slice.slicePartIndex v) Q E s:=by
 cases p with
 | none=>exact slicePart_none h
 | int i t=>exact slicePart_int h
theorem sliceApplied_gen {lo hi:Option Int} {n:Nat} {Q:Int×Int×Nat->Shared->Prop} (hs:s.heap.IsSliceOf sl vl vu .none) (pl:IsPart vl lo) (pu:IsPart vu hi)
  (h:Q (((sIx n 0 lo:Nat):Int),1,sIx n n hi-sIx n 0 lo) s):wpAny (model prog w) A (Builtin.Slice.sliceApplied (.ref sl) (pure (n:Int))) Q E s:=by
 obtain ⟨os,hos,hcs,hds⟩:=id hs;refine Do (Do (FF hos hds rfl (Do (FF hos hds rfl (Do (FF hos hds rfl (Dp ?_)))))));refine Do (slicePart_none ?_);rw [if_neg (by decide)];refine Do (ai pl (Do (ai pu (Do (Dp ?_)))));show wpAny _ _ (match Builtin.Slice.sliceAdjust lo hi 1 (n:Int) with | (lo,hi)=>pure (lo,(1:Int),Builtin.Slice.slicePlaces lo hi 1)) _ _ s;rw [gL lo hi n];show wpAny _ _ (pure (((sIx n 0 lo:Nat):Int),(1:Int),Builtin.Slice.slicePlaces ((sIx n 0 lo:Nat):Int) ((sIx n n hi:Nat):Int) 1)) _ _ s;rw [gJ];exact Dp h
theorem mQ (xs:Array Value) (i k:Nat):((List.range k).filterMap λ(m:Nat)=>xs[((i:Int)+(m:Int) * 1).toNat]?).toArray=((xs.toList.drop i).take k).toArray:=by
 have e:(λ(m:Nat)=>xs[((i:Int)+(m:Int) * 1).toNat]?)=λm=>xs[i+m]?:=by
  funext m;have:((i:Int)+(m:Int) * 1).toNat=i+m:=by omega
  rw [this]
 rw [e];have:=pick_run xs i k;rw [List.filterMap_map] at this;have e2:((λx=>xs[x]?) ∘ λx=>i+x)=λm=>xs[i+m]?:=rfl;grind
theorem getItem_tuple_cut {items:Array Value} {i j:Value} {lo b:Option Int} {Q:Value->Shared->Prop} (c:IsTup s.heap t items) (hs:s.heap.IsSliceOf sl i j .none) (pl:IsPart i lo) (k:IsPart j b)
  (m:¬ (sIx items.size 0 lo=0/\sIx items.size items.size b=items.size))
  (h:Q (.ref s.heap.objs.size) { s with heap:=s.heap.push { cls:=.type "tuple",data:=.seq ((items.toList.drop (sIx items.size 0 lo)).take (sIx items.size items.size b-sIx items.size 0 lo)).toArray } })
  (hsz:items.size<=sizeLine):wpAny (model prog w) A (getItem (.ref t) (.ref sl)) Q E s:=by
 have a:sizeOk (.seq ((items.toList.drop (sIx items.size 0 lo)).take (sIx items.size items.size b-sIx items.size 0 lo)).toArray):=by
  show ((items.toList.drop (sIx items.size 0 lo)).take (sIx items.size items.size b-sIx items.size 0 lo)).toArray.size<=sizeLine;rw [Dy,Fn,Hf,Ej];omega
 have n:sIx items.size items.size b<=items.size:=wx _ _ (Dz _) b;obtain ⟨l,d,e,hds⟩:=id hs;have g:s.TypeIs (.ref sl) "slice":=⟨l,d,e⟩;unfold getItem;try with_reducible refine Ep ?_
 first | refine Do (Dp ?_) | skip
 refine Do (wpAny_sequenceKey c.typeIs (by decide) ?_);refine Do (EY c.typeIs Fz
  (EO Fz c.typeIs entry_tuple_getitem ?_ (args_tuple_getitem _ _)))
 show wpAny _ _ (Builtin.Tuple.tupleItemsOf (.ref t) >>= _) _ _ s;refine Do (Ig c ?_);refine Do (GD g ?_);rw [if_pos (by decide)];refine Do (sliceApplied_gen hs pl k ?_);have f:¬ ((((sIx items.size 0 lo:Nat):Int)==0&&(1:Int)==1&&(sIx items.size items.size b-sIx items.size 0 lo)==items.size)=true):=by
  intro q;rw [Dt,Dt] at q;have p:=eq_of_beq q.1.1;have o:=eq_of_beq q.2;exact m ⟨by omega,by omega⟩
 show wpAny _ _ (if (((sIx items.size 0 lo:Nat):Int)==0&&(1:Int)==1&&(sIx items.size items.size b-sIx items.size 0 lo)==items.size)=true then _ else _) _ _ s;rw [if_neg f,mQ];first
  | exact Do (Ez (Dp ⟨_,rfl,Dp h⟩) a)
  | exact Do (Ez (Do (Dp (Dp ⟨_,rfl,Dp h⟩))) a)
  | exact Do (Do (Ez (Dp (Dp ⟨_,rfl,Dp h⟩)) a))
  | exact Do (Do (Ez (Dp ⟨_,rfl,Dp h⟩) a))
end
end HT
namespace L2
open PySem PySem.Spec PyProof.Rows
abbrev TO:=St->Hp->(Option Int->Hp->Prop)->Prop
def PO (X:Cx) (e:Option Expr) (t:TO):Prop:=
 ∀ (pins:List (Addr×Obj)) (s:Shared) (σ:St) (H:Hp) (Q:Option Int->Hp->Prop),Inv X pins σ H s->t σ H Q ->
  wpAny (model X.prog X.w) X.A (evalPart e X.env) (λu s'=>∃ o H',Inv X pins σ H' s'/\IsPart u o/\Q o H') X.xe s
def tNoPart:TO:=λ_ H Q=>Q none H
def Bt (t:TE):TO:=λσ H Q=>t σ H λx a=>∃ i,x=.int i/\Q (some i) a
section
variable {X:Cx} {e:Expr} {te:TE} {lo hi:Option Expr} {tl th:TO} {pos p2:Pos}
theorem uD:PO X none tNoPart:=by
 intro pins s σ H Q I h;rw [evalPart_none];exact Dp ⟨none,H,I,.none,h⟩
theorem tN (h:PE X e te):PO X (some e) (Bt te):=by
 intro pins s σ H Q I f;rw [evalPart_some];refine thn (h pins s σ H _ I f) λu g ⟨x,b,a,d,c⟩=>?_;obtain ⟨i,rfl,q⟩:=c;obtain ⟨t,rfl⟩:=d;exact ⟨some i,b,a,.int i t,q⟩
def SlR (X:Cx) (r:V->Option Int->Option Int->Hp->VK->Prop):Prop:=
 ∀ (pins:List (Addr×Obj)) (s:Shared) (σ:St) (H:Hp) (x:V) (v c b:Value) (lo a:Option Int) (d:Addr) (Q:VK),Inv X pins σ H s->RelV x v->s.heap.IsSliceOf d c b .none->IsPart c lo->IsPart b a->r x lo a H Q ->
  ∃ T id,typeLookup (.type T) "__getitem__" = pure (some (.builtin id))/\s.TypeIs v T/\wpAny (model X.prog X.w) X.A (getItem v (.ref d)) (EP X pins σ Q) X.xe s
def tSl (r:V->Option Int->Option Int->Hp->VK->Prop) (te:TE) (a d:TO):TE:=λσ H Q=>te σ H λx c=>a σ c λl e=>d σ e λu b=>r x l u b Q
theorem nU (j:SlR X r) (o:PE X e te) (g:PO X lo tl) (J:PO X hi th):PE X (.Subscript e (.Slice lo hi none p2) pos) (tSl r te tl th):=by
 intro pins s σ H Q I h;refine Subscript_ (thn (o pins s σ H _ I h) λv m ⟨x,y,t,C,B⟩=>?_);refine wpAny_Slice (thn (g pins m σ y _ t B) λc F ⟨l,G,D,pl,i⟩=>thn (J pins F σ G _ D i) λd a ⟨u,f,w,n,z⟩=>?_);rw [evalPart_none];refine Dp ?_;have k:Inv X pins σ f { a with heap:=a.heap.push { cls:=.type "slice",data:=.fields #[c,d,.none] } }:=w.kept λb ob q=>Dq _ q;obtain ⟨T,id,A,p,E⟩:=j pins { a with heap:=a.heap.push { cls:=.type "slice",data:=.fields #[c,d,.none] } } σ f x v c d l u a.heap.objs.size Q k C (Heap.IsSliceOf.new ..) pl n z;exact tail_any p A E (by with_unfolding_all rfl)
def kb (xs:List V) (lo a:Option Int):List V:=(xs.drop (HT.sIx xs.length 0 lo)).take (HT.sIx xs.length xs.length a-HT.sIx xs.length 0 lo)
theorem W8 (xs:List V) (lo hi:Option Int):(kb xs lo hi).length<=xs.length:=by
 unfold kb;rw [Fn,Hf];omega
def DZ (K:PySem.W.Frag):V->Option Int->Option Int->Hp->VK->Prop:=λx lo b H Q=>∃ a xs,x=.ref a/\SqT K H a xs /\
 ¬ (HT.sIx xs.length 0 lo=0/\HT.sIx xs.length xs.length b=xs.length)/\∀ p,H p=none->Q (.ref p) (upd H p (.tup (kb xs lo b)))
theorem yV:SlR X (DZ X.K):=by
 intro pins s σ H x v l m lo e n Q I j hs pl i h;obtain ⟨a,xs,rfl,g,k,q⟩:=h;cases j;obtain ⟨d,r,f,hz⟩:=I.tuple g;have c:d.toArray.size=xs.length:=by rw [Dy];exact r.length.symm
 refine ⟨"tuple",_,PyProof.Rows.slot_tuple_getitem.lookup,f.typeIs,?_⟩;refine HT.getItem_tuple_cut f hs pl i (by rw [c];exact k) ?_ (by rw [c];exact hz);rw [c];refine ⟨.ref s.heap.objs.size,_,I.laid (λb ob q=>Dq _ q) (Dz _) ?_,rfl,q _ (I.hok.fresh (Dz _))⟩;exact ⟨EQ (W8 xs lo e) hz,_,(r.drop (HT.sIx xs.length 0 lo)).take (HT.sIx xs.length xs.length e-HT.sIx xs.length 0 lo),TupN.new _ _⟩
def ze (K:PySem.W.Frag):R2:=λx y H Q=>∃ a b xs ys,x=.ref a/\y=.ref b/\SqT K H a xs/\SqT K H b ys/\xs≠[]/\xs.length+ys.length<=sizeLine /\
 (ys=[]->Q (.ref a) H)/\(ys≠[]->∀ p,H p=none->Q (.ref p) (upd H p (.tup (xs++ys))))
theorem Vals.nil_iff (r:Vals xs us):us=[]↔xs=[]:=by
 cases r with
 | nil=>simp
 | cons _ _=>simp
theorem qN:OpR X (binaryOp .Add) (ze X.K):=by
 intro pins s σ H x y v u Q I n k h;obtain ⟨a,b,xs,ys,rfl,rfl,g,m,f,hz,p,l⟩:=h;cases n;cases k;obtain ⟨j,d,o,_⟩:=I.tuple g;obtain ⟨e,c,i,_⟩:=I.tuple m;refine HT.cat_tup o i (λz=>f (d.nil_iff.mp z)) (λz=>⟨.ref a,H,I,rfl,p (c.nil_iff.mp z)⟩) (λz=>?_) (by rw [<- d.length,<- c.length];exact hz);refine ⟨.ref s.heap.objs.size,_,I.laid (λb ob q=>Dq _ q) (Dz _) ?_,rfl,l (λw=>z (c.nil_iff.mpr w)) _ (I.hok.fresh (Dz _))⟩;exact ⟨by rw [Es];exact hz,_,d.append c,TupN.new _ _⟩
end
def ixN (n:Nat) (i:Int):Option Nat:=if 0<=i then (if i<n then some i.toNat else none) else if -(n:Int)<=i then some (i+n).toNat else none
def atI {a:Type} (xs:List a) (i:Int):Option a:=(ixN xs.length i).bind λj=>xs[j]?
theorem ik {n:Nat} {i:Int} {j:Nat} (h:ixN n i=some j):seqIndex? i n=some j/\j<n/\-(n:Int)<=i/\i<n:=by
 unfold ixN at h;by_cases h0:0<=i
 ·rw [if_pos h0] at h;by_cases h1:i<n
  ·rw [if_pos h1] at h;have e:i.toNat=j:=EA h;exact ⟨by rw [seqIndex_of h0 h1,e],by omega,by omega,h1⟩
  ·rw [if_neg h1] at h;cases h
 ·rw [if_neg h0] at h;by_cases h1:-(n:Int)<=i
  ·rw [if_pos h1] at h;have e:(i+n).toNat=j:=EA h;exact ⟨by rw [seqIndex_neg (by omega) h1,e],by omega,h1,by omega⟩
  ·rw [if_neg h1] at h;cases h
theorem hZ (h:atI xs i=some v):∃ j,seqIndex? i xs.length=some j/\xs[j]?=some v/\j<xs.length/\-(xs.length:Int)<=i/\i<xs.length:=by
 unfold atI at h;cases e:ixN xs.length i with
 | none=>rw [e] at h;cases h
 | some j=>
  rw [e] at h;obtain ⟨c,b,a,d⟩:=ik e;exact ⟨j,c,h,b,a,d⟩
theorem cX {j:Nat} {v:α} (h:xs[j]?=some v):atI xs (j:Int)=some v:=by
 have hj:=(Eb.mp h).1;have e:ixN xs.length (j:Int)=some j:=by
  unfold ixN;rw [if_pos (by omega),if_pos (by omega)];simp
 unfold atI;rw [e];exact h
def cP (b:Expr):Prop:=∀ o i,subscripted b false o i=operate [o,i] (getItem o i)
def IxR (X:Cx) (r:R2):Prop:=
 ∀ (b a:Expr) (pins:List (Addr×Obj)) (s:Shared) (σ:St) (H:Hp) (x y:V) (v u:Value) (Q:VK),Inv X pins σ H s->RelV x v->RelV y u->r x y H Q ->
  subscripted a false v u=operate [v,u] (getItem v u)->wpAny (model X.prog X.w) X.A (subscriptTail b a v u) (EP X pins σ Q) X.xe s
def MtR (X:Cx) (id:String) (r:V->List V->Hp->VK->Prop):Prop:=
 ∀ (pins:List (Addr×Obj)) (s:Shared) (σ:St) (H:Hp) (x:V) (xs:List V) (v:Value) (us:List Value) (Q:VK),Inv X pins σ H s->RelV x v->Vals xs us->r x xs H Q ->
  wpAny (model X.prog X.w) X.A (call (.builtin id) (v :: us)) (EP X pins σ Q) X.xe s
section
variable {X:Cx} {a b:Expr} {ta tb:TE} {pos:Pos}
theorem vS (f:IxR X r) (c:PE X a ta) (g:PE X b tb) (hs:cP b):PE X (.Subscript a b pos) (tOp r ta tb):=by
 intro pins s σ H Q I h;exact Subscript_ (xi c g I h λv u j x y k d i e q=>f a b pins j σ k x y v u Q d i e q (hs _ _))
def Da (K:PySem.W.Frag):R2:=λx y H Q=>∃ p xs i v,x=.ref p/\y=.int i/\SqL K H p xs/\atI xs i=some v/\Q v H
def Cv (K:PySem.W.Frag):R2:=λx y H Q=>∃ p xs i v,x=.ref p/\y=.int i/\SqT K H p xs/\atI xs i=some v/\Q v H
theorem rH:IxR X (Da X.K):=by
 intro f e pins s σ H x y v u Q I D n h hs;obtain ⟨p,xs,i,z,rfl,rfl,E,A,q⟩:=h;cases D;obtain ⟨t,rfl⟩:=n;obtain ⟨d,r,pl,hz⟩:=I.list E;obtain ⟨j,b,C,G,m,B⟩:=hZ A;obtain ⟨w,k,c⟩:=r.get C;have o:=r.length;have F:=T6;have a:EP X pins σ Q w s:=⟨z,H,I,c,q⟩;by_cases l:0<=i
 ·have g:i.toNat=j:=by
   rw [seqIndex_of l B] at b;exact EA b
  exact item_listR pl.isList l (by omega) (by rw [g];simpa using k) a hs
 ·have g:(i+(d.toArray.size:Int)).toNat=j:=by
   rw [seqIndex_neg (by omega) m] at b;rw [Dy,<- o];exact EA b
  exact subscriptTail_builtinR pl.isList.typeIs slot_list_getitem.lookup
   (wpAny_getItem_list_neg pl.isList (by omega) (by rw [Dy] <;> omega) (by omega) (by rw [g];simpa using k) ⟨rfl,a⟩) hs
theorem pN:IxR X (Cv X.K):=by
 intro b d pins s σ H x y v u Q I A l h hs;obtain ⟨p,xs,i,z,rfl,rfl,g,e,q⟩:=h;cases A;obtain ⟨t,rfl⟩:=l;obtain ⟨k,r,pl,hz⟩:=I.tuple g;obtain ⟨j,f,o,D,C,E⟩:=hZ e;obtain ⟨w,n,c⟩:=r.get o;have m:=r.length;have B:=T6;have a:EP X pins σ Q w s:=⟨z,H,I,c,q⟩;exact subscriptTail_builtinR pl.typeIs slot_tuple_getitem.lookup
  (getItem_tuple pl (by omega) (by omega) (by rw [Dy,<- m];exact f) (by simpa using n) ⟨rfl,a⟩) hs
theorem hE (a:List Value) (n j:Nat) (u:Value):Obj.mapSeq (·.setIfInBounds j u) { cls:=.type "list",data:=.seq a.toArray n }={ cls:=.type "list",data:=.seq (a.set j u).toArray n }:=by
 simp [Obj.mapSeq]
theorem Inv.lst {pins:List (Addr×Obj)} {σ:St} {H:Hp} {s:Shared} {p:Addr} {xs:List V} (I:Inv X pins σ H s) (h:H p=some (.lst xs)) :
  ∃ (its:List Value) (n:Nat),Vals xs its/\s.heap.get? p=some { cls:=.type "list",data:=.seq its.toArray n }/\xs.length<=sizeLine:=by
 obtain ⟨z,its,n,r,e⟩:=I.hok p _ h;exact ⟨its,n,r,e,z⟩
theorem Inv.lstUpd {σ:St} {H:Hp} {s:Shared} {p:Addr} {xs ys:List V} {a its':List Value} {n c:Nat} {f:Obj->Obj} (I:Inv X pins σ H s) (h:H p=some (.lst xs))
  (g:s.heap.get? p=some { cls:=.type "list",data:=.seq a.toArray n }) (d:f { cls:=.type "list",data:=.seq a.toArray n }={ cls:=.type "list",data:=.seq its'.toArray c }) (r:Vals ys its') (hz:ys.length<=sizeLine) (t:Nat) :
  Inv X pins σ (upd H p (.lst ys)) { s with heap:=s.heap.update p f,toks:=t }:=by
 have e:(s.heap.update p f).get? p=some { cls:=.type "list",data:=.seq its'.toArray c }:=by
  rw [EB f g (by rw [d] <;> rfl),d]
 refine I.write (by rw [h];trivial) (.inl rfl) (λb u i q=>(Fs _ _ (Ne.symm i)).trans q) ⟨_,e⟩ ?_;exact ⟨hz,its',c,r,e⟩
def rSetL:V->V->V->Hp->(Hp->Prop)->Prop:=λo i v H Q=>∃ p xs k j,o=.ref p/\i=.int k/\H p=some (.lst xs)/\ixN xs.length k=some j/\Q (upd H p (.lst (xs.set j v)))
theorem mG:wQ X rSetL:=by
 intro pins s σ H o i v D B u Q I z x A h;obtain ⟨p,xs,k,j,rfl,rfl,f,y,q⟩:=h;cases z;obtain ⟨t,rfl⟩:=x;obtain ⟨a,n,r,d,hz⟩:=I.lst f;obtain ⟨b,E,w,l⟩:=ik y;have e:=r.length;have C:=T6;have g:Inv X pins σ (upd H p (.lst (xs.set j v))) { s with heap:=s.heap.update p (Obj.mapSeq (·.setIfInBounds j u)) }:=
  I.lstUpd f d (hE a n j u) (r.set A j) (by rw [List.length_set];exact hz) s.toks
 by_cases m:0<=k
 ·have c:k.toNat=j:=by
   rw [seqIndex_of m l] at b;exact EA b
  exact PySem.W.ki_setAt d m (by omega) (by rw [Dy,<- e];exact l) (by rw [c];exact ⟨_,g,q⟩)
 ·have c:(k+(a.toArray.size:Int)).toNat=j:=by
   rw [seqIndex_neg (by omega) w] at b;rw [Dy,<- e];exact EA b
  exact PySem.W.ki_setBack d (by omega) (by rw [Dy,<- e];exact w) (by omega) (by rw [c];exact ⟨_,g,q⟩)
theorem cz (lo a:Option Int) (n:Nat):(sliceBounds lo a none n).1=((HT.sIx n 0 lo:Nat):Int)/\(sliceBounds lo a none n).2.1=((HT.sIx n n a:Nat):Int)/\(sliceBounds lo a none n).2.2=1:=by
 refine ⟨?_,?_,rfl⟩
 ·cases lo with
  | none=>simp [sliceBounds,HT.sIx]
  | some i=>
   simp only [sliceBounds,HT.sIx,Option.getD_none,show (1:Int) > 0 by decide,if_true];by_cases h:i<0
   ·grind
   ·grind
 ·cases a with
  | none=>simp [sliceBounds,HT.sIx]
  | some i=>
   simp only [sliceBounds,HT.sIx,Option.getD_none,show (1:Int) > 0 by decide,if_true];by_cases h:i<0
   ·grind
   ·grind
theorem az (a:List Value) (lo b:Option Int):slicePick a.toArray lo b none=((a.drop (HT.sIx a.length 0 lo)).take (HT.sIx a.length a.length b-HT.sIx a.length 0 lo)).toArray:=by
 obtain ⟨c,d,e⟩:=cz lo b a.toArray.size;unfold slicePick;rw [c,d,e];simp only [sliceRange_one,pick_run,Dy] <;> rfl
def DS (K:PySem.W.Frag):V->Option Int->Option Int->Hp->VK->Prop:=λx lo b H Q=>∃ a xs,x=.ref a/\SqL K H a xs/\∀ p,H p=none->Q (.ref p) (upd H p (.lst (kb xs lo b)))
theorem uG:SlR X (DS X.K):=by
 intro pins s σ H x v k l lo d m Q I j hs pl g h;obtain ⟨a,xs,rfl,f,q⟩:=h;cases j;obtain ⟨i,r,e,hz⟩:=I.list f;have c:=r.length;refine ⟨"list",_,slot_list_getitem.lookup,e.isList.typeIs,?_⟩;refine wpAny_getItem_list_slice e.isList hs pl g .none (by simp) ?_ (by rw [Dy] <;> omega);rw [az,<- c];refine ⟨.ref s.heap.objs.size,_,I.laid (λb ob q=>Dq _ q) (Dz _) ?_,rfl,q _ (I.hok.fresh (Dz _))⟩;exact ⟨EQ (W8 xs lo d) hz,_,0,(r.drop (HT.sIx xs.length 0 lo)).take (HT.sIx xs.length xs.length d-HT.sIx xs.length 0 lo),Du _ rfl⟩
theorem bp:k8 X (.builtin "len") (λxs H Q=>∃ p ys,xs=[.ref p]/\(SqL X.K H p ys\/SqT X.K H p ys)/\Q (.int ys.length) H):=by
 intro pins s σ H xs us Q I r h;obtain ⟨p,ys,rfl,b,q⟩:=h;obtain ⟨u,rfl,e⟩:=P8 r;cases e;have f:=T6;rcases b with b | b
 ·obtain ⟨d,c,pl,hz⟩:=I.list b;have a:=c.length;exact Calls.call_len_list pl.isList (by simp <;> omega) ⟨.int ys.length,H,I.tok _,⟨s.toks+1,by rw [Dy,a]⟩,q⟩
 ·obtain ⟨d,c,pl,hz⟩:=I.tuple b;have a:=c.length;exact len_tuple pl (by simp <;> omega) ⟨.int ys.length,H,I.tok _,⟨s.toks+1,by rw [Dy,a]⟩,q⟩
theorem cN:k8 X (.builtin "len") (λxs H Q=>∃ z,xs=[.str z]/\z.length<=sizeLine/\Q (.int z.length) H):=by
 intro pins s σ H xs us Q I r h;obtain ⟨z,rfl,hz,q⟩:=h;obtain ⟨u,rfl,t,rfl⟩:=P8 r;have hn:=T6;exact len_str (by omega) ⟨.int z.length,H,I.tok _,⟨_,rfl⟩,q⟩
theorem bz:k8 X (.type "list") (λxs H Q=>∃ p ys,xs=[.ref p]/\(SqL X.K H p ys\/SqT X.K H p ys)/\∀ l,H l=none->Q (.ref l) (upd H l (.lst ys))):=by
 intro pins s σ H xs us Q I r h;obtain ⟨p,ys,rfl,j,q⟩:=h;obtain ⟨u,rfl,t⟩:=P8 r;cases t;have i:∀ (a:List Value),Vals ys a->ys.length<=sizeLine->∀ (h':Heap) (c:Nat),(∀ b o',s.heap.get? b=some o'->h'.get? b=some o') ->
   h'.get? s.heap.objs.size=some { cls:=.type "list",dict:=none,data:=.seq a.toArray c,slots:=#[] }->EP X pins σ Q (.ref s.heap.objs.size) { s with heap:=h' }:=λa d hz h' c g e=>
  ⟨.ref s.heap.objs.size,_,I.laid g (Dz _) (show ObjOk X.prog X.w _ h' _ (.lst ys) from ⟨hz,a,c,d,e⟩),rfl,q _ (I.hok.fresh (Dz _))⟩
 rcases j with j | j
 ·obtain ⟨a,d,pl,hz⟩:=I.list j;have f:=d.length;obtain ⟨o,k,m,n,hd⟩:=pl.isList;exact call_list_seq p (.inl rfl) k m hd (λh' c g e=>i a d hz h' c g e) (by simp <;> omega)
 ·obtain ⟨a,d,pl,hz⟩:=I.tuple j;have f:=d.length;obtain ⟨o,k,m,n,hd⟩:=pl;exact call_list_seq p (.inr rfl) k m hd (λh' c g e=>i a d hz h' c g e) (by simp <;> omega)
theorem N2:k8 X (.type "tuple") (λxs H Q=>∃ p ys,xs=[.ref p]/\((SqL X.K H p ys/\∀ l,H l=none->Q (.ref l) (upd H l (.tup ys)))\/(SqT X.K H p ys/\Q (.ref p) H))):=by
 intro pins s σ H xs us Q I r h;obtain ⟨p,ys,rfl,h⟩:=h;obtain ⟨u,rfl,k⟩:=P8 r;cases k;rcases h with ⟨c,q⟩ | ⟨c,q⟩
 ·obtain ⟨a,d,pl,hz⟩:=I.list c;have f:=d.length;refine call_tuple_list pl.isList (λh' i=>?_) (by simp <;> omega);have g:=I.kept (t':=s.toks) i;have j:Inv X pins σ (upd H h'.objs.size (.tup ys)) { s with heap:=h'.push { cls:=.type "tuple",data:=.seq a.toArray } }:=
   g.laid (λb o e=>Dq _ e) (Dz _) (⟨hz,a,d,TupN.new _ _⟩)
  exact ⟨.ref h'.objs.size,_,j,rfl,q _ (g.hok.fresh (Dz _))⟩
 ·obtain ⟨a,d,pl,hz⟩:=I.tuple c;exact call_tuple_same pl ⟨.ref p,H,I,rfl,q⟩
def tyV (K:PySem.W.Frag) (T:String) (x:V) (H:Hp):Prop:=match x with
 | .str _=>T = "str"
 | .int _=>T = "int"
 | .ref p=>(T = "list"/\∃ xs,SqL K H p xs)\/(T = "tuple"/\∃ o,K.lookup p=some o/\o.cls=.type "tuple"/\o.dict=none) \/
   (T = "dict"/\((∃ a,H p=some (.dK a))\/∃ a,H p=some (.dT a)))\/(T = "set"/\∃ S n,H p=some (.set S n))\/(T = "tuple"/\∃ xs,Rd H p (.tup xs))
 | _=>False
theorem gf {σ:St} {H:Hp} {s:Shared} {T:String} {x:V} {v:Value} (I:Inv X pins σ H s) (r:RelV x v) (ty:tyV X.K T x H) :
  s.TypeIs v T/\∀ a,v=.ref a->∃ ob,s.heap.get? a=some ob/\ob.dict=none:=by
 cases x with
 | str z=>
  obtain ⟨t,rfl⟩:=r;cases (ty);exact ⟨typeIs_str s z t,λ_ e=>nomatch e⟩
 | int i=>
  obtain ⟨t,rfl⟩:=r;cases (ty);exact ⟨Hg s i t,λ_ e=>nomatch e⟩
 | ref p=>
  cases r;rcases ty with ⟨rfl,xs,hq⟩ | ⟨rfl,o,hk,hc,hd⟩ | ⟨rfl,hk⟩ | ⟨rfl,S,n,hk⟩ | ⟨rfl,xs,hk⟩
  ·obtain ⟨its,_,pl,_⟩:=I.list hq;refine ⟨pl.isList.typeIs,λa e=>?_⟩;cases e;obtain ⟨o,n,e,c,hd,_⟩:=pl;exact ⟨o,e,hd⟩
  ·refine ⟨⟨o,I.kIn p o hk,hc⟩,λa e=>?_⟩;cases e;exact ⟨o,I.kIn _ o hk,hd⟩
  ·have z:∃ o,s.heap.get? p=some o/\o.ExactDict:=by
    rcases hk with ⟨kvs,hk⟩ | ⟨kvs,hk⟩
    ·obtain ⟨_,_,_,_,o,_,_,e,ex,_⟩:=I.hok p _ hk;exact ⟨o,e,ex⟩
    ·obtain ⟨_,_,_,_,o,_,_,e,ex,_⟩:=I.hok p _ hk;exact ⟨o,e,ex⟩
   obtain ⟨o,e,ex⟩:=z;refine ⟨⟨o,e,ex.1⟩,λa e2=>?_⟩;cases e2;exact ⟨o,e,ex.2.1⟩
  ·obtain ⟨o,_,_,_,e,ex,_⟩:=I.hok p _ hk;refine ⟨⟨o,e,ex.1⟩,λa e2=>?_⟩;cases e2;exact ⟨o,e,ex.2.1⟩
  ·obtain ⟨_,its,_,o,e,c,n,_,hd⟩:=(hk.ok I.hok);exact ⟨⟨o,e,c⟩,λa e2=>by cases e2;exact ⟨o,e,hd⟩⟩
 | _=>exact False.elim ty
def tBM (K:PySem.W.Frag) (T:String) (r:V->List V->Hp->VK->Prop) (c:TE) (t:TA):TE:=λσ H Q=>c σ H λx a=>tyV K T x a/\t σ a λxs b=>r x xs b Q
variable {o e:Expr} {es:List Expr} {to:TE} {t:TA} {name:Str} {apos cpos:Pos} {T id:String} {r:V->List V->Hp->VK->Prop}
theorem vK (l:PlainAttrs T) (d:Slot T name id) (g:typeOf (.builtin id)=pure (.type "method_descriptor")) (z:MtR X id r) (C:PE X o to) (B:PA X (e :: es) t)
  (c:attributeBase o name X.env (eval o X.env)=eval o X.env:=by rfl)
  (f:((backTo cpos (starEach (e :: es) X.env)).all (λx=>!x.1)&&(backToKw cpos (keywordEach [] X.env)).all (λx=>x.1.isSome)
   && decide ((e :: es).length+([]:List Keyword).length+(if ([]:List Keyword).isEmpty then 0 else 1)<30))=true:=by rfl)
  (b:(apos.endLine==cpos.line)=true:=by rfl) (hs:starEach (e :: es) X.env=(false,eval e X.env) :: starEach es X.env:=by rfl) (a:(backTo cpos (starEach es X.env)).any (·.1)=false:=by rfl) :
  PE X (.Call (.Attribute o name apos) (e :: es) [] cpos) (tBM X.K T r to t):=by
 intro pins s σ H Q I h;refine wpAny_Call_method_late c f b rfl (thn (C pins s σ H _ I h) λv p ⟨x,w,j,k,q,A⟩=>?_);obtain ⟨m,y⟩:=gf j k q;refine ⟨T,id,l,d,g,m,y,?_⟩;have i:=B cpos pins p σ w _ j A;rw [hs] at i ⊢;refine GZ (by show (false||(backTo cpos (starEach es X.env)).any (·.1))=false;rw [a] <;> rfl) (Hj ?_);exact thn i λus E ⟨vs,F,D,u,n⟩=>z pins E σ F x vs v us Q D k u n
end
def MtM (X:Cx) (id:String) (r:V->List V->Hp->VK->Prop):Prop:=
 ∀ (pins:List (Addr×Obj)) (s:Shared) (σ:St) (H:Hp) (x:V) (xs:List V) (v:Value) (us:List Value) (Q:VK),Inv X pins σ H s->RelV x v->Vals xs us->r x xs H Q ->
  wpAny (model X.prog X.w) X.A (call (.builtin id) (v :: us)) (EP X pins σ Q) X.xe s
theorem Vals.one:∀ {x:V} {us:List Value},Vals [x] us->∃ u,us=[u]/\RelV x u
 | _,_,.cons r .nil=>⟨_,rfl,r⟩
theorem Vals.rep (h:Vals xs us):∀ k:Nat,Vals (List.replicate k xs).flatten (List.replicate k us).flatten
 | 0=>.nil
 | k+1=>by
  rw [FI,FI,Gv,Gv];exact Vals.append h (Vals.rep h k)
theorem U2 (b:List Value):∀ (k:Nat) (a:List Value),
  List.foldl (λf c=>f++c) a.toArray (List.replicate k b.toArray)=(a++(List.replicate k b).flatten).toArray
 | 0,a=>by simp
 | k+1,a=>by
  have e:a.toArray++b.toArray=(a++b).toArray:=by simp
  have d:(a++b)++(List.replicate k b).flatten=a++(List.replicate (k+1) b).flatten:=by
   rw [FI,Gv,HZ]
  rw [<- d,<- U2 b k (a++b),<- e,FI,List.foldl_cons]
section
variable {X:Cx} {pins:List (Addr×Obj)} {σ:St} {H:Hp} {s:Shared} {l b:Addr} {xs ys zs:List V}
theorem Inv.lset {a its':List Value} {n:Nat} {f:Array Value->Array Value} {t':Nat} (I:Inv X pins σ H s) (c:H l=some (.lst xs))
  (e:s.heap.get? l=some { cls:=.type "list",data:=.seq a.toArray n }) (b:f a.toArray=its'.toArray) (g:Vals ys its') (hz:ys.length<=sizeLine) :
  Inv X pins σ (upd H l (.lst ys)) { s with heap:=s.heap.update l (Obj.mapSeq f),toks:=t' }:=by
 have q:=PySem.IsL.update e f;rw [b] at q;refine I.write (by rw [c];exact trivial) (.inl rfl) (λi u d h=>(Fs s.heap (Obj.mapSeq f) (Ne.symm d)).trans h) ⟨_,q⟩ ?_;exact ⟨hz,its',_,g,q⟩
theorem Inv.lnew (I:Inv X pins σ H s) (a:Vals ys its) (hz:ys.length<=sizeLine) :
  Inv X pins σ (upd H s.heap.objs.size (.lst ys)) { s with heap:=s.heap.push { cls:=.type "list",data:=.seq its.toArray },toks:=t' }:=
 I.laid (λ_ _ q=>Dq _ q) (Dz _) ⟨hz,its,0,a,Du _ rfl⟩
theorem Inv.fresh (I:Inv X pins σ H s):H s.heap.objs.size=none:=I.hok.fresh (Dz _)
theorem Inv.lstM (I:Inv X pins σ H s) (b:H l=some (.lst xs)):xs.length<=sizeLine/\∃ (a:List Value) (n:Nat),Vals xs a/\xs.length=a.length/\s.heap.get? l=some { cls:=.type "list",data:=.seq a.toArray n }:=by
 obtain ⟨z,a,n,r,e⟩:=I.hok l _ b;exact ⟨z,a,n,r,r.length,e⟩
theorem eM (h:n<=sizeLine):Builtin.List.listTooLong n=false:=by
 unfold Builtin.List.listTooLong;grind
end
section
variable {X:Cx}
def rAppend:V->List V->Hp->VK->Prop:=λx vs H Q=>∃ l xs y,x=.ref l/\vs=[y]/\H l=some (.lst xs)/\xs.length<sizeLine/\Q .non (upd H l (.lst (xs++[y])))
theorem B5:MtM X "list.append" rAppend:=by
 intro pins s σ H x vs v us Q I d f h;obtain ⟨l,xs,y,rfl,rfl,b,hz,q⟩:=h;cases d;obtain ⟨u,rfl,c⟩:=f.one;obtain ⟨z,a,n,r,g,e⟩:=I.lstM b;refine Gz F.slot_list_append ⟨_,e,rfl⟩ F.entry_list_append (F.args_list_append_2 _ _) (PySem.list_append l a.toArray n u (by rw [Dy];omega)) ⟨e,?_⟩;refine ⟨.non,_,I.lset b e (by simp) (r.append (.cons c .nil)) ?_,rfl,q⟩;grind
def rCat:R2:=λx y H Q=>∃ l b xs a,x=.ref l/\y=.ref b/\H l=some (.lst xs)/\H b=some (.lst a)/\xs.length+a.length<=sizeLine/\∀ p,H p=none->Q (.ref p) (upd H p (.lst (xs++a)))
theorem yP:OpR X (binaryOp .Add) rCat:=by
 intro pins s σ H x y v u Q I m k h;obtain ⟨l,b,xs,A,rfl,rfl,o,g,hz,q⟩:=h;cases m;cases k;obtain ⟨z,c,n,r,t,e⟩:=I.lstM o;obtain ⟨p,a,w,f,j,i⟩:=I.lstM g;refine PySem.P.add_list e i ?_ (by rw [Dy,Dy];omega);have d:c.toArray++a.toArray=(c++a).toArray:=by simp
 rw [d];exact ⟨.ref _,_,I.lnew (r.append f) (by rw [Es];omega),rfl,q _ I.fresh⟩
def rRep:R2:=λx y H Q=>∃ l k xs,x=.ref l/\y=.int k/\H l=some (.lst xs)/\-(2 ^ 63)<=k/\k<2 ^ 63/\xs.length * k.toNat<=sizeLine /\
 ∀ p,H p=none->Q (.ref p) (upd H p (.lst (List.replicate k.toNat xs).flatten))
theorem jb {a:Type} (xs:List a) (k:Nat):(List.replicate k xs).flatten.length=k * xs.length:=by simp_all
theorem yb:OpR X (binaryOp .Mult) rRep:=by
 intro pins s σ H x y v u Q I rx ry h;obtain ⟨l,k,xs,rfl,rfl,hH,h1,h2,hz,q⟩:=h;cases rx;obtain ⟨t,rfl⟩:=ry;obtain ⟨z,its,n,r,hl,e⟩:=I.lstM hH;have hlen:its.toArray.size * k.toNat<=sizeLine:=by rw [Dy,<- hl];exact hz
 have hcap:¬ its.toArray.size * k.toNat > (2 ^ 63-1) / 8:=by
  have:(sizeLine:Nat)<=(2 ^ 63-1) / 8:=by decide
  omega
 have hfit:¬ (!Builtin.List.listFitsIndex k)=true:=by
  rw [fitsIndex_both h1 h2];exact Ec
 have hlong:¬ Builtin.List.listTooLong (its.toArray.size * k.toNat)=true:=by
  rw [eM hlen];exact Ec
 have hnew:List.foldl (λx1 x2=>x1++x2) #[] (List.replicate (if its.toArray.isEmpty=true then 0 else k.toNat) its.toArray)=(List.replicate k.toNat its).flatten.toArray:=by
  have f0:=λm=>by
   have:=U2 its m [];rw [Hs] at this;exact this
  rw [f0];cases its with
  | nil=>simp
  | cons a r'=>rw [if_neg (by simp)]
 refine GI (by decide) ⟨_,e,rfl⟩ (λs'=>Hg s' k t) noFill_list_mul F.fills_int_mul F.slot_int_rmul repeat_list F.slot_int_index.lookup
  (Gz F.slot_int_rmul (Hg s k t) F.entry_int_rmul (F.args_int_rmul_2 _ _) (int___rmul___int_list k t l its.toArray n)
   ⟨e,rfl,⟨_,e,rfl⟩,Gz F.slot_list_mul ⟨_,e,rfl⟩ F.entry_list_mul (F.args_list_mul_2 _ _) (AutoListH.list___mul___list_int_3 l its.toArray n k t hfit hcap hlong) ⟨e,?_⟩⟩)
 rw [hnew];exact ⟨.ref _,_,I.lnew (r.rep k.toNat) (by rw [jb,Nat.mul_comm];exact hz),rfl,q _ I.fresh⟩
end
section
variable {κ:Type} [DecidableEq κ]
def X5 (a:List (κ×V)) (k:κ):Option V:=(a.find? λb=>decide (b.1=k)).map (·.2)
def E6 (a:List (κ×V)) (k:κ) (v:V):List (κ×V):=
 if (a.any λb=>decide (b.1=k))=true then a.map (λb=>if b.1=k then (b.1,v) else b) else a++[(k,v)]
theorem P1 {k:κ} (e:p.1=k):X5 (p :: r) k=some p.2:=by simp [X5,FT,e]
theorem O9 {k:κ} (e:¬ p.1=k):X5 (p :: r) k=X5 r k:=by simp [X5,FT,e]
theorem ek (k:κ):∀ a:List (κ×V),(a.any λb=>decide (b.1=k))=(X5 a k).isSome
 | []=>rfl
 | p :: r=>by
  rw [GP];by_cases e:p.1=k
  ·simp only [P1 e,EE e,Bool.true_or,Option.isSome_some]
  ·rw [O9 e,ES e,Bool.false_or];exact ek k r
theorem V7 (a:List (κ×V)) (k:κ) (v:V):(E6 a k v).length<=a.length+1:=by
 unfold E6;grind
theorem RelO.isSome_eq (r:RelO o u):o.isSome=u.isSome:=by
 cases o with
 | none=>cases u with
  | none=>rfl
  | some _=>exact (r).elim
 | some _=>cases u with
  | none=>exact (r).elim
  | some _=>rfl
theorem KV.val (r:KV kvs vs) (k:κ):RelO (X5 kvs k) (valueAt vs k):=by
 induction r with
 | nil=>exact True.intro
 | @cons p q ps a h t g=>
  obtain ⟨d,f⟩:=h;by_cases e:p.1=k
  ·have c:=d.symm.trans e;have b:valueAt (q :: a) k=some q.2:=by simp [valueAt,FT,c]
   rw [P1 e,b];exact f
  ·have c:¬ q.1=k:=λz=>e (d.trans z);have b:valueAt (q :: a) k=valueAt a k:=by simp [valueAt,FT,c]
   rw [O9 e,b];exact g
theorem KV.any {kvs:List (κ×V)} {vs:List (κ×Value)} (r:KV kvs vs) (k:κ):(kvs.any λkv=>decide (kv.1=k))=vs.any λkv=>decide (kv.1=k):=by
 unfold KV at r;induction r with
 | nil=>rfl
 | cons h t ih=>rw [GP,GP,ih,h.1]
theorem KV.repl {kvs:List (κ×V)} {vs:List (κ×Value)} (r:KV kvs vs) (k:κ) {y:V} {u:Value} (ry:RelV y u) :
  KV (kvs.map λkv=>if kv.1=k then (kv.1,y) else kv) (vs.map λkv=>if kv.1=k then (kv.1,u) else kv):=by
 unfold KV at r ⊢;induction r with
 | nil=>exact .nil
 | @cons p q ps qs h t ih=>
  rw [EG,EG];refine .cons ?_ ih;obtain ⟨h1,h2⟩:=h;by_cases e:p.1=k
  ·rw [if_pos e,if_pos (h1.symm.trans e)];exact ⟨h1,ry⟩
  ·rw [if_neg e,if_neg (λz=>e (h1.trans z))];exact ⟨h1,h2⟩
theorem KV.put (r:KV kvs vs) (k:κ) {y:V} {u:Value} (a:RelV y u):KV (E6 kvs k y) (stored vs k u):=by
 unfold E6 stored;rw [r.any k];by_cases e:(vs.any λb=>decide (b.1=k))=true
 ·rw [if_pos e,if_pos e];exact r.repl k a
 ·rw [if_neg e,if_neg e];exact Paired.snoc r ⟨rfl,a⟩
theorem KV.length {vs:List (κ×Value)} (r:KV kvs vs):kvs.length=vs.length:=Paired.length r
end
theorem nL {k:Key} {u:Value} (r:RelV (kV k) u):(q5 P w).is k u=true:=by
 cases k with
 | inl i=>obtain ⟨t,e⟩:=(r);subst e;exact dn P w i t
 | inr x=>obtain ⟨t,e⟩:=(r);subst e;exact eH P w x t
theorem bG:∀ {a:List Key} {us:List Value},Vals (a.map kV) us->ItemsAre (q5 P w) a us
 | [],_,r=>by rw [List.map_nil] at r;cases r;exact .nil
 | k :: a,_,r=>by
  rw [EG] at r;cases r with
  | cons h t=>exact .cons (nL h) (bG t)
abbrev KT (H:Hp):List (List Key×V)->List (List Key×Addr×Value)->Prop:=Paired λp q=>p.1=q.1/\H q.2.1=some (.tup (p.1.map kV))/\RelV p.2 q.2.2
theorem KT.val (r:KT H kvs xs) (k:List Key):RelO (X5 kvs k) ((atKey xs k).map (·.2)):=by
 induction r with
 | nil=>exact True.intro
 | @cons p q ps a h t g=>
  obtain ⟨d,_,f⟩:=h;by_cases e:p.1=k
  ·have c:=d.symm.trans e;have b:atKey (q :: a) k=some q.2:=by simp [atKey,FT,c]
   rw [P1 e,b];exact f
  ·have c:¬ q.1=k:=λz=>e (d.trans z);have b:atKey (q :: a) k=atKey a k:=by simp [atKey,FT,c]
   rw [O9 e,b];exact g
theorem KT.repl {H:Hp} {kvs:List (List Key×V)} {xs:List (List Key×Addr×Value)} (r:KT H kvs xs) (k:List Key) {y:V} {u:Value} (ry:RelV y u) :
  KT H (kvs.map λkv=>if kv.1=k then (kv.1,y) else kv) (xs.map (putAt k u)):=by
 induction r with
 | nil=>exact .nil
 | @cons p q ps qs h t ih=>
  rw [EG,EG];refine .cons ?_ ih;obtain ⟨h1,h2,h3⟩:=h;unfold putAt;by_cases e:p.1=k
  ·rw [if_pos e,if_pos (h1.symm.trans e)];exact ⟨h1,h2,ry⟩
  ·rw [if_neg e,if_neg (λz=>e (h1.trans z))];exact ⟨h1,h2,h3⟩
theorem KT.put (r:KT H kvs xs) (k:List Key) {b:Addr} {y:V} {u:Value} (c:H b=some (.tup (k.map kV))) (a:RelV y u) :
  KT H (E6 kvs k y) (storedH xs k b u):=by
 have e:(kvs.any λd=>decide (d.1=k))=(atKey xs k).isSome:=by
  rw [ek,(r.val k).isSome_eq,Option.isSome_map]
 unfold E6 storedH;rw [e];by_cases q:(atKey xs k).isSome=true
 ·rw [if_pos q,if_pos q];exact r.repl k a
 ·rw [if_neg q,if_neg q];exact Paired.snoc r ⟨rfl,c,a⟩
theorem KT.keeps {a:List (List Key×V)} {xs:List (List Key×Addr×Value)} (r:KT H a xs) (c:∀ b ys,H b=some (.tup ys)->H' b=some (.tup ys)):KT H' a xs:=
 Paired.mapP r λ_ _ z=>⟨z.1,c _ _ z.2.1,z.2.2⟩
section
variable {P:Program} {w:World} {H:Hp} {h:Heap} {a:Addr}
theorem vg (b:HOk P w H h) (e:Rd H a u):ObjOk P w H h a u:=e.ok b
theorem iN (b:HOk P w H h) (e:Rd H a (.dK kvs)):kvs.length<=sizeLine/\(a==sysModules)=false/\∃ vs,KV kvs vs/\h.DictOf (q5 P w) a vs:=
 vg b e
theorem zS (b:HOk P w H h) (e:H a=some (.dK kvs)):kvs.length<=sizeLine/\(a==sysModules)=false/\∃ vs,KV kvs vs/\h.DictOf (q5 P w) a vs:=iN b (.inl e)
theorem gF (g:HOk P w H h) (e:H a=some (.tup (ks.map kV))):(tupleKind (q5 P w)).is h ks a:=by
 obtain ⟨_,b,r,o,c,d,n,f⟩:=(g a _ e);exact ⟨o,b.toArray,n,c,d,f.1,by simpa using bG r⟩
theorem pJ {kvs:List (List Key×V)} (ok:HOk P w H h) (e:Rd H a (.dT kvs)):kvs.length<=sizeLine/\(a==sysModules)=false /\
  ∃ xs,KT H kvs xs/\h.DictOfH (tupleKind (q5 P w)) a xs:=by
 obtain ⟨z,y,xs,r,o,es,ep,h1,h2,h3,h4,h5⟩:=(show ObjOk P w H h a (.dT kvs) from vg ok e);refine ⟨z,y,xs,r,o,es,ep,h1,h2,h3,h4,λx hx=>?_,h5⟩;have all:∀ {l:List (List Key×V)} {m:List (List Key×Addr×Value)},KT H l m->∀ x∈m,(tupleKind (q5 P w)).is h x.1 x.2.1:=by
  intro l m q;induction q with
  | nil=>intro x hx;exact nomatch hx
  | @cons p q ps qs hq t ih=>
   intro x hx;rcases Ea.mp hx with e | hx
   ·subst e;exact gF ok (by rw [<- hq.1];exact hq.2.1)
   ·exact ih x hx
 exact all r x hx
theorem AA (b:HOk P w H h) (e:H a=some (.dT kvs)):kvs.length<=sizeLine/\(a==sysModules)=false /\
  ∃ xs,KT H kvs xs/\h.DictOfH (tupleKind (q5 P w)) a xs:=pJ b (.inl e)
end
def DGet (H:Hp) (a:Addr) (y:V) (r:Option V):Prop:=
 (∃ c k,Rd H a (.dK c)/\y=kV k/\r=X5 c k)\/∃ c k b,Rd H a (.dT c)/\y=.ref b/\H b=some (.tup (k.map kV))/\r=X5 c k
def DPut (H:Hp) (a:Addr) (y v:V) (H':Hp):Prop:=
 (∃ c k,H a=some (.dK c)/\y=kV k/\c.length<sizeLine/\H'=upd H a (.dK (E6 c k v))) \/
 ∃ c k b,H a=some (.dT c)/\y=.ref b/\H b=some (.tup (k.map kV))/\c.length<sizeLine/\H'=upd H a (.dT (E6 c k v))
theorem DGet.k {k:Key} (e:H a=some (.dK kvs)):DGet H a (kV k) (X5 kvs k):=.inl ⟨kvs,k,.inl e,rfl,rfl⟩
theorem DPut.k {k:Key} {v:V} (e:H a=some (.dK kvs)) (b:kvs.length<sizeLine):DPut H a (kV k) v (upd H a (.dK (E6 kvs k v))):=.inl ⟨kvs,k,e,rfl,b,rfl⟩
section
variable {X:Cx} {pins:List (Addr×Obj)} {σ:St} {H:Hp} {s:Shared} {a:Addr} {y v:V} {u r:Value} {o:Option V} {A:Around} {E:Value->Shared->Prop}
theorem kG (t:A.units+1<cLine) (I:Inv X pins σ H s) (g:DGet H a y (some v)) (o:RelV y u) (h:∀ w' s',Inv X pins σ H s'->RelV v w'->Q w' s') :
  wpAny (model X.prog X.w) A (getItem (.ref a) u) Q E s:=by
 rcases g with ⟨n,k,e,i,l⟩ | ⟨n,k,b,e,i,q,l⟩
 ·subst i;obtain ⟨z,hd,vs,d,f⟩:=iN I.hok e;obtain ⟨w',m,c⟩:=RelO.some_of (by rw [l];exact d.val k);exact wpAny_getItem_of (nL o) f.mapOf m (h w' _ (I.tok _) c)
 ·subst i;cases (o);obtain ⟨z,hd,xs,d,f⟩:=pJ I.hok e;obtain ⟨w',m,c⟩:=RelO.some_of (by rw [l];exact d.val k);obtain ⟨p,r,j⟩:=Gk.mp m;refine wpAny_getItem_heap (tupleKind_room_in1 t) (gF I.hok q) f r ?_;rw [j];exact h w' _ (I.tok _) c
theorem jF {ob:HO} (I:Inv X pins σ H s) (e:Mut (H a)) (hs:Heap.SameBut a s.heap h') (d:∃ q,h'.get? a=some q) (c:ObjOk X.prog X.w (upd H a ob) h' a ob) :
  Inv X pins σ (upd H a ob) { s with heap:=h',toks:=t' }:=
 I.write e (.inl rfl) (λb q f z=>(hs.2 b f).trans z) d c
theorem xp {b:List (Key×V)} {vs:List (Key×Value)} (z:b.length<=sizeLine) (hd:(a==sysModules)=false) (c:KV b vs) (d:h'.DictOf (q5 P w) a vs) :
  ObjOk P w H' h' a (.dK b):=⟨z,hd,vs,c,d⟩
theorem jw (L:A.units+1<cLine) (I:Inv X pins σ H s) (g:DPut H a y v H') (w:RelV y u) (B:RelV v r) (h:∀ s',Inv X pins σ H' s'->Q () s') :
  wpAny (model X.prog X.w) A (setItem (.ref a) u r) Q E s:=by
 rcases g with ⟨d,k,e,p,l,n⟩ | ⟨d,k,b,e,p,t,l,n⟩
 ·subst p n;obtain ⟨z,hd,vs,f,o⟩:=zS I.hok e;have hz:vs.length<=sizeLine:=by rw [<- f.length];exact z
  have m:(E6 d k v).length<=sizeLine:=by have:=V7 d k v;omega
  refine wpAny_setItem_pairs (nL w) o λh' i hs=>h _ ?_;have D:∃ q,h'.get? a=some q:=let ⟨q,_,_,j,_⟩:=i;⟨q,j⟩
  exact jF I (by rw [e];exact True.intro) hs D (xp m hd (f.put k B) i)
 ·subst p n;cases (w);obtain ⟨z,hd,xs,f,o⟩:=AA I.hok e;have hz:xs.length<=sizeLine:=by rw [<- Paired.length f];exact z
  have m:(E6 d k v).length<=sizeLine:=by have:=V7 d k v;omega
  refine wpAny_setItem_heap (tupleKind_room_in1 L) (gF I.hok t) o λh' i hs=>h _ ?_;obtain ⟨q,es,F,j,J,K,C,_,G⟩:=i;refine jF I (by rw [e];exact True.intro) hs ⟨q,j⟩ ⟨m,hd,_,(f.put k t B).keeps λc ys x=>?_,q,es,F,j,J,K,C,G⟩;rw [a8 (vY x e (λz=>nomatch z))];exact x
end
section
variable {X:Cx} {pins:List (Addr×Obj)} {σ:St} {H:Hp} {s:Shared} {a:Addr} {kvs:List (Key×V)} {k:Key} {u:Value} {A:Around} {E:Value->Shared->Prop}
theorem Ab (I:Inv X pins σ H s) (e:Rd H a (.dK kvs)) (h:∀ t s',Inv X pins σ H s'->Q (.int kvs.length t) s'):wpAny (model X.prog X.w) A (call (.builtin "len") [.ref a]) Q E s:=by
 obtain ⟨z,hd,vs,b,c⟩:=iN I.hok e;refine call_len_dict hd c (by rw [<- b.length];rw [Ew] at z;omega) ?_;rw [<- b.length];exact h _ _ (I.tok _)
end
theorem fH {σ:St} {H:Hp} {s:Shared} {a:Addr} {y:V} {o:Option V} (I:Inv X pins σ H s) (g:DGet H a y o):s.TypeIs (.ref a) "dict":=by
 rcases g with ⟨d,k,e,_,_⟩ | ⟨d,k,b,e,_,_,_⟩
 ·obtain ⟨_,_,vs,_,c⟩:=iN I.hok e;exact c.typeIs
 ·obtain ⟨_,_,xs,_,c⟩:=pJ I.hok e;exact c.typeIs
end L2
namespace Att
open PySem PySem.W PySem.Calls PyProof.Rows
theorem X4:∀ (ns:List Int) (vs:List Value),WellAll P h vs (ns.map WData.int)->IntsAre vs ns:=by
 intro ns;induction ns with
 | nil=>
  intro vs w;rw [List.map_nil] at w;cases w;exact .nil
 | cons n ns c=>
  intro vs w;rw [EG] at w;cases w with
  | cons a b=>
   cases a;exact .cons _ _ (c _ b)
theorem kA {l:OpenLaw} {n:Nat} (hn:l.most=some n) {P:Params} {h:Heap} {args:List WData} {vals:List Value}
  (hpre:l.row.toRowW.claim.pre args=true) (hwl:WellAll P h vals args) :
  ∃ a vs ns,vals=[Value.ref a]/\args=[WData.list (ns.map WData.int)]/\h.get? a=some { cls:=.type "list",data:=.seq vs.toArray }/\IntsAre vs ns/\ns.length<=n:=by
 have hsh:=(pre_splitW hpre).1;have hc:=(pre_splitW hpre).2;obtain ⟨d,r,rfl,h1,h2⟩:=hasAllW_cons hsh;obtain rfl:=hasAllW_nil h2;obtain ⟨xs,rfl,h3⟩:=hasW_list h1;obtain ⟨ns,rfl⟩:=items_int h3;have hlen:ns.length<=n:=by
  have h4:(WTm.not (.lt (.lit (.int (n:Int))) (.len (.arg 0)))).holds [] { args:=[.list (ns.map .int)] }=true:=by
   have h4:=(holds_andW hc).1;rw [hn] at h4;exact h4
  have h5:=condW_of h4 (w_not (w_lt w_lit (w_len_list (w_arg rfl))));rw [Dr] at h5;refine GE λq=>?_;have q':(n:Int)<((ns.length:Nat):Int):=by omega
  first
   | (rw [EE q'] at h5;exact absurd h5 (by decide))
   | (simp at h5;omega)
 cases hwl with
 | cons w1 w2=>
  cases w2;cases w1 with
  | list ho hall=>exact ⟨_,_,ns,rfl,rfl,ho,X4 ns _ hall,hlen⟩
theorem lA (l:OpenLaw) (a:List WData):l.row.toRowW.claim.post a (.bool true) a=true:=
 postW_of
  (show WShape.has [] (.bool true) .bool=true by first | rfl | decide | simp [WShape.has,WShape.arms,WShape.armsAll])
  (w_eq_bool (w_res rfl) w_lit) rfl
theorem attach_call {l:OpenLaw} {n:Nat} {q:Program} {e:List Str} {H:(Str->Option Value)->Heap->Prop} {D:World->Heap->Prop} {d:DefRec}
  (M:l.most=some n) (z:d.params.defaults=[])
  (k:∀ (w:World) (c b:Shared) (s A:Str->Option Value) (m:Addr) (o:Obj) (x t g:Value) (a:Addr) (vs:List Value) (ns:List Int),
   Ground q e [] H w c s A b.heap->D w b.heap ->
   b.heap.get? m=some o->o.data=.func (docDef d.name d.params d.body d.scope x t g)->b.heap.CodeRec t d.name->s d.name=some (.ref m) ->
   b.heap.get? a=some { cls:=.type "list",data:=.seq vs.toArray }->IntsAre vs ns->ns.length<=n->b.gens=#[] ->
   codeAny (model l.prog w) callerA (.call (.ref m) ⟨[.ref a],[]⟩) (λr s'=>r=.ok (.ret (.bool true))/\OldK b.heap s'.heap/\s'.os=b.os/\AllBare s'.gens) b) :
  WalkO q e H D l.row.toRowW d [] (λf vs=>PySem.call f vs):=by
 intro w c b s A G Y m o x t g L I Q hd y B v S E C U j F P u K;obtain rfl:L=.none:=Dflts.none B z;obtain rfl:I=.none:=Dflts.noKw B;obtain ⟨a,vs,ns,rfl,rfl,i,h,p⟩:=kA M j u;refine enter_call (Ff (k w c b s A m o x t g a vs ns G Y Q (fd_plain hd) y v i h p S) λr s' R=>?_);obtain ⟨rfl,N,T,J⟩:=R;exact ⟨.inl ⟨.bool true,.bool true,[],rfl,λ_=>rfl,.bool true,lA l _,λ_=>⟨List.Pairwise.nil,λ_ O=>(nomatch O)⟩⟩,N,T,J⟩
end Att
namespace L2
open PySem PySem.Spec PyProof.Rows
theorem vals_ints:∀ {vs:List Value} {ns:List Int},IntsAre vs ns->Vals (ns.map V.int) vs
 | _,_,.nil=>.nil
 | _,_,.cons n t h=>.cons ⟨t,rfl⟩ (vals_ints h)
def M0 (s:Stmt) (j:Nat):Stmt:=match s with
 | .ClassDef _ _ _ body _ _ _ _ _ _ _=>body.getD j (.Pass ⟨0,0,0,0⟩)
 | _=>.Pass ⟨0,0,0,0⟩
def m8 (s:Stmt):Arguments:=match s with
 | .FunctionDef _ a _ _ _ _ _ _ _ _=>a
 | _=>{ posonlyargs:=[],args:=[],vararg:=none,kwonlyargs:=[],kw_defaults:=[],kwarg:=none,defaults:=[] }
def i9 (s:Stmt):List Stmt:=match s with
 | .FunctionDef _ _ b _ _ _ _ _ _ _=>b
 | _=>[]
def c8 (s:Stmt):Scope:=match s with
 | .FunctionDef _ _ _ _ _ _ a _ _ _=>a
 | _=>{ kind:=.function,names:=[],isGenerator:=false,isCoroutine:=false }
abbrev CX0:CXT:=⟨λ_ _ _ _ _ _=>False,false⟩
abbrev E0:XK:=λ_ _ _=>False
theorem W3:A8 CX0 X E0:=λ_ _ _ _ _ _ _ h=>False.elim h
structure Fun (K:PySem.W.Frag) (x qual:Str) (st:Stmt) (f:Addr) (fd:FuncData):Prop where
 ex:∃ (oc:Value) (od:Option Addr) (kV doc pm:Value) (an:Option Addr) (cdv ct:Value) (osl:Array (Option Value)),
  fd=PySem.W.fnOf x qual (m8 st) (i9 st) (c8 st) .none kV doc pm an cdv ct/\K.lookup f=some ⟨oc,od,.func fd,osl⟩/\PySem.W.codeIn K cdv qual=true
 kp:PySem.W.keepIn K (.ref f)=true
section
variable {P:Program} {w:World} {K:PySem.W.Frag} {mg:Str->Option Value} {base:Heap}
theorem Fun.ok {st:Stmt} {f:Addr} {fd:FuncData} {N ps:List Str} {k:Nat} {sp:Sp} (F:Fun K x qual st f fd) (S:FnScope N ps (c8 st)) (e:∀ vs H Q E,sp vs H Q E->vs.length=ps.length)
  (c:∀ (b:Value) (A:Around) (a:List Env) (s:Shared) (H:Hp) (vs:List V) (Q:VK) (E:XK),Room false k (A.deeper (envOfC qual (c8 st) s.heap.objs.size f b))->sp vs H Q E ->
   ∃ t,PSs (X0 CX0 P w K mg base N qual (c8 st) f b A a s H E).nox (i9 st) t/\t { nx:=λ_ H'=>Q .non H',rt:=Q } (start N vs) H):FnOk P w K mg base CX0 (k+1) f fd ps sp:=by
 obtain ⟨n,od,r,i,p,u,b,o,m,rfl,j,g⟩:=F.ex;refine vq j g S e λA a s H vs Q E l d=>?_;obtain ⟨t,h,q⟩:=c b A a s H vs Q E l d;exact ⟨t,h.nox,q⟩
theorem Fun.binds {st:Stmt} {f:Addr} {fd:FuncData} {ps:List Str} (F:Fun K x qual st f fd)
  (h:∀ (e b c:Value) (g:Option Addr) (a d:Value) (us:List Value),us.length=ps.length->bindArgs (PySem.W.fnOf x qual (m8 st) (i9 st) (c8 st) .none e b c g a d) ⟨us,[]⟩=pure (ps.zip us)):Binds K fd ps []:=by
 obtain ⟨k,od,e,b,c,g,a,d,j,rfl,l,i⟩:=F.ex;exact .all (h e b c g a d)
theorem L1 {st:Stmt} {f:Addr} {j:Value} {od h:Option Addr} {d:Array (Option Value)} {i b e a g:Value} (l:K.lookup f=some ⟨j,od,.func (PySem.W.fnOf x qual (m8 st) (i9 st) (c8 st) .none i b e h a g),d⟩)
  (c:PySem.W.codeIn K a qual=true) (k:PySem.W.keepIn K (.ref f)=true):Fun K x qual st f (PySem.W.fnOf x qual (m8 st) (i9 st) (c8 st) .none i b e h a g):=⟨⟨j,od,i,b,e,h,a,g,d,rfl,l,c⟩,k⟩
end
theorem yx {k:Nat} (a:Room q k A):A.units+1<cLine:=HH (Nat.add_le_add_left (by decide:1<=64) _) a.units
section
variable {X:Cx}
theorem pv (i:Nat) {x:Str} {pos:Pos} (c:X.N[i]?=some x:=by rfl) (b:Vis X.env.scope x:=by first | exact Or.inl rfl | exact Or.inr (Or.inl rfl) | exact Or.inr (Or.inr rfl)) (hd:(x==("__debug__" : Str))=false:=by decide)
  (a:(x==("__classdict__" : Str))=false:=by decide):PE X (.Name x pos) (xg i):=fh c b hd a
theorem jo:k8 X (.builtin "len") (λxs H Q=>∃ a b,xs=[V.ref a]/\H a=some (.dK b)/\Q (.int b.length) H):=by
 intro pins s σ H xs us Q I r h;obtain ⟨a,b,rfl,d,q⟩:=h;obtain ⟨u,rfl,e⟩:=P8 r;cases e;exact Ab I (.inl d) λt s' c=>⟨.int b.length,H,c,⟨t,rfl⟩,q⟩
end
theorem kc {A B:Prop} (h:A):if true=true then A else B:=by grind
def Same (H H':Hp):Prop:=∀ b o,H b=some o->H' b=some o
theorem Same.seq {K:PySem.W.Frag} {H H':Hp} {a:Addr} {xs:List V} (e:Same H H') (h:SqL K H a xs):SqL K H' a xs:=by
 rcases h with (h | ⟨o,h⟩) | h
 ·exact .inl (.inl (e _ _ h))
 ·exact .inl (.inr ⟨o,e _ _ h⟩)
 ·exact .inr h
theorem aJ {b a:Type} (g:a->b->a) {f:b->a->Sem (ForInStep a)}:∀ (l:List b) (c:a),(∀ x∈l,∀ c,f x c=pure (.yield (g c x)))->forIn l c f=pure (l.foldl g c)
 | [],_,_=>rfl
 | x :: l,c,h=>by
  rw [FU,h x Ei,pure_bind];exact aJ g l (g c x) λy d=>h y (Ed _ d)
def o0 (cells:List (Str×Addr)) (a:List (Str×Addr)) (x:Str×NameKind):List (Str×Addr):=if x.2=NameKind.free then (x.1,(cells.lookup x.1).getD 0) :: a else a
def E2 (cells:List (Str×Addr)) (a:List (Str×NameKind)):List (Str×Addr):=a.foldl (o0 cells) []
theorem u4 (h:∀ x∈scope.names,x.2=NameKind.free->∃ c,env.cells.lookup x.1=some c):closureFor scope env=pure (E2 env.cells scope.names):=by
 simp only [closureFor];rw [aJ (o0 env.cells) scope.names [] (λx e c=>by
  obtain ⟨n,k⟩:=x;by_cases b:k=NameKind.free
  ·subst b;obtain ⟨a,d⟩:=h _ e rfl;simp [cellOf,o0,d]
  ·have:(k==NameKind.free)=false:=by simpa using b
   simp [o0,b,this])]
 rfl
theorem N9:∀ (b:List (Str×NameKind)) (f:List (Str×Addr)),(∀ x∈b,x.2=NameKind.free->∃ c,cells.lookup x.1=some c)->(∀ x c,f.lookup x=some c->cells.lookup x=some c) ->
  ∀ x c,(b.foldl (o0 cells) f).lookup x=some c->cells.lookup x=some c
 | [],_,_,g,x,c,e=>g x c e
 | y :: r,f,h,g,x,c,e=>by
  refine N9 r (o0 cells f y) (λz hz=>h z (Ed _ hz)) (λz d q=>?_) x c e;unfold o0 at q;split at q
  ·rename_i i;obtain ⟨a,j⟩:=h y Ei i;rw [Gh] at q;split at q
   ·grind
   ·exact g z d q
  ·exact g z d q
theorem aK:∀ (b:List (Str×NameKind)) (a:List (Str×Addr)) (x:Str),(a.lookup x).isSome=true->((b.foldl (o0 cells) a).lookup x).isSome=true
 | [],_,_,h=>h
 | y :: r,a,x,h=>by
  refine aK r (o0 cells a y) x ?_;unfold o0;split
  ·grind
  ·exact h
theorem aD:∀ (a:List (Str×NameKind)) (b:List (Str×Addr)) (x:Str),(x,NameKind.free)∈a->((a.foldl (o0 cells) b).lookup x).isSome=true
 | [],_,_,h=>nomatch h
 | y :: r,b,x,h=>by
  rcases Ea.mp h with h | h
  ·subst h;refine aK r _ x ?_;simp [o0]
  ·exact aD r _ x h
theorem mem_of_lookup {c d:Type} [BEq c] [LawfulBEq c]:∀ {l:List (c×d)} {x:c} {y:d},l.lookup x=some y->(x,y)∈l
 | [],_,_,h=>by simp at h
 | (a,b) :: r,x,y,h=>by
  rw [Gh] at h;split at h
  ·rename_i e;have:x=a:=by simpa using e
   cases h;subst this;exact Ei
  ·exact Ed _ (mem_of_lookup h)
theorem W0 {f:Str×NameKind->Str×NameKind} (a:∀ y,(f y).1=y.1):∀ (l:List (Str×NameKind)) (x:Str),(l.map f).lookup x=(l.lookup x).map λk=>(f (x,k)).2
 | [],_=>rfl
 | (n,k) :: r,x=>by
  rw [EG,show f (n,k) :: r.map f=((f (n,k)).1,(f (n,k)).2) :: r.map f from rfl,Gh,Gh,a];cases b:x==n with
  | true=>
   have e:x=n:=by simpa using b
   subst e;rfl
  | false=>exact W0 a r x
def rlF (a:Env) (y:Str×NameKind):Str×NameKind:=if (y.2==.free&&a.scope.kind==.function&&a.kindOf y.1==some .cell) then (y.1,.cell) else (y.1,y.2)
theorem rF (a:Env) (y:Str×NameKind):(rlF a y).1=y.1:=by unfold rlF;split <;> rfl
theorem J0 (a:Scope) (b:Env) (x:Str):(relabel a b).names.lookup x=(a.names.lookup x).map λk=>(rlF b (x,k)).2:=W0 (rF b) a.names x
theorem bC {scope:Scope} {env:Env} {x:Str} (h:scope.names.lookup x=some .free):(relabel scope env).names.lookup x=some .cell\/(relabel scope env).names.lookup x=some .free:=by
 rw [J0,h];show some (rlF env (x,.free)).2=_\/some (rlF env (x,.free)).2=_;unfold rlF;split
 ·exact .inl rfl
 ·exact .inr rfl
theorem R8 (h:(relabel scope env).names.lookup x=some k) (d:k=.cell\/k=.free) (b:∀ y∈scope.names,y.2≠NameKind.cell):scope.names.lookup x=some .free:=by
 rw [J0] at h;cases e:scope.names.lookup x with
 | none=>rw [e] at h;cases h
 | some a=>
  rw [e] at h;have h':(rlF env (x,a)).2=k:=EA h;have c:=b (x,a) (mem_of_lookup e);unfold rlF at h';split at h'
  ·grind
  ·grind
theorem HOk.sameBut {a:Addr} (g:HOk P w H h) (f:H a=none) (hs:Heap.SameBut a h h'):HOk P w H h':=λb ob e=>by
 refine (g b ob e).stay (λc w' d q=>(hs.2 c ?_).trans q) (λ_ q=>q) λ_ _ q=>q;rintro rfl;rcases d with rfl | d
 ·rw [f] at e;cases e
 ·rw [f] at d;cases d
theorem Un.sameBut {C:Addr} (u:Un fs ex H H' h h1) (hs:Heap.SameBut C h1 h') (g:h.objs.size<=C):Un fs ex H H' h h':=by
 have d:∀ b o,h.get? b=some o->b≠C:=λb o e=>Dw (Eg (Dv e) g);exact ⟨λb o e n c a=>(hs.2 b (d b o e)).trans (u.keep b o e n c a),λb o e n c a=>let ⟨f,q⟩:=u.slot b o e n c a;⟨f,(hs.2 b (d b o e)).trans q⟩,u.free,
  λb o e a=>let ⟨o',q⟩:=u.there b o e a;⟨o',(hs.2 b (d b o e)).trans q⟩,u.tups,u.frzs,u.tbls⟩
def b7 (X:Cx) (pins:List (Addr×Obj)) (N':List Str) (a:Scope) (C:Addr) (b:List Addr) (s:Shared) (H:Hp):Cx where
 prog:=X.prog
 w:=X.w
 K:=X.K
 mg:=X.mg
 base:=X.base
 A:=X.A
 N:=N'
 s₀:=s
 H₀:=H
 env:=compEnvC a (E2 X.env.cells a.names) C X.env
 outer:=X.stack
 stack:=X.stack
 ex:=b
 fn:=λ_=>false
 calm:=X.calm
 pn:=X.pn++pins
 xe:=λ_ _=>False
structure CompText (N:List Str) (env:Env) (N':List Str) (k:Nat) (caps:List Nat) (scope:Scope):Prop where
 kind:scope.kind=.function
 cell:∀ y∈scope.names,y.2≠NameKind.cell
 loc:∀ y∈scope.names,y.2=NameKind.local->scope.names.lookup y.1=some .local
 free:∀ y∈scope.names,y.2=NameKind.free->scope.names.lookup y.1=some .free/\(env.scope.names.lookup y.1=some .cell\/env.scope.names.lookup y.1=some .free)
 cps:∀ (j i:Nat),caps[j]?=some i->∃ x,N[i]?=some x/\N'[k+j]?=some x/\scope.names.lookup x=some .free
 len:N'.length=k+caps.length
def i6 (caps:List Nat) (σ:St):St:=caps.map λi=>(σ[i]?).join
theorem mo {caps:List Nat} {σ:St} {j:Nat} {v:V} (h:(i6 caps σ)[j]?=some (some v)):∃ i,caps[j]?=some i/\σ[i]?=some (some v):=by
 unfold i6 at h;rw [Eo] at h;cases e:caps[j]? with
 | none=>rw [e] at h;cases h
 | some i=>
  rw [e] at h;refine ⟨i,rfl,?_⟩;have h':(σ[i]?).join=some v:=EA h;cases q:σ[i]? with
  | none=>rw [q] at h';cases h'
  | some o=>rw [q] at h';exact congrArg some h'
section
variable {X:Cx} {pins:List (Addr×Obj)} {σ:St} {H:Hp} {s:Shared} {N':List Str} {k:Nat} {caps:List Nat} {scope:Scope} {fp:List Addr}
theorem qM (T:CompText X.N X.env N' k caps scope) (I:Inv X pins σ H s) (i:∀ b∈fp,E1 X pins H b) {C:Addr} (n:s.heap.objs.size<=C) (j:∀ b∈fp,b<s.heap.objs.size):(b7 X pins N' scope C fp s H).Ok:=by
 have p:∀ x∈scope.names,x.2=NameKind.free->∃ c,X.env.cells.lookup x.1=some c:=λx g q=>I.ok.has x.1 (T.free x g q).2;have f:=N9 scope.names [] p λx c e=>by simp at e
 refine ⟨I.mod,?_,I.ok.glob,I.ok.blt,n,λx y c a b=>I.ok.inj x y c (f x c a) (f y c b),λx g=>?_,λx c m=>(by cases m),I.ok.hd,I.ok.frames,.inl rfl,λb d=>⟨?_,λx c e=>(i b d).2.2.2.2.1 x c (f x c e)⟩,I.bs,?_,λb o e d=>?_,λb d l=>?_,I.stack,I.stkFree⟩
 ·exact T.kind
 ·have h:scope.names.lookup x=some .free:=by
   rcases g with g | g
   ·exact R8 g (.inl rfl) T.cell
   ·exact R8 g (.inr rfl) T.cell
  exact Fj.mp (aD scope.names [] x (mem_of_lookup h))
 ·exact Dw (Eg (j b d) n)
 ·exact EQ I.ok.bsz I.sz
 ·rcases (i b d).2.2.2.1 with z | z
  ·exact I.ok.noex b o e z
  ·exact absurd (Eg (Dv (I.ok.bs b o e).1) z) (FN _)
 ·rcases Ea.mp (I.stkSub b l) with z | z
  ·exact (i b d).2.1 z
  ·exact (i b d).2.2.1 z
theorem B9 (T:CompText X.N X.env N' k caps scope) (I:Inv X pins σ H s) (hf:∀ b∈fp,E1 X pins H b) (hlt:∀ b∈fp,b<s.heap.objs.size) {h':Heap} {m:Str->Option Value} {t:Nat}
  (hn:h'.Ns (s.heap.objs.size+1) m) (hk:∀ b o,s.heap.get? b=some o->h'.get? b=some o) (ha:h'.get? s.heap.objs.size=some { cls:=.type "list",data:=.seq #[] }) :
  Inv (b7 X pins N' scope (s.heap.objs.size+1) fp s H) [] (List.replicate k none++i6 caps σ) (upd H s.heap.objs.size (.lst [])) { s with heap:=h',toks:=t }:=by
 have ok:=qM T I hf (C:=s.heap.objs.size+1) (EU _) hlt;have fr:∀ x∈scope.names,x.2=NameKind.free->∃ c,X.env.cells.lookup x.1=some c:=λx hx hk=>I.ok.has x.1 (T.free x hx hk).2;have snd:∀ x c,(E2 X.env.cells scope.names).lookup x=some c->X.env.cells.lookup x=some c:=N9 scope.names [] fr λx c e=>by simp at e
 have nacc:H s.heap.objs.size=none:=I.hok.fresh (Dz _);have lt:∀ b u,H b=some u->b<s.heap.objs.size:=λb u e=>I.hok.lt e;refine ⟨ok,rfl,I.bare,Un.laid hk (Dz _) nacc,⟨m,hn,λi x v e1 e2 e3=>?_⟩,λx c e=>?_,?_,λx c e=>?_,λp hp=>?_,I.hok.laid hk (Dz _) ⟨Fe _,[],_,.nil,ha⟩,?_⟩
 ·by_cases hi:i<k
  ·rw [EC (by simpa using hi)] at e2;simp [hi] at e2
  ·rw [ED (by simpa using GE hi)] at e2;rw [Gs] at e2;obtain ⟨j,hj,hv⟩:=mo e2;obtain ⟨y,h1,h2,h3⟩:=T.cps _ _ hj;have hik:k+(i-k)=i:=by omega
   rw [hik] at h2;have hxy:y=x:=EA (h2.symm.trans e1);subst hxy;have hvis:=(T.free (y,.free) (mem_of_lookup h3) rfl).2;obtain ⟨mX,hnX,hlX⟩:=I.loc;obtain ⟨u,r,l⟩:=hlX j y v h1 hv (by rcases hvis with z | z;exact .inr (.inl z);exact .inr (.inr z));refine ⟨u,r,?_⟩;rcases l with ⟨hk',_⟩ | ⟨_,c,hc,hcell⟩
   ·have hk'':X.env.scope.names.lookup y=some .local:=hk';rcases hvis with z | z
    ·rw [hk''] at z;cases z
    ·rw [hk''] at z;cases z
   ·obtain ⟨c',hc'⟩:=Fj.mp (aD (cells:=X.env.cells) scope.names [] y (mem_of_lookup h3));have:c'=c:=EA ((snd y c' hc').symm.trans hc);subst this;obtain ⟨oc,ho,hd⟩:=hcell;exact .inr ⟨bC h3,c',hc',oc,hk _ _ ho,hd⟩
 ·obtain ⟨v,oc,ho,hd⟩:=I.cell x c (snd x c e);exact ⟨v,oc,hk _ _ ho,hd⟩
 ·show upd H s.heap.objs.size (.lst []) (s.heap.objs.size+1)=none;rw [a8 (Ir _)];exact I.hok.fresh (EU _)
 ·obtain ⟨v,oc,ho,hd⟩:=I.cell x c (snd x c e);rw [a8 (Dw (Dv ho))];exact I.freeC x c (snd x c e)
 ·have hp':p∈X.pn++pins:=by
   have:p∈(X.pn++pins)++[]:=hp;rwa [EH] at this
  obtain ⟨e,n,ne,nf,d⟩:=I.pin p hp';refine ⟨hk _ _ e,?_,Dw (El (Dv e)),λhb=>?_,d⟩
  ·rw [a8 (Dw (Dv e))];exact n
  ·rcases Ea.mp (I.stkSub p.1 hb) with z | z
   ·exact ne z
   ·exact nf z
 ·show _=N'.length;rw [T.len,Es,Gs];unfold i6;rw [Dr]
end
def PTL (X:Cx) (ifs:List Expr) (t:TT):Prop:=
 ∀ (pins:List (Addr×Obj)) (s:Shared) (σ:St) (H:Hp) (Q:Bool->Hp->Prop),Inv X pins σ H s->t σ H Q ->
  wpAny (model X.prog X.w) X.A (forIn ifs true λc r=>if r=true then do let a <- isTrue c X.env (eval c X.env);pure (ForInStep.yield a) else pure (ForInStep.yield r)) (TP X pins σ Q) X.xe s
def tTrue:TT:=λ_ H Q=>Q true H
theorem sO:PTL X [] tTrue:=λ_ _ _ H _ I h=>by
 rw [HI];exact Dp ⟨H,I,h⟩
theorem sk (h:PT X c t):PTL X [c] t:=λpins s σ H Q I q=>by
 rw [FU];refine Do ?_;rw [if_pos rfl];refine Do (thn (h pins s σ H Q I q) λb s' ⟨H',d,a⟩=>Dp ?_);dsimp only;rw [HI];exact Dp ⟨H',d,a⟩
def pZ (caps:List Nat) (j:TI) (h:TT) (te:TE):TE:=λσ H Q=>j σ H λJ g=>∀ a,g a=none->∃ W:Nat->Nat->List V->Hp->Prop,(∃ m,W 0 m [] (upd g a (.lst []))) /\
 ∀ i m ys c,W i m ys c->c a=some (.lst ys)/\((J.stop i c/\Q (.ref a) c)\/(J.go i c/\∀ x f,J.yld i c x f->h (some x :: i6 caps σ) f λb e=>
  if b=true then te (some x :: i6 caps σ) e λy d=>d a=some (.lst ys)/\ys.length<sizeLine/\∃ m',m'<m/\W (i+1) m' (ys++[y]) (upd d a (.lst (ys++[y])))
  else ∃ m',m'<m/\W (i+1) m' ys e))
theorem w6 {a:Type} {t:Sem a} {Q:a->Shared->Prop} {u:Sem Unit} (c:u=pure ()) (h:wpAny M A u (λ_ b=>wpAny M A t Q E b) E s):wpAny M A t Q E s:=by
 have d:=Do h;grind
theorem c7 {s:Shared} {a:Type} {t:Sem a} {Q:a->Shared->Prop} (h:wpAny M A t Q (λ_ _=>False) s):wpAny M A t Q E s:=Ef h (λ_ _ q=>q) λ_ _ q=>q.elim
theorem qY {O A:Expr} {x:Str} {px:Pos} {ifs:List Expr} {a:Scope} {pos:Pos} {N':List Str} {caps:List Nat} {wi:TI} {tc:TT} {te:TE}
  (T:CompText X.N X.env N' 1 caps a) (hc:X.calm=true) (hN:N'.Nodup) (hx0:N'[0]?=some x) (hxl:a.names.lookup x=some .local) (hi:PI X (.Name x px) A wi)
  (ht:∀ pins C g s H,PTL (b7 X pins N' a C g s H) ifs tc) (he:∀ pins C g s H,PE (b7 X pins N' a C g s H) O te)
  (hs:∀ x,foldedSetIterable A X.env x=pure x:=by intro _;rfl):PE X (.ListComp O [⟨.Name x px,A,ifs,0⟩] a pos) (pZ caps wi tc te):=by
 intro pins s σ H Q I h;have fr:∀ x∈a.names,x.2=NameKind.free->∃ c,X.env.cells.lookup x.1=some c:=λx hx hk=>I.ok.has x.1 (T.free x hx hk).2;rw [IS];refine FE rfl hs (u4 fr) T.kind T.loc ?_;refine thn (hi pins s σ H _ I h) λv s1 h1=>thn h1 λitv f h2=>?_;obtain ⟨it,g,tn,J,E,rfl,I2,G,st2,f2,h2⟩:=h2;obtain ⟨W,⟨m0,w0⟩,turn⟩:=h2 f.heap.objs.size (I2.hok.fresh (Dz _));have hlt:=λb l=>let ⟨o,e,_⟩:=G.obj _ _ st2 b l;Dv e
 refine Ez (FY T.cell (by intro y hy;simp at hy) (λh₁ m k=>?_) T.kind);have hC:(f.heap.push { cls:=.type "list",dict:=none,data:=.seq ([]:List Value).toArray }).objs.size=f.heap.objs.size+1:=EL ..;rw [hC] at m k;have old:=λb o e=>k.extBut b o (Dw (El (Dv e))) (Dq _ (Dq _ e));have hacc:=k.extBut _ _ (Dw (Ek _)) (Dq _ (Du _ rfl));have w:=G.keep _ _ _ st2 λb _ o e=>old b o e;have I3:=B9 (t:=f.toks+([]:List (Str×Value)).length) T I2 f2 hlt m old hacc;have D:∀ {H':Hp},(∀ b∈g,H' b=none)->∀ b∈g,E1 (b7 X pins N' a (f.heap.objs.size+1) g f E) [] H' b:=λhn b l=>by
  refine ⟨hn b l,(I3.ok.exf b l).1,I3.ok.exfs b l,.inl l,(I3.ok.exf b l).2,λp hp=>?_⟩;have hp':p∈X.pn++pins:=by
   have:=hp;rwa [EH] at this
  exact (f2 b l).2.2.2.2.2 p hp'
 have F:∀ s3:Shared,s3={ f with heap:=h₁,toks:=f.toks+([]:List (Str×Value)).length } ->
   codeAny (model X.prog X.w) X.A (.compLoop (.ListComp O [⟨.Name x px,A,ifs,0⟩] a pos) 0 (.ref it) (.ref f.heap.objs.size) (compEnvC a (E2 X.env.cells a.names) (f.heap.objs.size+1) X.env))
    (compPost (model X.prog X.w) X.A X.xe none (EP X pins σ Q) (.ref f.heap.objs.size) (f.heap.objs.size+1)) s3:=by
  rintro s3 rfl;refine codeAny_compLoop_tests (λn s'=>∃ i ys H',Inv (b7 X pins N' a (f.heap.objs.size+1) g f E) [] (none :: i6 caps σ) H' s'/\tn i s'.heap/\(∀ b∈g,H' b=none)/\W i n ys H') ?_ m0
   ⟨0,[],_,I3,w,λb l=>by rw [a8 (Dw (hlt b l))];exact (f2 b l).1,w0⟩ (λ_=>rfl)
  rintro n s4 ⟨i,ys,R,I4,Y,fr4,w4⟩;obtain ⟨hacc4,P⟩:=turn i n ys R w4;refine c7 ?_;rcases P with ⟨stop,q⟩ | ⟨go,step⟩
  ·refine thn (G.done (b7 X pins N' a (f.heap.objs.size+1) g f E) rfl rfl rfl hc i [] s4 _ R (λ_ _=>False) I4 (D fr4) Y stop) λr s5 ⟨hr,V⟩=>?_;subst hr;obtain ⟨m5,hn5,_⟩:=id V.loc;refine ⟨m5,hn5,λh' hs'=>?_⟩;refine ⟨.ref f.heap.objs.size,R,?_,rfl,q⟩;refine I2.call' V.os (Un.sameBut V.base hs' (EU _)) (V.hok.sameBut V.free hs') V.bare λb l=>?_;have:=f2 b l;exact ⟨this.2.2.2.1,this.2.1,this.2.2.2.2.1,this.2.2.2.2.2⟩
  ·refine thn (G.item (b7 X pins N' a (f.heap.objs.size+1) g f E) rfl rfl rfl hc i [] s4 _ R (λ_ _=>False) I4 (D fr4) Y go) λr s5 ⟨u,hr,h5⟩=>?_;subst hr;refine c7 (w6 rfl (thn h5 λ_ s6 ⟨xv,H6,I6,r6,y6,L,fr6⟩=>?_));have I6':=I6.pinned (D fr6) (G.obj _ _ L);refine thn (w9 (X:=b7 X pins N' a (f.heap.objs.size+1) g f E) hN hx0 (.inl (En hxl)) (.inr (En hxl)) _ s6 _ H6 xv u (λσ2 R=>σ2=some xv :: i6 caps σ/\R=H6) I6' r6 ⟨rfl,rfl⟩) λ_ s7 ⟨σ7,H7,I7,e7,e7'⟩=>?_;subst e7 e7';have B:∀ {σ8:St} {S:Hp} {s8:Shared},Inv (b7 X pins N' a (f.heap.objs.size+1) g f E) ([]++f9 g s6.heap) σ8 S s8->tn (i+1) s8.heap/\∀ b∈g,S b=none:=λ{σ8 S s8} N=>by
    refine ⟨G.keep _ _ _ L λb l o e=>(N.pin (b,o) (Dx _ (Dx _ (e8 l e)))).1,λb l=>?_⟩;obtain ⟨o,e,d⟩:=G.obj _ _ L b l;exact (N.pin (b,o) (Dx _ (Dx _ (e8 l e)))).2.1
   refine c7 (thn (ht pins _ g f E _ s7 _ _ _ I7 (step xv _ y6)) λb s8 ⟨S,N,q8⟩=>?_);have wk:∀ {U:Hp} {s9:Shared},Inv (b7 X pins N' a (f.heap.objs.size+1) g f E) ([]++f9 g s6.heap) (some xv :: i6 caps σ) U s9->Inv (b7 X pins N' a (f.heap.objs.size+1) g f E) [] (none :: i6 caps σ) U s9:=λ{U s9} I9=>
    I9.unpinned.weak rfl λj v e=>by
     cases j with
     | zero=>simp at e
     | succ j=>simpa using e
   cases b with
   | false=>
    obtain ⟨m',hm,w'⟩:=q8;exact ⟨m',hm,i+1,ys,S,wk N,(B N).1,(B N).2,w'⟩
   | true=>
    refine c7 (thn (he pins _ g f E _ s8 _ S _ N q8) λz s9 ⟨y,U,I9,r9,M,hl9,m',hm,w'⟩=>?_);refine c7 (thn (B5 _ s9 _ U (.ref f.heap.objs.size) [y] (.ref f.heap.objs.size) [z] (λ_ H'=>H'=upd U f.heap.objs.size (.lst (ys++[y]))) I9 rfl (.cons r9 .nil) ⟨_,ys,y,rfl,rfl,M,hl9,rfl⟩) λ_ s10 ⟨_,H10,K,_,e10⟩=>?_);subst e10;exact ⟨m',hm,i+1,ys++[y],_,wk K,(B K).1,(B K).2,w'⟩
 have Z:=FM (F _ rfl) (G.self _ 0 _ _ _ w (F _ rfl));rw [<- hC] at Z;exact Z
theorem gR {K w:Expr} {x:Str} {px:Pos} {y:Str} {py N:Pos} {iy:Nat} {ifs:List Expr} {f:Scope} {pos:Pos} {N':List Str} {caps:List Nat} {wi:TI} {tc:TT} {te:TE}
  (hsw:swapsWith (.ListComp K [⟨.Name x px,w,ifs,0⟩] f pos) (some (.Name y py)) N.line X.env=pure true) (hNX:X.N.Nodup) (hiy:X.N[iy]?=some y) (hy:Loc X.env.scope y) (hf:X.fn y=true\/X.env.scope.names.lookup y=some .local)
  (T:CompText X.N X.env N' 1 caps f) (hc:X.calm=true) (hN:N'.Nodup) (hx0:N'[0]?=some x) (hxl:f.names.lookup x=some .local) (hi:PI X (.Name x px) w wi)
  (ht:∀ pins C l s H,PTL (b7 X pins N' f C l s H) ifs tc) (he:∀ pins C l s H,PE (b7 X pins N' f C l s H) K te)
  (hs:∀ x,foldedSetIterable w X.env x=pure x:=by intro _;rfl):PS X (.Assign [.Name y py] (.ListComp K [⟨.Name x px,w,ifs,0⟩] f pos) N) (pK (pZ caps wi tc te) (aw iy)):=by
 intro pins s σ H D I h;have fr:∀ x∈f.names,x.2=NameKind.free->∃ c,X.env.cells.lookup x.1=some c:=λx hx hk=>I.ok.has x.1 (T.free x hx hk).2;rw [exec_Assign_Name_used _ _ _ _ hsw];refine Do (EZ (Do ?_));refine Do (Ef (FE rfl hs (u4 fr) T.kind T.loc ?_) (λ_ s' hq=>Dp (Dp hq)) λ_ _ e=>e);refine thn (hi pins s σ H _ I h) λv s1 h1=>thn h1 λitv g h2=>?_;obtain ⟨it,l,tn,J,G,rfl,O,M,st2,f2,h2⟩:=h2;obtain ⟨W,⟨m0,w0⟩,turn⟩:=h2 g.heap.objs.size (O.hok.fresh (Dz _));have hlt:=λb k=>let ⟨o,e,_⟩:=M.obj _ _ st2 b k;Dv e
 refine Ez (FY T.cell (by intro y hy;simp at hy) (λh₁ A m=>?_) T.kind);have hC:(g.heap.push { cls:=.type "list",dict:=none,data:=.seq ([]:List Value).toArray }).objs.size=g.heap.objs.size+1:=EL ..;rw [hC] at A m;have old:=λb o e=>m.extBut b o (Dw (El (Dv e))) (Dq _ (Dq _ e));have hacc:=m.extBut _ _ (Dw (Ek _)) (Dq _ (Du _ rfl));have E:=M.keep _ _ _ st2 λb _ o e=>old b o e;have I3:=B9 (t:=g.toks+([]:List (Str×Value)).length) T O f2 hlt A old hacc;have F:∀ {H':Hp},(∀ b∈l,H' b=none)->∀ b∈l,E1 (b7 X pins N' f (g.heap.objs.size+1) l g G) [] H' b:=λhn b k=>by
  refine ⟨hn b k,(I3.ok.exf b k).1,I3.ok.exfs b k,.inl k,(I3.ok.exf b k).2,λp hp=>?_⟩;have hp':p∈X.pn++pins:=by
   have:=hp;rwa [EH] at this
  exact (f2 b k).2.2.2.2.2 p hp'
 have L:∀ s3:Shared,s3={ g with heap:=h₁,toks:=g.toks+([]:List (Str×Value)).length } ->
   codeAny (model X.prog X.w) X.A (.compLoop (.ListComp K [⟨.Name x px,w,ifs,0⟩] f pos) 0 (.ref it) (.ref g.heap.objs.size) (compEnvC f (E2 X.env.cells f.names) (g.heap.objs.size+1) X.env))
    (compPost (model X.prog X.w) X.A X.xe (some (assign (.Name y py) X.env)) (λ_ s'=>SP X pins D .next s') (.ref g.heap.objs.size) (g.heap.objs.size+1)) s3:=by
  rintro s3 rfl;refine codeAny_compLoop_tests (λn s'=>∃ i ys H',Inv (b7 X pins N' f (g.heap.objs.size+1) l g G) [] (none :: i6 caps σ) H' s'/\tn i s'.heap/\(∀ b∈l,H' b=none)/\W i n ys H') ?_ m0
   ⟨0,[],_,I3,E,λb k=>by rw [a8 (Dw (hlt b k))];exact (f2 b k).1,w0⟩ (λ_=>rfl)
  rintro n s4 ⟨i,ys,Z,I4,st4,fr4,w4⟩;obtain ⟨hacc4,S⟩:=turn i n ys Z w4;refine c7 ?_;rcases S with ⟨stop,q⟩ | ⟨go,step⟩
  ·refine thn (M.done (b7 X pins N' f (g.heap.objs.size+1) l g G) rfl rfl rfl hc i [] s4 _ Z (λ_ _=>False) I4 (F fr4) st4 stop) λr s5 ⟨hr,V⟩=>?_;subst hr;obtain ⟨m5,hn5,_⟩:=id V.loc;have IX:=O.call' V.os V.base V.hok V.bare λb k=>by
    have:=f2 b k;exact ⟨this.2.2.2.1,this.2.1,this.2.2.2.2.1,this.2.2.2.2.2⟩
   have C0:g.heap.objs.size<=g.heap.objs.size+1:=EU _;have cC:∀ z c,X.env.cells.lookup z=some c->c≠g.heap.objs.size+1:=λz c e=>by
    obtain ⟨v,oc,ho,_⟩:=O.cell z c e;exact Dw (El (Dv ho))
   have lC:=Dw (El O.lt);refine HY (U1 (v:=.ref g.heap.objs.size) IX hNX hiy hy rfl (λs6 I6 ⟨a,sb,ha⟩=>?_) hf);have aC:g.heap.objs.size+1≠a:=λz=>by
    rcases ha with ha | ha
    ·grind
    ·exact cC _ _ ha z.symm
   refine ⟨m5,hn5.sameBut sb aC,λh' hs'=>?_⟩;refine ⟨_,Z,I6.turned (λb o k e=>hs'.extBut b o k e) V.free lC.symm (.inr (EQ O.sz C0)) cC (λp hp=>?_),q⟩;exact Dw (El (Dv (O.pin p hp).1))
  ·refine thn (M.item (b7 X pins N' f (g.heap.objs.size+1) l g G) rfl rfl rfl hc i [] s4 _ Z (λ_ _=>False) I4 (F fr4) st4 go) λr s5 ⟨u,hr,h5⟩=>?_;subst hr;refine c7 (w6 rfl (thn h5 λ_ s6 ⟨xv,H6,I6,r6,y6,U,fr6⟩=>?_));have I6':=I6.pinned (F fr6) (M.obj _ _ U);refine thn (w9 (X:=b7 X pins N' f (g.heap.objs.size+1) l g G) hN hx0 (.inl (En hxl)) (.inr (En hxl)) _ s6 _ H6 xv u (λσ2 Z=>σ2=some xv :: i6 caps σ/\Z=H6) I6' r6 ⟨rfl,rfl⟩) λ_ s7 ⟨σ7,H7,I7,e7,e7'⟩=>?_;subst e7 e7';have B:∀ {σ8:St} {Y:Hp} {s8:Shared},Inv (b7 X pins N' f (g.heap.objs.size+1) l g G) ([]++f9 l s6.heap) σ8 Y s8->tn (i+1) s8.heap/\∀ b∈l,Y b=none:=λ{σ8 Y s8} Q=>by
    refine ⟨M.keep _ _ _ U λb k o e=>(Q.pin (b,o) (Dx _ (Dx _ (e8 k e)))).1,λb k=>?_⟩;obtain ⟨o,e,d⟩:=M.obj _ _ U b k;exact (Q.pin (b,o) (Dx _ (Dx _ (e8 k e)))).2.1
   refine c7 (thn (ht pins _ l g G _ s7 _ _ _ I7 (step xv _ y6)) λb s8 ⟨Y,Q,q8⟩=>?_);have wk:∀ {H9:Hp} {s9:Shared},Inv (b7 X pins N' f (g.heap.objs.size+1) l g G) ([]++f9 l s6.heap) (some xv :: i6 caps σ) H9 s9->Inv (b7 X pins N' f (g.heap.objs.size+1) l g G) [] (none :: i6 caps σ) H9 s9:=λ{H9 s9} I9=>
    I9.unpinned.weak rfl λj v e=>by
     cases j with
     | zero=>simp at e
     | succ j=>simpa using e
   cases b with
   | false=>
    obtain ⟨m',hm,w'⟩:=q8;exact ⟨m',hm,i+1,ys,Y,wk Q,(B Q).1,(B Q).2,w'⟩
   | true=>
    refine c7 (thn (he pins _ l g G _ s8 _ Y _ Q q8) λz s9 ⟨y,H9,I9,r9,P,hl9,m',hm,w'⟩=>?_);refine c7 (thn (B5 _ s9 _ H9 (.ref g.heap.objs.size) [y] (.ref g.heap.objs.size) [z] (λ_ H'=>H'=upd H9 g.heap.objs.size (.lst (ys++[y]))) I9 rfl (.cons r9 .nil) ⟨_,ys,y,rfl,rfl,P,hl9,rfl⟩) λ_ s10 ⟨_,H10,R,_,e10⟩=>?_);subst e10;exact ⟨m',hm,i+1,ys++[y],_,wk R,(B R).1,(B R).2,w'⟩
 have fin:=FM (L _ rfl) (M.self _ 0 _ _ _ E (L _ rfl));rw [<- hC] at fin;exact fin
section
variable {prog:Program} {w:World} {A:Around} {R:Result->Shared->Prop} {s:Shared}
theorem eS (elt t0 i0 target iter:Expr) (ifs0 ifs:List Expr) (scope:Scope) (pos:Pos) (it acc:Value) (env:PySem.Env) :
  compTurn (.ListComp elt [⟨t0,i0,ifs0,0⟩,⟨target,iter,ifs,0⟩] scope pos) 1 it acc env=(do
   standAt iter.pos
   match <- pyNext it with
   | none=>pure (.done .next)
   | some v=>
    letOwnedTupleGo target it v
    assign target env v
    let mut ok:=true
    for c in ifs do
     if ok then ok <- isTrue c env (eval c env)
    if ok then
     (do let _ <- call (.builtin "list.append") [acc,<- eval elt env])
    again (.compLoop (.ListComp elt [⟨t0,i0,ifs0,0⟩,⟨target,iter,ifs,0⟩] scope pos) 1 it acc env)):=by rfl
theorem ja {C F i0 b y:Expr} {p ifs:List Expr} {o:Scope} {pos:Pos} {it B:Value} {a:PySem.Env} (I:Nat->Shared->Prop)
  (D:∀ n s,I n s->wpAny (model prog w) A (pyNext it) (λr d=>match r with
   | none=>R (.ok .next) d
   | some v=>wpAny (model prog w) A (assign b a v) (λ_ i=>
     wpAny (model prog w) A (forIn ifs true λc r=>if r=true then do let t <- isTrue c a (eval c a);pure (ForInStep.yield t) else pure (ForInStep.yield r)) (λt f=>
      if t=true then wpAny (model prog w) A (eval C a) (λx g=>
       wpAny (model prog w) A (call (.builtin "list.append") [B,x]) (λ_ k=>∃ m,m<n/\I m k) (notedBy (model prog w) A a λe s'=>R (.error e) s') g) (notedBy (model prog w) A a λe s'=>R (.error e) s') f
      else ∃ m,m<n/\I m f) (notedBy (model prog w) A a λe s'=>R (.error e) s') i) (notedBy (model prog w) A a λe s'=>R (.error e) s') d) (notedBy (model prog w) A a λe s'=>R (.error e) s') s)
  (n:Nat) (h:I n s) (E:∀ v,letOwnedTupleGo b it v=pure ():=by intro _;rfl) :
  codeAny (model prog w) A (.compLoop (.ListComp C [⟨F,i0,p,0⟩,⟨b,y,ifs,0⟩] o pos) 1 it B a) R s:=by
 refine IC rfl I (λn s G=>?_) n h;refine IM ?_;rw [eS];refine Do (EZ (Do (Ef (D n s G) (λr d l=>?_) λ_ _ h'=>h')));cases r with
 | none=>exact Dp l
 | some v=>
  refine Do (Hk (E v) ?_);refine Do (Ef l (λ_ i z=>Do (Ef z (λt f j=>?_) λ_ _ h'=>h')) λ_ _ h'=>h');cases t with
  | false=>exact Dp ⟨rfl,j⟩
  | true=>
   exact Do (Do (Ef j (λx g q=>Do (Ef q (λ_ k u=>Dp (Dp ⟨rfl,u⟩)) λ_ _ h'=>h')) λ_ _ h'=>h'))
theorem eV {ifs0 ifs:List Expr} {scope:Scope} {pos:Pos} {it acc:Value} {env:PySem.Env}
  (h0:codeAny (model prog w) A (.compLoop (.ListComp elt [⟨t0,i0,ifs0,0⟩,⟨target,iter,ifs,0⟩] scope pos) 1 it acc env) R s)
  (h:wpAny (model prog w) A (pyIter it) (λit' s'=>codeAny (model prog w) A (.compLoop (.ListComp elt [⟨t0,i0,ifs0,0⟩,⟨target,iter,ifs,0⟩] scope pos) 1 it' acc env) R s')
   (notedBy (model prog w) A env λx s'=>R (.error x) s') s) :
  codeAny (model prog w) A (.compStart (.ListComp elt [⟨t0,i0,ifs0,0⟩,⟨target,iter,ifs,0⟩] scope pos) 1 it acc env) R s:=by
 refine GS ?_;refine wpAny_notedAt ?_;refine Do (GG (wpAny_ite ?_));split
 ·first
   | exact Do (Dp (Dp (And.intro rfl h0)))
   | exact Dp (And.intro rfl h0)
 ·first
   | exact Do (Ge (Do (EZ (Do (Ef h (λit' s' h'=>Dp (And.intro rfl h')) λ_ _ x=>x)))))
   | (refine Do (Ge ?_);show wpAny _ _ (standAt iter.pos >>= _) _ _ s;exact Do (EZ (Do (Ef h (λit' s' h'=>Dp (And.intro rfl h')) λ_ _ x=>x))))
theorem W2 (elt t0 i0 target iter:Expr) (ifs0 ifs:List Expr) (scope:Scope) (pos:Pos) (it acc:Value) (env:PySem.Env) :
  compTurn (.ListComp elt [⟨t0,i0,ifs0,0⟩,⟨target,iter,ifs,0⟩] scope pos) 0 it acc env=(do
   standAt i0.pos
   match <- pyNext it with
   | none=>pure (.done .next)
   | some v=>
    letOwnedTupleGo t0 it v
    assign t0 env v
    let mut ok:=true
    for c in ifs0 do
     if ok then ok <- isTrue c env (eval c env)
    if ok then
     let x <- eval iter env
     standAt iter.pos
     let x <- foldedSetIterable iter env x
     let _ <- runOwn (.compStart (.ListComp elt [⟨t0,i0,ifs0,0⟩,⟨target,iter,ifs,0⟩] scope pos) 1 (<- holding [x] (pyIter x)) acc env) env
    again (.compLoop (.ListComp elt [⟨t0,i0,ifs0,0⟩,⟨target,iter,ifs,0⟩] scope pos) 0 it acc env)):=by rfl
theorem tm {elt t0 i0 target iter:Expr} {ifs0 ifs:List Expr} {scope:Scope} {pos:Pos} {it acc:Value} {env:PySem.Env} (I:Nat->Shared->Prop)
  (turn:∀ n s,I n s->wpAny (model prog w) A (pyNext it) (λr s₁=>match r with
   | none=>R (.ok .next) s₁
   | some v=>wpAny (model prog w) A (assign t0 env v) (λ_ s₂=>
     wpAny (model prog w) A (forIn ifs0 true λc r=>if r=true then do let ok <- isTrue c env (eval c env);pure (ForInStep.yield ok) else pure (ForInStep.yield r)) (λok s₃=>
      if ok=true then wpAny (model prog w) A (eval iter env) (λx s₄=>
       wpAny (model prog w) A (pyIter x) (λitv s₅=>codeAny (model prog w) A (.compStart (.ListComp elt [⟨t0,i0,ifs0,0⟩,⟨target,iter,ifs,0⟩] scope pos) 1 itv acc env) (λr s₆=>match r with
        | .ok _=>∃ m,m<n/\I m s₆
        | .error _=>False) s₅) (λ_ _=>False) s₄) (λ_ _=>False) s₃
      else ∃ m,m<n/\I m s₃) (λ_ _=>False) s₂) (λ_ _=>False) s₁) (λ_ _=>False) s)
  (n:Nat) (h:I n s) (hfs:∀ x,foldedSetIterable iter env x=pure x) (ht:∀ v,letOwnedTupleGo t0 it v=pure ():=by intro _;rfl) :
  codeAny (model prog w) A (.compLoop (.ListComp elt [⟨t0,i0,ifs0,0⟩,⟨target,iter,ifs,0⟩] scope pos) 0 it acc env) R s:=by
 refine IC rfl I (λn s hI=>?_) n h;refine IM ?_;rw [W2];refine Do (EZ (Do (Ef (turn n s hI) (λr s₁ h₁=>?_) λ_ _ h'=>h'.elim)));cases r with
 | none=>exact Dp h₁
 | some v=>
  refine Do (Hk (ht v) ?_);refine Do (Ef h₁ (λ_ s₂ h₂=>Do (Ef h₂ (λok s₃ h₃=>?_) λ_ _ h'=>h'.elim)) λ_ _ h'=>h'.elim);cases ok with
  | false=>exact Dp ⟨rfl,h₃⟩
  | true=>
   refine Do (Ef h₃ (λx s₄ h₄=>Do (EZ ?_)) λ_ _ h'=>h'.elim);rw [hfs x];refine Do (Dp (Do (Ep (Ef h₄ (λitv s₅ h₅=>?_) λ_ _ h'=>h'.elim))));refine Do (wpAny_runOwn (Ff h₅ λr s₆ h₆=>?_));cases r with
   | ok f=>exact Dp ⟨rfl,h₆⟩
   | error e=>exact h₆.elim
end
def qH (caps:List Nat) (v:TI) (u:TT) (n:TI) (l:TT) (te:TE):TE:=λσ H Q=>v σ H λJ s=>∀ a,s a=none->∃ W:Nat->Nat->List V->Hp->Prop,(∃ m,W 0 m [] (upd s a (.lst []))) /\
 ∀ i m ys f,W i m ys f->f a=some (.lst ys)/\((J.stop i f/\Q (.ref a) f)\/(J.go i f/\∀ x r,J.yld i f x r->u (some x :: none :: i6 caps σ) r λb p=>
  if b=true then n (some x :: none :: i6 caps σ) p λo w=>∃ k:Nat->Nat->List V->Hp->Prop,(∃ g,k 0 g ys w) /\
   ∀ j g d e,k j g d e->e a=some (.lst d)/\((o.stop j e/\∃ m',m'<m/\W (i+1) m' d e)\/(o.go j e/\∀ y t,o.yld j e y t->l (some x :: some y :: i6 caps σ) t λA q=>
    if A=true then te (some x :: some y :: i6 caps σ) q λz h=>h a=some (.lst d)/\d.length<sizeLine/\∃ c,c<g/\k (j+1) c (d++[z]) (upd h a (.lst (d++[z])))
    else ∃ c,c<g/\k (j+1) c d q))
  else ∃ m',m'<m/\W (i+1) m' ys p))
theorem oF {X:Cx} {elt iter iter2:Expr} {x y:Str} {px py:Pos} {ifs ifs2:List Expr} {scope:Scope} {pos:Pos} {N':List Str} {caps:List Nat} {wi wi1:TI} {tc tc1:TT} {te:TE}
  (T:CompText X.N X.env N' 2 caps scope) (hc:X.calm=true) (hN:N'.Nodup) (hx0:N'[0]?=some x) (hy0:N'[1]?=some y) (hxl:scope.names.lookup x=some .local) (hyl:scope.names.lookup y=some .local) (hi:PI X (.Name x px) iter wi)
  (ht:∀ pins C fp s H,PTL (b7 X pins N' scope C fp s H) ifs tc) (hi1:∀ pins C fp s H,PI (b7 X pins N' scope C fp s H) (.Name y py) iter2 wi1) (ht1:∀ pins C fp s H,PTL (b7 X pins N' scope C fp s H) ifs2 tc1)
  (he:∀ pins C fp s H,PE (b7 X pins N' scope C fp s H) elt te)
  (hs:∀ x,foldedSetIterable iter X.env x=pure x) (hs2:∀ env x,foldedSetIterable iter2 env x=pure x):PE X (.ListComp elt [⟨.Name x px,iter,ifs,0⟩,⟨.Name y py,iter2,ifs2,0⟩] scope pos) (qH caps wi tc wi1 tc1 te):=by
 intro pins s σ H Q I h;have fr:∀ x∈scope.names,x.2=NameKind.free->∃ c,X.env.cells.lookup x.1=some c:=λx hx hk=>I.ok.has x.1 (T.free x hx hk).2;rw [IS];refine FE (use:=none) rfl hs (u4 fr) T.kind T.loc ?_;refine thn (hi pins s σ H _ I h) λv s1 h1=>thn h1 λitv s2 h2=>?_;obtain ⟨it,fp,tn,J,H2,rfl,I2,Tn,st2,f2,h2⟩:=h2;obtain ⟨W,⟨m0,w0⟩,turn⟩:=h2 s2.heap.objs.size (I2.hok.fresh (Dz _));have hlt:∀ b∈fp,b<s2.heap.objs.size:=λb hb=>let ⟨o,e,_⟩:=Tn.obj _ _ st2 b hb;Dv e
 refine Ez (FY T.cell (by intro y hy;simp at hy) (λh₁ hns₁ hsb₁=>?_) T.kind);dsimp only at hns₁ hsb₁ ⊢;have hC:(s2.heap.push { cls:=.type "list",dict:=none,data:=.seq ([]:List Value).toArray }).objs.size=s2.heap.objs.size+1:=EL ..;rw [hC] at hns₁ hsb₁;have old:∀ b o,s2.heap.get? b=some o->h₁.get? b=some o:=λb o e=>hsb₁.extBut b o (Dw (El (Dv e))) (Dq _ (Dq _ e));have hacc:h₁.get? s2.heap.objs.size=some { cls:=.type "list",data:=.seq #[] }:=hsb₁.extBut _ _ (Dw (Ek _)) (Dq _ (Du _ rfl));have hst₁:tn 0 h₁:=Tn.keep _ _ _ st2 λb _ o e=>old b o e;have I3:Inv (b7 X pins N' scope (s2.heap.objs.size+1) fp s2 H2) [] (none :: none :: i6 caps σ) (upd H2 s2.heap.objs.size (.lst [])) { s2 with heap:=h₁,toks:=s2.toks+([]:List (Str×Value)).length }:=B9 (t:=s2.toks+([]:List (Str×Value)).length) T I2 f2 hlt hns₁ old hacc;have stat:∀ {H':Hp},(∀ b∈fp,H' b=none)->∀ b∈fp,E1 (b7 X pins N' scope (s2.heap.objs.size+1) fp s2 H2) [] H' b:=λhn b hb=>by
  refine ⟨hn b hb,(I3.ok.exf b hb).1,I3.ok.exfs b hb,.inl hb,(I3.ok.exf b hb).2,λp hp=>?_⟩;have hp':p∈X.pn++pins:=by
   have:p∈(X.pn++pins)++[]:=hp;rwa [EH] at this
  exact (f2 b hb).2.2.2.2.2 p hp'
 have loop:∀ s3:Shared,s3={ s2 with heap:=h₁,toks:=s2.toks+([]:List (Str×Value)).length } ->
   codeAny (model X.prog X.w) X.A (.compLoop (.ListComp elt [⟨.Name x px,iter,ifs,0⟩,⟨.Name y py,iter2,ifs2,0⟩] scope pos) 0 (.ref it) (.ref s2.heap.objs.size) (compEnvC scope (E2 X.env.cells scope.names) (s2.heap.objs.size+1) X.env))
    (compPost (model X.prog X.w) X.A X.xe none (EP X pins σ Q) (.ref s2.heap.objs.size) (s2.heap.objs.size+1)) s3:=by
  rintro s3 rfl;refine tm (λn s'=>∃ i ys H',Inv (b7 X pins N' scope (s2.heap.objs.size+1) fp s2 H2) [] (none :: none :: i6 caps σ) H' s'/\tn i s'.heap/\(∀ b∈fp,H' b=none)/\W i n ys H') ?_ m0
   ⟨0,[],_,I3,hst₁,λb hb=>by rw [a8 (Dw (hlt b hb))];exact (f2 b hb).1,w0⟩ (hs2 _) (λ_=>rfl)
  rintro n s4 ⟨i,ys,H4,I4,st4,fr4,w4⟩;obtain ⟨hacc4,turn4⟩:=turn i n ys H4 w4;rcases turn4 with ⟨stop,q⟩ | ⟨go,step⟩
  ·refine thn (Tn.done (b7 X pins N' scope (s2.heap.objs.size+1) fp s2 H2) rfl rfl rfl hc i [] s4 _ H4 (λ_ _=>False) I4 (stat fr4) st4 stop) λr s5 ⟨hr,I5⟩=>?_;subst hr;obtain ⟨m5,hn5,_⟩:=id I5.loc;refine ⟨m5,hn5,λh' hs'=>?_⟩;refine ⟨.ref s2.heap.objs.size,H4,?_,rfl,q⟩;refine I2.call' (ch:=fp) (s':={ s5 with heap:=h' }) I5.os (Un.sameBut I5.base hs' (EU _)) (I5.hok.sameBut I5.free hs') I5.bare λb hb=>?_;have:=f2 b hb;exact ⟨this.2.2.2.1,this.2.1,this.2.2.2.2.1,this.2.2.2.2.2⟩
  ·refine thn (Tn.item (b7 X pins N' scope (s2.heap.objs.size+1) fp s2 H2) rfl rfl rfl hc i [] s4 _ H4 (λ_ _=>False) I4 (stat fr4) st4 go) λr s5 ⟨u,hr,h5⟩=>?_;subst hr;dsimp only;refine c7 (w6 (u:=letOwnedTupleGo (.Name x px) (.ref it) u) rfl (thn h5 λ_ s6 ⟨xv,H6,I6,r6,y6,st6,fr6⟩=>?_));have I6':=I6.pinned (stat fr6) (Tn.obj _ _ st6);refine thn (w9 (X:=b7 X pins N' scope (s2.heap.objs.size+1) fp s2 H2) (i:=0) hN hx0 (.inl (En hxl)) (.inr (En hxl)) _ s6 _ H6 xv u (λσ2 H4=>σ2=some xv :: none :: i6 caps σ/\H4=H6) I6' r6 ⟨rfl,rfl⟩) λ_ s7 ⟨σ7,H7,I7,e7,e7'⟩=>?_;subst e7 e7';have back:∀ {σ8:St} {H8:Hp} {s8:Shared},Inv (b7 X pins N' scope (s2.heap.objs.size+1) fp s2 H2) ([]++f9 fp s6.heap) σ8 H8 s8->tn (i+1) s8.heap/\∀ b∈fp,H8 b=none:=λ{σ8 H8 s8} I8=>by
    refine ⟨Tn.keep _ _ _ st6 λb hb o e=>(I8.pin (b,o) (Dx _ (Dx _ (e8 hb e)))).1,λb hb=>?_⟩;obtain ⟨o,e,d⟩:=Tn.obj _ _ st6 b hb;exact (I8.pin (b,o) (Dx _ (Dx _ (e8 hb e)))).2.1
   refine c7 (thn (ht pins _ fp s2 H2 _ s7 _ _ _ I7 (step xv _ y6)) λb s8 ⟨H8,I8,q8⟩=>?_);have wk:∀ {H9:Hp} {s9:Shared},Inv (b7 X pins N' scope (s2.heap.objs.size+1) fp s2 H2) ([]++f9 fp s6.heap) (some xv :: none :: i6 caps σ) H9 s9->Inv (b7 X pins N' scope (s2.heap.objs.size+1) fp s2 H2) [] (none :: none :: i6 caps σ) H9 s9:=λ{H9 s9} I9=>
    I9.unpinned.weak rfl λj v e=>by
     cases j with
     | zero=>simp at e
     | succ j=>simpa using e
   cases b with
   | false=>
    obtain ⟨m',hm,w'⟩:=q8;exact ⟨m',hm,i+1,ys,H8,wk I8,(back I8).1,(back I8).2,w'⟩
   | true=>
    rw [if_pos rfl] at q8 ⊢;refine c7 (thn (hi1 pins _ fp s2 H2 _ s8 _ H8 _ I8 q8) λv9 s9 h9=>c7 (thn h9 λitv1 s10 h10=>?_));obtain ⟨it1,fp1,tn1,J1,H10,rfl,I10,Tn1,st10,f10,W1,⟨m1,w1⟩,turn1⟩:=h10;have stat1:∀ {H':Hp},(∀ b∈fp1,H' b=none)->∀ b∈fp1,E1 (b7 X pins N' scope (s2.heap.objs.size+1) fp s2 H2) ([]++f9 fp s6.heap) H' b:=λhn b hb=>⟨hn b hb,(f10 b hb).2⟩;have loop1:∀ s11:Shared,s11=s10->codeAny (model X.prog X.w) X.A (.compLoop (.ListComp elt [⟨.Name x px,iter,ifs,0⟩,⟨.Name y py,iter2,ifs2,0⟩] scope pos) 1 (.ref it1) (.ref s2.heap.objs.size) (compEnvC scope (E2 X.env.cells scope.names) (s2.heap.objs.size+1) X.env))
      (λr s₆=>match r with
       | .ok _=>∃ m,m<n/\∃ i ys H',Inv (b7 X pins N' scope (s2.heap.objs.size+1) fp s2 H2) [] (none :: none :: i6 caps σ) H' s₆/\tn i s₆.heap/\(∀ b∈fp,H' b=none)/\W i m ys H'
       | .error _=>False) s11:=by
     rintro s11 rfl;refine ja (λn1 s'=>∃ j zs H',Inv (b7 X pins N' scope (s2.heap.objs.size+1) fp s2 H2) ([]++f9 fp s6.heap) (some xv :: none :: i6 caps σ) H' s'/\tn1 j s'.heap/\(∀ b∈fp1,H' b=none)/\W1 j n1 zs H') ?_ m1
      ⟨0,ys,H10,I10,st10,λb hb=>(f10 b hb).1,w1⟩ (λ_=>rfl)
     rintro n1 t4 ⟨j,zs,G4,K4,ct4,cr4,v4⟩;obtain ⟨hacc5,turn5⟩:=turn1 j n1 zs G4 v4;refine c7 ?_;rcases turn5 with ⟨stop1,m',hm',w'⟩ | ⟨go1,step1⟩
     ·refine thn (Tn1.done (b7 X pins N' scope (s2.heap.objs.size+1) fp s2 H2) rfl rfl rfl hc j _ t4 _ G4 (λ_ _=>False) K4 (stat1 cr4) ct4 stop1) λr t5 ⟨hr,K5⟩=>?_;subst hr;exact ⟨m',hm',i+1,zs,G4,wk K5,(back K5).1,(back K5).2,w'⟩
     ·refine thn (Tn1.item (b7 X pins N' scope (s2.heap.objs.size+1) fp s2 H2) rfl rfl rfl hc j _ t4 _ G4 (λ_ _=>False) K4 (stat1 cr4) ct4 go1) λr t5 ⟨u1,hr,g5⟩=>?_;subst hr;dsimp only;refine c7 (w6 (u:=letOwnedTupleGo (.Name y py) (.ref it1) u1) rfl (thn g5 λ_ t6 ⟨yv,G6,K6,rr6,yy6,ct6,cr6⟩=>?_));have K6':=K6.pinned (stat1 cr6) (Tn1.obj _ _ ct6);refine thn (w9 (X:=b7 X pins N' scope (s2.heap.objs.size+1) fp s2 H2) (i:=1) hN hy0 (.inl (En hyl)) (.inr (En hyl)) _ t6 _ G6 yv u1 (λσ2 H4=>σ2=some xv :: some yv :: i6 caps σ/\H4=G6) K6' rr6 ⟨rfl,rfl⟩) λ_ t7 ⟨σ7,G7,K7,e7,e7'⟩=>?_;subst e7 e7';have back1:∀ {σ8:St} {H8:Hp} {s8:Shared},Inv (b7 X pins N' scope (s2.heap.objs.size+1) fp s2 H2) (([]++f9 fp s6.heap)++f9 fp1 t6.heap) σ8 H8 s8->tn1 (j+1) s8.heap/\∀ b∈fp1,H8 b=none:=λ{σ8 H8 s8} I8=>by
       refine ⟨Tn1.keep _ _ _ ct6 λb hb o e=>(I8.pin (b,o) (Dx _ (Dx _ (e8 hb e)))).1,λb hb=>?_⟩;obtain ⟨o,e,d⟩:=Tn1.obj _ _ ct6 b hb;exact (I8.pin (b,o) (Dx _ (Dx _ (e8 hb e)))).2.1
      have wk1:∀ {H9:Hp} {s9:Shared},Inv (b7 X pins N' scope (s2.heap.objs.size+1) fp s2 H2) (([]++f9 fp s6.heap)++f9 fp1 t6.heap) (some xv :: some yv :: i6 caps σ) H9 s9->Inv (b7 X pins N' scope (s2.heap.objs.size+1) fp s2 H2) ([]++f9 fp s6.heap) (some xv :: none :: i6 caps σ) H9 s9:=λ{H9 s9} I9=>
       I9.unpinned.weak rfl λj v e=>by
        match j with
        | 0=>simpa using e
        | 1=>simp at e
        | j+2=>simpa using e
      refine c7 (thn (ht1 pins _ fp s2 H2 _ t7 _ _ _ K7 (step1 yv _ yy6)) λb2 t8 ⟨G8,K8,p8⟩=>?_);cases b2 with
      | false=>
       obtain ⟨m1',hm,w'⟩:=p8;exact ⟨m1',hm,j+1,zs,G8,wk1 K8,(back1 K8).1,(back1 K8).2,w'⟩
      | true=>
       refine c7 (thn (he pins _ fp s2 H2 _ t8 _ G8 _ K8 p8) λz t9 ⟨zv,G9,K9,rr9,hacc9,hl9,m1',hm,w'⟩=>?_);refine c7 (thn (B5 (X:=b7 X pins N' scope (s2.heap.objs.size+1) fp s2 H2) _ t9 _ G9 (.ref s2.heap.objs.size) [zv] (.ref s2.heap.objs.size) [z] (λ_ H'=>H'=upd G9 s2.heap.objs.size (.lst (zs++[zv]))) K9 rfl (.cons rr9 .nil) ⟨_,zs,zv,rfl,rfl,hacc9,hl9,rfl⟩) λ_ t10 ⟨_,G10,K10,_,e10⟩=>?_);subst e10;exact ⟨m1',hm,j+1,zs++[zv],_,wk1 K10,(back1 K10).1,(back1 K10).2,w'⟩
    exact eV (loop1 _ rfl) (Tn1.self _ 0 _ _ _ st10 (loop1 _ rfl))
 have fin:=FM (loop _ rfl) (Tn.self _ 0 _ _ _ hst₁ (loop _ rfl));rw [<- hC] at fin;exact fin
mutual
inductive DAt (K:PySem.W.Frag) (H:Hp):V->PyData->Prop where
 | non:DAt K H .non .none
 | bl (b:Bool):DAt K H (.bl b) (.bool b)
 | int (i:Int):DAt K H (.int i) (.int i)
 | str (x:Str):DAt K H (.str x) (.str x)
 | lst {a:Addr} {xs:List V} {ds:List PyData}:SqL K H a xs->DAll K H xs ds->DAt K H (.ref a) (.list ds)
 | tup {a:Addr} {xs:List V} {ds:List PyData}:SqT K H a xs->DAll K H xs ds->DAt K H (.ref a) (.tuple ds)
inductive DAll (K:PySem.W.Frag) (H:Hp):List V->List PyData->Prop where
 | nil:DAll K H [] []
 | cons {x:V} {d:PyData} {xs:List V} {ds:List PyData}:DAt K H x d->DAll K H xs ds->DAll K H (x :: xs) (d :: ds)
end
def Keeps (K:PySem.W.Frag) (H H':Hp):Prop:=(∀ a xs,SqL K H a xs->SqL K H' a xs)/\∀ a xs,SqT K H a xs->SqT K H' a xs
mutual
theorem DAt.keeps {K:PySem.W.Frag} {H H':Hp} (k:Keeps K H H'):∀ {v:V} {d:PyData},DAt K H v d->DAt K H' v d
 | _,_,.non=>.non
 | _,_,.bl b=>.bl b
 | _,_,.int i=>.int i
 | _,_,.str x=>.str x
 | _,_,.lst h r=>.lst (k.1 _ _ h) (DAll.keeps k r)
 | _,_,.tup h r=>.tup (k.2 _ _ h) (DAll.keeps k r)
theorem DAll.keeps {K:PySem.W.Frag} {H H':Hp} (k:Keeps K H H'):∀ {xs:List V} {ds:List PyData},DAll K H xs ds->DAll K H' xs ds
 | _,_,.nil=>.nil
 | _,_,.cons h r=>.cons (DAt.keeps k h) (DAll.keeps k r)
end
theorem Keeps.of_same {K:PySem.W.Frag} {H H':Hp} (e:Same H H'):Keeps K H H':=
 ⟨λa xs h=>e.seq h,λa xs h=>by
  rcases h with (h | ⟨o,h⟩) | h
  ·exact .inl (.inl (e _ _ h))
  ·exact .inl (.inr ⟨o,e _ _ h⟩)
  ·exact .inr h⟩
theorem Same.laid (h:H p=none):Same H (upd H p o):=λb u e=>by rw [a8 (b9 e h)];exact e
theorem Keeps.laid {K:PySem.W.Frag} {H:Hp} {p:Addr} {o:HO} (h:H p=none):Keeps K H (upd H p o):=Keeps.of_same (Same.laid h)
section
variable {X:Cx} {pins:List (Addr×Obj)} {σ:St} {H:Hp} {s:Shared}
mutual
theorem DAt.reads (I:Inv X pins σ H s):∀ {v:V} {d:PyData},DAt X.K H v d->∀ {u:Value},RelV v u->∃ a,Reads s.heap u d a
 | _,_,.non,u,r=>by cases (show u=Value.none from r);exact ⟨_,.none⟩
 | _,_,.bl b,u,r=>by cases (show u=Value.bool b from r);exact ⟨_,.bool b⟩
 | _,_,.int i,u,r=>by obtain ⟨t,e⟩:=(r);subst e;exact ⟨_,.int i t⟩
 | _,_,.str x,u,r=>by obtain ⟨t,e⟩:=(r);subst e;exact ⟨_,.str x t⟩
 | _,_,.lst h q,u,r=>by
  cases (r);obtain ⟨f,c,⟨o,n,g,j,m,l⟩,_⟩:=I.list h;obtain ⟨a,k⟩:=DAll.reads I q c;exact ⟨_,.list g j l k⟩
 | _,_,.tup h q,u,r=>by
  cases (r);obtain ⟨f,c,⟨o,g,j,n,l⟩,_⟩:=I.tuple h;obtain ⟨a,k⟩:=DAll.reads I q c;exact ⟨_,.tuple g j l k⟩
theorem DAll.reads (I:Inv X pins σ H s):∀ {vs:List V} {ds:List PyData},DAll X.K H vs ds->∀ {us:List Value},Vals vs us->∃ as,ReadsAll s.heap us ds as
 | _,_,.nil,us,r=>by cases r;exact ⟨_,.nil⟩
 | _,_,.cons h q,us,r=>by
  cases r with
  | cons r1 r2=>
   obtain ⟨as,h1⟩:=DAt.reads I h r1;obtain ⟨bs,h2⟩:=DAll.reads I q r2;exact ⟨_,.cons h1 h2⟩
end
structure Shows (d:PyData):Prop where
 sh:d.showable=true
 nd:d.hasDict=false
 dp:d.depth<=60
 sz:d.shown.length<=sizeLine
end
def BY (K:PySem.W.Frag) (a:Bool):R2:=λx y H Q=>∃ d e,DAt K H x d/\DAt K H y e/\d.canLay0=true/\e.canLay0=true/\min d.depth e.depth<=60/\Q (.bl (if a then !PyData.eqv d e else PyData.eqv d e)) H
section
variable {X:Cx}
theorem wU (k:X.A.units+64<cLine):OpR X (compareOp .Eq) (BY X.K false):=by
 intro pins s σ H x y v u Q I i c h;obtain ⟨d,e,hd,a,b,f,m,q⟩:=h;obtain ⟨l,g⟩:=hd.reads I i;obtain ⟨n,j⟩:=a.reads I c;exact SeqAt.compareEq_reads g j b f (by omega) ⟨.bl (PyData.eqv d e),H,I,rfl,q⟩
theorem we (k:X.A.units+64<cLine):OpR X (compareOp .NotEq) (BY X.K true):=by
 intro pins s σ H x y v u Q I i c h;obtain ⟨d,e,hd,a,b,f,m,q⟩:=h;obtain ⟨l,g⟩:=hd.reads I i;obtain ⟨n,j⟩:=a.reads I c;exact SeqAt.compareNe_reads g j b f (by omega) ⟨.bl (!PyData.eqv d e),H,I,rfl,q⟩
end
end L2
namespace L2
open PySem PySem.W PySem.Calls PyProof.Rows
def V8 (K:Frag) (C:Addr):Bool:=match K.lookup C with
 | some ⟨c,_,.cls a,b⟩=>c==.type "type" && !a.hasDel&&a.hasDict&&(b.toList[4]?).join==some (.builtin "ValueError.__new__")&&!a.mro.isEmpty&&a.mro.contains (.ref C)&&a.mro.contains (.type "ValueError")&&a.mro.contains (.type "BaseException") &&
   !a.mro.contains (.type "AttributeError")&&!a.mro.contains (.type "NameError")&&specialIn K (.ref C) "__call__" == some (some (.builtin "type.__call__"))&&instIn K (.ref C) (.type "type")==some true
 | _=>false
structure MakesX (M:Model) (h:Heap) (C:Addr):Prop where
 obj:∃ oc od cd sl,h.get? C=some ⟨oc,od,.cls cd,sl⟩/\cd.hasDel=false/\cd.mro.isEmpty=false
 made:Looks M h (Bind.madeBy (.ref C)) (some "ValueError.__new__")
 base:Looks M h (Bind.staticBase (.ref C)) (.ref C)
 self:Looks M h (isSubtype (.ref C) (.ref C)) true
 isV:Looks M h (isSubtype (.ref C) (.type "ValueError")) true
 isB:Looks M h (isSubtype (.ref C) (.type "BaseException")) true
 noA:Looks M h (isSubtype (.ref C) (.type "AttributeError")) false
 noN:Looks M h (isSubtype (.ref C) (.type "NameError")) false
 call:Looks M h (specialOf (.ref C) "__call__") (some (.builtin "type.__call__"))
 typ:Looks M h (isInstance (.ref C) (.type "type")) true
 ty:Looks M h (typeOf (.ref C)) (.type "type")
 isT:Looks M h (isType (.ref C)) true
theorem E8 {K:Frag} {M:Model} {h:Heap} (X:K.In h) {C:Addr} (e:V8 K C=true):MakesX M h C:=by
 unfold V8 at e;split at e
 case h_2=>cases e
 rename_i v od f D g;simp only [Dt,Fa,Gy] at e;obtain ⟨⟨⟨⟨⟨⟨⟨⟨⟨⟨⟨F,x⟩,_⟩,t⟩,i⟩,u⟩,B⟩,y⟩,w⟩,z⟩,m⟩,j⟩:=e;have p:clsIn K C=some f:=by unfold clsIn;rw [g]
 have a:∀ {b:Value} {r:Bool},f.mro.contains b=r->Looks M h (isSubtype (.ref C) b) r:=λ{b r} q=>looks_mroIn X (by unfold mroIn;rw [p,Hh,if_neg (by rw [i];decide),q]);have n:Looks M h (mroOf (.ref C)) f.mro:=(looks_clsIn X p).andThen .now;obtain ⟨c,l,o⟩:∃ c l,f.mro=c :: l:=by
  cases q:f.mro with
  | nil=>rw [q] at i;cases i
  | cons c l=>exact ⟨c,l,rfl⟩
 have d:Looks M h (Bind.madeBy (.ref C)) (some "ValueError.__new__"):=λA Q E s k q=>by
  refine Do (n A _ E s k ?_);rw [o,FU];refine Do (Do (Do (Do (HJ (k _ _ (X _ _ g)) (Dp ?_)))));rw [<- EW,t];exact Dp (Dp (Dp q))
 refine ⟨⟨v,od,f,D,X _ _ g,x,i⟩,d,λA Q E s k q=>?_,a u,a B,a y,a w,a z,looks_specialIn X m,looks_instIn X j,?_,(Looks.ld (X _ _ g)).andThen .now⟩
 ·unfold Bind.staticBase;refine Do (n A _ E s k ?_);rw [o,FU];exact Do (Do (Do (d A _ E s k (Dp (Dp (Dp q))))))
 ·subst F;exact (Looks.ld (X _ _ g)).andThen .now
abbrev C7 (C t:Addr):Obj:={ cls:=.ref C,data:=.fields #[.ref t,.none,.none,.none,.bool false,.none] }
abbrev D8 (vs:List Value):Obj:={ cls:=.type "tuple",data:=.seq vs.toArray }
section
variable {prog:Program} {w:World} {A:Around} {K:Frag} {C:Addr} {R:Result->Shared->Prop} {h:Heap} {g:Array GenState} {d:Drawn} {t:Nat} {os:OsState}
theorem DK {rest:List Value} (Y:MakesX (model prog w) h C) (hrest:rest.length<=sizeLine)
  (hq:R (.ok (.ret (.ref (h.objs.size+1)))) ⟨(h.push (D8 rest)).push (C7 C h.objs.size),g,d,t,os⟩) :
  codeAny (model prog w) A (.call (.builtin "ValueError.__new__") ⟨.ref C :: rest,[]⟩) R ⟨h,g,d,t,os⟩:=by
 obtain ⟨⟨oc,od,cd,sl,hC,e1,e4⟩,made,base,self,isV,isB,noA,noN,call,typ,_,_⟩:=Y;have F:=HK;refine codeAny_call_builtin_code (Code.quiet_builtin _ F.quiet) ?_;simp only [checkBuiltinCall,F.newKind,F.newSplit,F.newRow];have here:Looks (model prog w) h (Bind.madeHere "ValueError.__new__" (.ref C)) ():=base.andThen (made.andThen (Looks.of_pure (by simp only [II,Gw,EV,Ha])))
 repeat (first | simp only [Gw,EV,Ha] | lk)
 have here2:Looks (model prog w) h (Bind.madeHere "BaseException.__new__" (.ref C)) ():=base.andThen (made.andThen (Looks.of_pure (by simp only [II,F.canon,Gw,EV,Ha])));have ends:=F.ends;refine codeAny_builtinAt F.entry (PySem.wpAt_bind ?_);show PySem.wpAt _ _ _ (stack >>= _) _ _ _;refine PySem.wpAt_bind (PySem.wpAt_stack λp below=>PySem.wpAt_of_wpAny ?_)
 wp_walk
 refine PySem.wpAt_of_wpAny ?_;rw [F.owner]
 repeat lk
 rw [if_neg (by rw [Dy];omega)];show wpAny _ _ (newObjAsIs _ _) _ _ _;have hC2:(h.push (D8 rest)).get? C=some ⟨oc,od,.cls cd,sl⟩:=Dq _ hC;have hC3:((h.push (D8 rest)).push (C7 C h.objs.size)).get? C=some ⟨oc,od,.cls cd,sl⟩:=Dq _ hC2;unfold newObjAsIs;refine Do (IN (Dp (Do ?_)));show wpAny _ _ (newObjAsIs _ _) _ _ _;unfold newObjAsIs classHasDel;refine Do (IN (Do (Do (IU hC3 (Dp ?_)))));rw [e1];refine Dp (Dp ?_);show R _ _;rw [EL];exact hq
theorem Bd {c:List Value} {f:Addr} (Y:MakesX (model prog w) h C) (u:Looks (model prog w) h (typeLookup (.ref C) "__init__") (some (.ref f)))
  (G:∀ i,Looks (model prog w) h (bindSpecial (.ref f) i) (.ref f,[i])) (j:c.length<=sizeLine)
  (B:codeAny (model prog w) (A.under (.builtin "type.__call__" ⟨.ref C :: c,[]⟩)) (.call (.ref f) ⟨.ref (h.objs.size+1) :: c,[]⟩) (InitBack (h.objs.size+1) R) ⟨(h.push (D8 c)).push (C7 C h.objs.size),g,d,t,os⟩) :
  codeAny (model prog w) A (.call (.ref C) ⟨c,[]⟩) R ⟨h,g,d,t,os⟩:=by
 have D:=Y;obtain ⟨⟨L,od,s,O,q,M,I⟩,p,n,i,x,F,E,H,l,m,_,_⟩:=Y;refine GS ?_;refine nd_load q (show wpAny _ _ (callAny.viaDunder (.ref C) _) _ _ _ from ?_);refine Do (l.at ?_);dsimp only;rw [tc_bind];refine Do (Dp (Do (Dp (Dp (a:=Fin.again (.call (.builtin "type.__call__") ⟨.ref C :: c,[]⟩)) (And.intro rfl ?_)))));refine codeAny_call_builtin_at (Code.quiet_builtin _ (by decide +kernel)) entry_typeCall (check_slot tc_kind tc_split m (tc_args _ _ _) ?_);have J:Looks (model prog w) h (mroOf (.ref C)) s.mro:=((Looks.ld q).andThen .now).andThen .now
 repeat (first | simp only [I,EV,Ha] | with_reducible refine Gc ?_ | lk)
 refine DK D j ?_;have k:∀ b o,h.get? b=some o->((h.push (D8 c)).push (C7 C h.objs.size)).get? b=some o:=λb o e=>Dq _ (Dq _ e);have y:((h.push (D8 c)).push (C7 C h.objs.size)).get? (h.objs.size+1)=some (C7 C h.objs.size):=by heap_get
 have Q:Looks (model prog w) ((h.push (D8 c)).push (C7 C h.objs.size)) (typeOf (.ref (h.objs.size+1))) (.ref C):=(Looks.ld y).andThen .now;have N:=i.keeps k;have P:=u.keeps k;have K:=(G (.ref (h.objs.size+1))).keeps k
 repeat (first | with_reducible refine Gc ?_ | lk)
 refine Ff B λr s' z=>?_;rcases r with e | (v | _ | _ | _) <;> first | exact z | exact z.elim | skip
 obtain ⟨rfl,z⟩:=z;exact Dp (Dp z)
end
end L2
namespace L2
open PySem PySem.W PySem.Calls PyProof.Rows Builtin Builtin.ObjectAttr
theorem qI:builtinKind "BaseException.__getattribute__" = some .slot:=by decide +kernel
theorem jv:splitId "BaseException.__getattribute__" = some ("BaseException","__getattribute__"):=by decide +kernel
theorem kC:plainId "BaseException.__getattribute__" = true:=by decide +kernel
section
variable {prog:Program} {w:World} {A:Around} {R:Result->Shared->Prop} {s:Shared} {x:Addr} {name:Str} {t:Tok}
theorem oE (c:Looks (model prog w) s.heap (isInstance (.ref x) (.type "BaseException")) true)
  (h:wpAny (model prog w) A.in1 (Builtin.«object.__getattribute__» ⟨[.ref x,.str name t],[]⟩) (λa s'=>match a with | .done f=>R (.ok f) s' | .again b=>b.quiet=true/\codeAny (model prog w) A b R s') (λe s'=>R (.error e) s') s) :
  codeAny (model prog w) A (.call (.builtin "BaseException.__getattribute__") ⟨[.ref x,.str name t],[]⟩) R s:=
 FZ kC PySem.F.entry_bexc_ga (@check_slot (model prog w) _ _ _ "BaseException.__getattribute__" "BaseException" "__getattribute__" (.ref x) [.str name t] [] _ qI jv c (PySem.F.args_bexc_ga (.ref x) (.str name t)) h)
end
section
variable {prog:Program} {w:World} {A:Around} {E:Value->Shared->Prop} {s:Shared} {K:Frag} {x C:Addr} {ox:Obj} {od:Option Obj} {name:Str} {expr:Bool} {Q:Value->Shared->Prop}
structure XCls (K:Frag) (C:Addr):Prop where
 ga:findIn K (.ref C) "__getattribute__" = some (some (.builtin "BaseException.__getattribute__"))
 gg:findIn K (.ref C) "__getattr__" = some none
 be:mroIn K C (.type "BaseException")=some true
 ob:mroIn K C (.type "object")=some true
 hd:hasDictIn K C=true
 cl:findIn K (.ref C) "__class__" = some (some (.builtin "object.__class__"))
 cg:specialIn K (.builtin "object.__class__") "__get__" = some (some (.builtin "getset_descriptor.__get__"))
 ct:takesIn K (.builtin "object.__class__")=some true
theorem lp {b:Bool} {t:Tok} (X:K.In s.heap) (I:InstAt s.heap x ox C od) (c:XCls K C)
  (h:wpAny (model prog w) A.in1 (Builtin.«object.__getattribute__» ⟨[.ref x,.str name t],[]⟩) (λa s'=>match a with | .done (.ret v)=>wpAny (model prog w) A (handedOut v) Q E s' | _=>False) (λ_ _=>False) s) :
  wpAny (model prog w) A (getAttrBy (.ref x) (.str name t) b expr) Q E s:=by
 obtain ⟨l,g,d,p,n⟩:=s;have f:=I.type (M:=model prog w);have j:=looks_findIn (M:=model prog w) X c.ga;have o:=looks_findIn (M:=model prog w) X c.gg;have i:Looks (model prog w) l (isInstance (.ref x) (.type "BaseException")) true:=f.andThen (looks_mroIn X c.be);have k:=(PySem.F.attrBase_ValueError).ga.bind (.ref x);have e:(expr&&onTheHeap (Value.builtin "BaseException.__getattribute__"))=false:=by cases expr <;> rfl
 have m:(Value.builtin "BaseException.__getattribute__" == Value.builtin "object.__getattribute__")=false:=by decide +kernel
 refine Ep (Do (f.at (Do (j.at ?_))))
 repeat (first | simp | lk)
 refine Gp (Ep ?_);unfold callGetattribute;rw [e];refine Do (Hk k ?_);refine Gc (oE i ?_);refine Ef h (λa s' z=>?_) λ_ _ z=>z.elim;rcases a with (v | _ | _ | _) | _ <;> first | exact z | exact z.elim
theorem DO (X:K.In s.heap) (I:InstAt s.heap x ox C od) (b:XCls K C) (f:findObj K C od name=some (.value v)) (e:handedIn v=true) (h:Q v { s with toks:=s.toks+1 }):wpAny (model prog w) A (getAttr (.ref x) name expr) Q E s:=by
 obtain ⟨j,g,d,t,i⟩:=s;have a:=I.type (M:=model prog w);have c:=looks_find (M:=model prog w) X I f;refine Do (wpAny_mkText (lp X I b ?_));refine Do (Dp (Do (Dp (Do (a.at (Do (c.at (Dp ?_))))))));show wpAny _ _ (handedOut v) _ _ _;rw [handedOut_of e];exact Dp h
theorem dX (a:XCls K C):findObj K C od "__class__" = some (.bind (.builtin "getset_descriptor.__get__") (.builtin "object.__class__")):=by
 obtain ⟨c,b,_⟩:=any_some a.hd;unfold findObj;rw [b,Hh,a.cl,Hh];dsimp only;rw [a.cg,Hh];dsimp only;rw [a.ct];rfl
theorem wT (X:K.In s.heap) (I:InstAt s.heap x ox C od) (a:XCls K C) (h:R (some (.ref C)) { s with toks:=s.toks+1 }):wpAny (model prog w) A (getAttr? (.ref x) "__class__") R E s:=by
 have e:=dX (od:=od) a;obtain ⟨i,g,d,t,f⟩:=s;have b:=I.type (M:=model prog w);have c:=looks_find (M:=model prog w) X I e;refine Do (wpAny_mkText (Do (Gp (lp X I a ?_))));refine Do (Dp (Do (Dp (Do (b.at (Do (c.at ?_)))))));refine Do (Ep (Gc (class_get X I a.ob ?_)));refine Dp ?_;exact handed_on rfl (Dp h)
theorem AX (c:XCls K C):KitX K (.ref x) (.ref C) (λh=>∃ ox od,InstAt h x ox C od) where
 ty:=λ_ _ _ ⟨_,_,I⟩=>I.type
 it:=λ_ _ X _=>by
  obtain ⟨j,a,_⟩:=any_some c.hd;unfold clsIn at a;split at a
  ·rename_i m e d g f;exact λo r s s' k q=>by
    exact Do (HJ (k _ _ (X _ _ f)) (Dp q))
  ·cases a
 ne:=λh l p i n g X b=>by
  obtain ⟨j,a,_⟩:=any_some c.hd;refine Bool.eq_false_iff.mpr λq=>?_;obtain rfl:C=l:=Value.ref.inj (Gy.mp q);unfold clsIn at a;split at a
  ·rename_i m e d g f;have z:=(X _ _ f).symm.trans b;cases z
  ·cases a
 ca:=λX ⟨_,_,I⟩ k=>wT X I c k
end
def B8:List Value->Bool
 | .ref _ :: r=>B8 r
 | l=>l==[.type "ValueError",.type "Exception",.type "BaseException",.type "object"]
theorem F9 (a:Value):∀ {l:List Value},B8 l=true->refuseLoop a "__setattr__" l=pure ()
 | .ref c :: r,e=>by rw [refuseLoop_ref];exact F9 a e
 | [],e=>by cases e
 | .none :: r,e=>by cases e
 | .type n :: r,e=>by rw [Gy.mp e];exact PySem.F.store_ValueError.passes a
 | .bool _ :: _,e=>by cases e
 | .int _ _ :: _,e=>by cases e
 | .str _ _ :: _,e=>by cases e
 | .bytes _ _ :: _,e=>by cases e
 | .float _ _ :: _,e=>by cases e
 | .builtin _ :: _,e=>by cases e
 | .ellipsis :: _,e=>by cases e
 | .notImplemented :: _,e=>by cases e
section
variable {prog:Program} {w:World} {A:Around} {E:Value->Shared->Prop} {s:Shared} {K:Frag} {x C:Addr} {ox:Obj} {od:Option Obj} {name:Str} {R:Result->Shared->Prop} {v:Value}
theorem BB (X:K.In s.heap) (I:InstAt s.heap x ox C od) (k:XCls K C) (o:(clsIn K C).any (λd=>B8 d.mro)=true) (j:findIn K (.ref C) name=some none)
  (h:∀ b,wpAny (model prog w) A.in1 (storeInOwnDict (.ref x) (.ref C) (.str name tk) name v b) (λc s'=>match c with | .done f=>R (.ok f) s' | .again i=>i.quiet=true/\codeAny (model prog w) A i R s') (λe s'=>R (.error e) s') s) :
  codeAny (model prog w) A (.call (.builtin "object.__setattr__") ⟨[.ref x,.str name tk,v],[]⟩) R s:=by
 have a:=PySem.F.store_object;obtain ⟨d,n,l⟩:=any_some o;have g:Looks (model prog w) s.heap (isInstance (.ref x) (.type "object")) true:=I.type.andThen (looks_mroIn X k.ob);have m:Looks (model prog w) s.heap (mroOf (.ref C)) d.mro:=(looks_clsIn X n).andThen .now;refine FZ a.slot.plain a.entry (@check_slot (model prog w) _ _ s "object.__setattr__" "object" "__setattr__" (.ref x) [.str name tk,v] [] _ a.kind a.split g (a.args (.ref x) (.str name tk) v) ?_);rw [osa_eq,refuse_eq];refine Do (Do (I.type.here (Do (m.here ?_))));rw [F9 _ l];exact Dp (Do (I.type.here (Do ((looks_findIn X j).here (Do (Dp (h _)))))))
def tbV:Option Addr->Value
 | none=>.none
 | some T=>.ref T
def IsX (a:Option Addr) (h:Heap) (x C:Addr) (d:Option Addr):Prop:=∃ vs,h.get? x=some { cls:=.ref C,dict:=d,data:=.fields vs }/\vs.size=6/\vs[1]?=some (tbV a)
theorem IsX.inst0 (i:IsX fr h x C none):∃ ox,InstAt h x ox C none:=by
 obtain ⟨vs,e,_⟩:=i;exact ⟨_,e,rfl,rfl,True.intro⟩
theorem IsX.inst1 (i:IsX fr h x C (some d)) {o:Obj} (hd:h.get? d=some o):∃ ox,InstAt h x ox C (some o):=by
 obtain ⟨vs,e,_⟩:=i;exact ⟨_,e,rfl,rfl,hd⟩
theorem AB (X:K.In s.heap) (i:IsX fr s.heap x C none) (t:XCls K C) (B:(clsIn K C).any (λr=>B8 r.mro)=true) (hs:findIn K (.ref C) "__setattr__" = some (some (.builtin "object.__setattr__"))) (u:findIn K (.ref C) name=some none)
  (h:∀ h' t',IsX fr h' x C (some s.heap.objs.size)->h'.Ns1 s.heap.objs.size (λy=>if y=name then some v else none)->(∀ b o,b≠x->s.heap.get? b=some o->h'.get? b=some o)->Q () { s with heap:=h',toks:=t' }):wpAny (model prog w) A (setAttr (.ref x) name v) Q E s:=by
 obtain ⟨ox,I⟩:=i.inst0;obtain ⟨vs,a,hsz⟩:=i;obtain ⟨r,D,hd⟩:=any_some t.hd;refine set_plain X I hs (BB X I t B u λb=>?_);refine Do (Dp (Do (Do (HJ a (Do (Looks.here (looks_clsIn X D) ?_))))));rw [hd];have f:=Dw (Dv a);have d:(s.heap.push { cls:=.type "dict",data:=.dict #[] }).get? x=some { cls:=.ref C,data:=.fields vs }:=Dq _ a;refine Do (IN (Do (wpAny_update d (Dp ?_))));have p:((s.heap.push { cls:=.type "dict",data:=.dict #[] }).update x λo=>{ cls:=o.cls,dict:=some s.heap.objs.size,data:=o.data,slots:=o.slots }).get? s.heap.objs.size=some { cls:=.type "dict",data:=.dict #[] }:=
  (Fw _ _ _ _ f.symm).trans (Heap.get?_push_at rfl rfl)
 have n:((s.heap.push { cls:=.type "dict",data:=.dict #[] }).update x λo=>{ cls:=o.cls,dict:=some s.heap.objs.size,data:=o.data,slots:=o.slots }).get? x=some { cls:=.ref C,dict:=some s.heap.objs.size,data:=.fields vs }:=
  EB _ d rfl
 have m:∀ b o,b≠x->s.heap.get? b=some o->((s.heap.push { cls:=.type "dict",data:=.dict #[] }).update x λo=>{ cls:=o.cls,dict:=some s.heap.objs.size,data:=o.data,slots:=o.slots }).get? b=some o:=
  λb o l e=>(Fw _ _ _ _ l).trans (Dq _ e)
 have q:((s.heap.push { cls:=.type "dict",data:=.dict #[] }).update x λo=>{ cls:=o.cls,dict:=some s.heap.objs.size,data:=o.data,slots:=o.slots }).Ns s.heap.objs.size (λ_=>none):=
  ⟨_,#[],_,p,rfl,λe F=>absurd F (by simp),λ_=>rfl⟩
 generalize ((s.heap.push { cls:=.type "dict",data:=.dict #[] }).update x λo=>{ cls:=o.cls,dict:=some s.heap.objs.size,data:=o.data,slots:=o.slots })=h1 at p n m q ⊢;refine Do (Dp (Do (wpAny_nsSet1 (Heap.Ns1.of_empty q) λh' c hs'=>?_)));obtain ⟨H,G,z,g,j,k⟩:=c.count (Within.cons name v Within.nil);refine Do (wpAny_lookBehind g (by rw [j];exact pastItsLine_dict (EQ k (by rw [Gi,List.length_nil,Ew];omega))) (Dp ?_));exact h h' _ ⟨vs,(hs'.2 x f).trans n,hsz⟩ c λb o l e=>(hs'.2 b (Dw (Dv e))).trans (m b o l e)
theorem BX {d:Addr} {mA:Str->Option Value} {ns:List Str} (X:K.In s.heap) (i:IsX fr s.heap x C (some d)) (hd:s.heap.Ns1 d mA) (o:d≠x) (l:XCls K C) (t:(clsIn K C).any (λm=>B8 m.mro)=true) (hs:findIn K (.ref C) "__setattr__" = some (some (.builtin "object.__setattr__"))) (n:findIn K (.ref C) name=some none)
  (u:Within mA ns) (hz:ns.length<=1000)
  (h:∀ h' t',h'.Ns1 d (λy=>if y=name then some v else mA y)->Heap.SameBut d s.heap h'->Q () { s with heap:=h',toks:=t' }):wpAny (model prog w) A (setAttr (.ref x) name v) Q E s:=by
 obtain ⟨od,e,z⟩:=L8 hd;obtain ⟨ox,I⟩:=i.inst1 e;obtain ⟨vs,k,hsz⟩:=i;obtain ⟨m,p,j⟩:=any_some l.hd;refine set_plain X I hs (BB X I l t n λb=>?_);refine Do (Dp (Do (Do (HJ k (Do (Looks.here (looks_clsIn X p) ?_))))));rw [j];refine Dp ?_;refine Do (Dp (Do (wpAny_nsSet1 hd λh' a hs'=>?_)));obtain ⟨B,r,q,c,f,g⟩:=a.count (Within.cons name v u);refine Do (wpAny_lookBehind c (by rw [f];exact pastItsLine_dict (EQ g (by rw [Gi,Ew];omega))) (Dp ?_));exact h h' _ a hs'
end
section
variable {prog:Program} {w:World} {A:Around} {E:Value->Shared->Prop} {s:Shared} {K:Frag} {x C:Addr} {d:Option Addr} {R:Result->Shared->Prop} {y:Value}
theorem zP {l:Option Addr} (X:K.In s.heap) (i:IsX l s.heap x C d) (p:V8 K C=true)
  (h:∀ h',(∀ b o,b≠x->s.heap.get? b=some o->h'.get? b=some o)->IsX l h' x C d->R (.ok (.ret .none)) { s with heap:=h' }) :
  codeAny (model prog w) A (.call (.builtin "ValueError.__init__") ⟨[.ref x,y],[]⟩) R s:=by
 have F:=HK;obtain ⟨vs,a,hsz,f⟩:=i;have n:Looks (model prog w) s.heap (typeOf (.ref x)) (.ref C):=(Looks.ld a).andThen .now;have Y:=E8 (M:=model prog w) X p;have g:Looks (model prog w) s.heap (isInstance (.ref x) (.type "ValueError")) true:=n.andThen Y.isV;obtain ⟨v,t,u,B,z,_,_⟩:=Y.obj;have m:=F.noStar;refine FZ F.init.plain F.initEntry ?_;simp only [checkBuiltinCall,F.initKind,F.initSplit,F.initRow];refine Do (g.here ?_);simp only [Bool.not_true,EV,Ha];have k:(s.heap.push { cls:=.type "tuple",data:=.seq #[y] }).get? x=some { cls:=.ref C,dict:=d,data:=.fields vs }:=Dq _ a;obtain ⟨j,q⟩:∃ j,vs[0]?=some j:=⟨vs[0]'(by omega),EK _⟩;have c:R (.ok (.ret .none)) { s with heap:=(s.heap.push { cls:=.type "tuple",data:=.seq #[y] }).update x (Obj.mapFields (·.setIfInBounds 0 (.ref s.heap.objs.size))) }:=by
  refine h _ (λb o r e=>(Fw _ _ _ _ r).trans (Dq _ e)) ⟨vs.setIfInBounds 0 (.ref s.heap.objs.size),EB _ k rfl,?_⟩;rw [Array.size_setIfInBounds];exact ⟨hsz,by rw [Array.getElem?_setIfInBounds_ne (by decide)];exact f⟩
 unfold Bind.checkArgs
 repeat lk
 rw [q];refine Dp (Do (Fu k rfl (by omega) ?_));cases j <;> first | exact Dp (Dp c) | exact wpAny_letGo (Dp c)
end
end L2
namespace L2
open PySem PySem.Spec PyProof.Rows
def M8 (a:Option Addr) (x C:Addr) (d:Option Addr):HO:=.ext λh=>IsX a h x C d
abbrev N6 (x C:Addr) (d:Option Addr):HO:=M8 none x C d
def G1 (d:Addr) (fs:List (Str×V)):HO:=.ext λh=>∃ mA,h.Ns1 d mA/\(∀ f,RelO (fs.lookup f) (mA f))/\PySem.Within mA (fs.map (·.1))/\fs.length<=900
theorem okX {h:Heap} {x C:Addr} {d:Option Addr} (i:IsX fr h x C d):ObjOk P w H h x (M8 fr x C d):=by
 obtain ⟨vs,e,z⟩:=id i;refine ⟨i,⟨_,e⟩,λf g ⟨a,c,b⟩ k=>⟨a,k _ c,b⟩⟩
theorem okD {mA:Str->Option Value} (n:h.Ns1 d mA) (r:∀ f,RelO (fs.lookup f) (mA f)) (g:PySem.Within mA (fs.map (·.1))) (l:fs.length<=900):ObjOk P w H h d (G1 d fs):=by
 obtain ⟨o,es,p,e,q⟩:=id n;exact ⟨⟨mA,n,r,g,l⟩,⟨o,e⟩,λm s ⟨a,i,j,b,c⟩ k=>⟨a,i.at k,j,b,c⟩⟩
structure XC (K:PySem.W.Frag) (C:Addr):Prop where
 xc:XCls K C
 ex:V8 K C=true
 vm:(PySem.W.clsIn K C).any (λcd=>B8 cd.mro)=true
 sa:PySem.W.findIn K (.ref C) "__setattr__" = some (some (.builtin "object.__setattr__"))
 kp:PySem.W.keepIn K (.ref C)=true
section
variable {X:Cx} {pins:List (Addr×Obj)} {σ:St} {H:Hp} {s:Shared} {x C:Addr}
theorem Inv.isX {a:Option Addr} {d:Option Addr} (I:Inv X pins σ H s) (e:H x=some (M8 a x C d)):IsX a s.heap x C d:=(I.hok x _ e).1
theorem Inv.isD (I:Inv X pins σ H s) (e:H d=some (G1 d fs)):∃ mA,s.heap.Ns1 d mA/\(∀ f,RelO (fs.lookup f) (mA f))/\PySem.Within mA (fs.map (·.1))/\fs.length<=900:=(I.hok d _ e).1
theorem Inv.madeX (I:Inv X pins σ H s):Inv X pins σ (upd H (s.heap.objs.size+1) (N6 (s.heap.objs.size+1) C none)) { s with heap:=(s.heap.push (D8 us)).push (C7 C s.heap.objs.size) }:=by
 have a:((s.heap.push (D8 us)).push (C7 C s.heap.objs.size)).get? (s.heap.objs.size+1)=some (C7 C s.heap.objs.size):=by
  have:=Du (s.heap.push (D8 us)) (o:=C7 C s.heap.objs.size) rfl;rwa [EL] at this
 exact I.laid (λb u q=>Dq _ (Dq _ q)) (EU _) (okX ⟨_,a,rfl,rfl⟩)
end
def xR (C:Addr) (sp:Sp) (E:XK) (t:TA):TE:=λσ H Q=>t σ H λvs a=>vs.length<=1000/\∀ x,a x=none->sp (.ref x :: vs) (upd a x (N6 x C none)) (λv b=>v=.non/\Q (.ref x) b) E
section
variable {X:Cx} {CX:CXT} {k:Nat} {f C:Addr} {fd:FuncData} {ps:List Str} {sp:Sp} {E:XK} {nm:Str} {p pos:Pos} {e:Expr} {es:List Expr} {t:TA}
theorem Z4 (M:XC X.K C) (hi:PySem.W.findIn X.K (.ref C) "__init__" = some (some (.ref f))) (hf:PySem.W.isFn X.K (.ref f)=true) (F:FnOk X.prog X.w X.K X.mg X.base CX k f fd ps sp) (hr:Room CX.q (k+1) X.A) (hg:Gl X nm) (hm:X.mg nm=some (.ref C)) (hb:Binds X.K fd ps []) (hx:A8 CX X E)
  (ha:PA X (e :: es) t) (hdb:(nm==("__debug__" : Str))=false:=by decide) (he:starEach (e :: es) X.env=(false,eval e X.env) :: starEach es X.env:=by rfl) (hpl:(backTo pos (starEach es X.env)).any (·.1)=false:=by rfl) :
  PE X (.Call (.Name nm p) (e :: es) [] pos) (xR C sp E t):=by
 intro pins s σ H Q I h;refine EI (F4 I hg hm ?_ hdb);refine GT I.ok.mod.kin M.kp (thn (ha pos pins s σ H _ I h) λus s1 ⟨vs,H1,I1,r,hl,q⟩=>⟨I1.kIn,?_⟩) he hpl;have hq:=q (s1.heap.objs.size+1) (I1.hok.fresh (EU _));have I2:=Inv.madeX (C:=C) (us:=us) I1;have r2:Vals (V.ref (s1.heap.objs.size+1) :: vs) (Value.ref (s1.heap.objs.size+1) :: us):=.cons rfl r;have hlen:(Value.ref (s1.heap.objs.size+1) :: us++[]).length=ps.length:=by
  have e:=r2.length;rw [F.len _ _ _ _ hq] at e;simpa using e.symm
 have hus:us.length<=sizeLine:=by
  have:=r.length;have z:(1000:Nat)<=sizeLine:=by decide
  omega
 have hb2:=hb _ (Value.ref (s1.heap.objs.size+1) :: us) I2.kIn hlen;rw [EH] at hb2;refine Gc (Bd (E8 I1.kIn M.ex) (PySem.W.looks_findIn I1.kIn hi) (λself=>PySem.W.bind_fn I1.kIn self (Gy.mp hf)) hus
  (Ff (F.run _ X.stack _ _ ⟨Value.ref (s1.heap.objs.size+1) :: us,[]⟩ _ _ _ E (hr.make C us []) (I2.env0.make C us []) hb2 r2 hq) λr s' hq'=>?_))
 cases r with
 | error e=>exact hx pins σ _ _ e s' I2 hq'
 | ok fl=>
  cases fl with
  | ret u=>
   obtain ⟨v,H',I3,rv,ev,q3⟩:=I2.after hq';subst ev;exact ⟨rv,⟨V.ref (s1.heap.objs.size+1),H',I3,rfl,q3⟩⟩
  | next=>exact False.elim hq'
  | brk=>exact False.elim hq'
  | cont=>exact False.elim hq'
end
theorem qJ {o:HO} (h:H x=some o):upd H x o=H:=funext λb=>by
 by_cases e:b=x
 ·subst e;rw [b8,h]
 ·rw [a8 e]
def Bx (K:PySem.W.Frag) (e g:TE) (f:Str):TS:=λD σ H=>g σ H λy b=>e σ b λc a=>∃ x C,c=.ref x/\XC K C/\y9 K C f /\
 ((a x=some (N6 x C none)/\∀ d,a d=none->D.nx σ (upd (upd a d (G1 d [(f,y)])) x (N6 x C (some d)))) \/
 ∃ d fs,d≠x/\a x=some (N6 x C (some d))/\a d=some (G1 d fs)/\fs.length<900/\D.nx σ (upd a d (G1 d (G3 f y fs))))
def BW (K:PySem.W.Frag) (e:TE) (f:Str):TE:=λσ H Q=>e σ H λb a=>∃ c x C d fs v,b=.ref x/\XC K C/\y9 K C f/\a x=some (M8 c x C (some d))/\a d=some (G1 d fs)/\fs.lookup f=some v/\Q v a
section
variable {X:Cx} {o e value:Expr} {f:Str} {pos pos':Pos} {ta tv:TE}
theorem F2 (ha:PE X o ta) (hv:PE X value tv) (hs:swapsWith value (some (.Attribute o f pos')) pos.line X.env=pure false):PS X (.Assign [.Attribute o f pos'] value pos) (Bx X.K ta tv f):=by
 intro pins s σ H D I h;refine plainObj_wpAny_Assign_Attribute (thn (hv pins s σ H _ I h) λu s1 ⟨y,H1,I1,ry,q⟩=>thn (ha pins s1 σ H1 _ I1 q) λov s2 ⟨xv,H2,I2,rx,x,C,ex,M,n,q2⟩=>?_) hs;subst ex;obtain rfl:ov=Value.ref x:=rx;rcases q2 with ⟨e0,q2⟩ | ⟨d,fs,hdx,e0,e1,hl,q2⟩
 ·have i0:=I2.isX e0;obtain ⟨vs0,hx0,_⟩:=id i0;have nd:=I2.hok.fresh (Dz _);have hne:=FW (Dv hx0);refine AB I2.kIn i0 M.xc M.vm M.sa n λh' t' i1 n1 k1=>?_;obtain ⟨vs1,hx1,_⟩:=id i1;obtain ⟨oD,esD,epD,hoD,rD⟩:=id n1;have m1:(h'.update x λ_=>{ cls:=.ref C,data:=.fields vs0 }).get? x=some { cls:=.ref C,data:=.fields vs0 }:=EB _ hx1 rfl;have m2:∀ b,b≠x->(h'.update x λ_=>{ cls:=.ref C,data:=.fields vs0 }).get? b=h'.get? b:=λb hb=>Fw _ _ _ _ hb;have I3:Inv X pins σ (upd H2 s2.heap.objs.size (G1 s2.heap.objs.size [(f,y)])) { s2 with heap:=h'.update x λ_=>{ cls:=.ref C,data:=.fields vs0 },toks:=t' }:=by
   refine I2.laid (λb ob e=>?_) (Dz _) (okD (n1.at λob e=>(m2 _ hne).trans e) (λg=>?_) (λg hg=>?_) (by show 1<=900;decide))
   ·grind
   ·show RelO (List.lookup g [(f,y)]) (if g=f then some u else none);rw [Gh,List.lookup_nil];by_cases q:g=f
    ·subst q;rw [if_pos rfl,show (g==g)=true from by simp];exact ry
    ·have:(g==f)=false:=by simpa using q
     rw [this,if_neg q];exact True.intro
   ·grind
  have I4:=I3.write (t':=t') (by rw [a8 hne.symm,e0];exact True.intro) (.inl rfl) (λb ob hb e=>((m2 b hb).symm.trans e)) ⟨_,hx1⟩ (okX i1);exact ⟨σ,_,I4,q2 _ nd⟩
 ·obtain ⟨mA,n0,r0,w0,l0⟩:=I2.isD e1;refine BX I2.kIn (I2.isX e0) n0 hdx M.xc M.vm M.sa n w0 (by rw [Dr];omega) λh' t' n1 sb=>?_;obtain ⟨oD,esD,epD,hoD,rD⟩:=id n1;refine ⟨σ,_,I2.write (by rw [e1];exact True.intro) (.inl rfl) (λb ob hb e=>(sb.2 b hb).trans e) ⟨_,hoD⟩ (okD n1 (λg=>?_) (λg hg=>?_) ?_),q2⟩
  ·show RelO ((G3 f y fs).lookup g) (if g=f then some u else mA g);rw [W5];by_cases q:g=f
   ·rw [if_pos q,if_pos q];exact ry
   ·grind
  ·by_cases q:g=f
   ·rw [q];exact (U0 f y fs).1
   ·exact (U0 f y fs).2 g (w0 g λz=>hg (by show (if g=f then some u else mA g)=none;rw [if_neg q];exact z))
  ·have:=V6 f y fs;omega
theorem sM (z:PE X e ta) (w:attributeBase e f X.env (eval e X.env)=eval e X.env):PE X (.Attribute e f pos) (BW X.K ta f):=by
 intro pins s σ H Q I h;refine rh w (thn (z pins s σ H _ I h) λu B ⟨F,m,a,o,A,x,C,d,fs,v,k,M,n,p,y,l,q⟩=>?_);subst k;obtain rfl:u=Value.ref x:=o;obtain ⟨mA,i,t,G,E⟩:=a.isD y;obtain ⟨od,b,r⟩:=L8 i;obtain ⟨ox,J⟩:=(a.isX p).inst1 b;have g:=t f;rw [l] at g;obtain ⟨D,j,c⟩:=RelO.some_of g;exact DO a.kIn J M.xc (PySem.W.findObj_own M.xc.hd n rfl (by rw [r,j])) (jp c) ⟨v,m,a.tok _,c,q⟩
def BG:V->Option Value
 | .ref a=>some (.ref a)
 | .ty n=>some (.type n)
 | _=>none
theorem bY:k8 X (.builtin "isinstance") (λxs H Q=>∃ g x C d y c b,xs=[.ref x,y]/\XC X.K C/\H x=some (M8 g x C d)/\(∀ d',d=some d'->∃ fs,H d'=some (G1 d' fs))/\BG y=some c/\PySem.W.kitOne X.K (.ref C) c=some b/\Q (.bl b) H):=by
 intro pins s σ H xs us Q I r h;obtain ⟨g,x,C,d,y,c,b,rfl,M,f,hd,i,o,q⟩:=h;obtain ⟨u,k,rfl,l,e⟩:=jU r;cases (l);have m:k=c:=by
  cases y <;> first | (cases i;exact e) | cases i
 subst m;have J:∃ ox od,PySem.W.InstAt s.heap x ox C od:=by
  cases d with
  | none=>obtain ⟨ox,J⟩:=(I.isX f).inst0;exact ⟨ox,_,J⟩
  | some d'=>
   obtain ⟨fs,n⟩:=hd d' rfl;obtain ⟨mA,j,_⟩:=I.isD n;obtain ⟨od,a,_⟩:=L8 j;obtain ⟨ox,J⟩:=(I.isX f).inst1 a;exact ⟨ox,_,J⟩
 exact FH (AX M.xc) I.kIn J o (λz=>nomatch z) λp=>⟨.bl b,H,I.tok _,rfl,q⟩
end
def TbO (T:Addr):HO:=.ext λh=>∃ o a,h.get? T=some o/\o.data=.fields a/\3<a.size
theorem okT {o:Obj} {a:Array Value} (e:h.get? T=some o) (d:o.data=.fields a) (z:3<a.size):ObjOk P w H h T (TbO T):=
 ⟨⟨o,a,e,d,z⟩,⟨o,e⟩,λc b ⟨o,a,e,d,z⟩ k=>⟨o,a,k _ e,d,z⟩⟩
structure Fx (K:PySem.W.Frag) (H:Hp) (a C:Addr) (d tb:Option Addr):Prop where
 xc:XC K C
 at_:H a=some (M8 tb a C d)
 dc:∀ d',d=some d'->d'≠a/\∃ fs,H d'=some (G1 d' fs)
 tb_:∀ T,tb=some T->T≠a/\H T=some (TbO T)
def Mv (H:Hp) (a C:Addr) (d:Option Addr) (H':Hp):Prop:=(∀ b o,b≠a->H b=some o->H' b=some o)/\∃ c,H' a=some (M8 c a C d)
section
variable {X:Cx} {pins:List (Addr×Obj)} {σ:St} {H:Hp} {s:Shared} {a C T:Addr} {d tb:Option Addr} {A:Around} {E:Value->Shared->Prop} {Q:Unit->Shared->Prop}
theorem Inv.slots (I:Inv X pins σ H s) (hs:Heap.SlotsOnly (frs X.stack) s.heap h'):Inv X pins σ H { s with heap:=h' }:=by
 have k:∀ b u,H b≠none->s.heap.get? b=some u->h'.get? b=some u:=λb u n e=>(hs.2.1 b λz=>n (I.stkFree b z)).trans e;have f:Un (frs X.stack) [] H H s.heap h':=⟨λb o e _ g _=>(hs.2.1 b g).trans e,λb o e _ _ _=>hs.2.2 b o e,λ_ _ _ n _=>n,λb o e _=>let ⟨h,q⟩:=hs.2.2 b o e;⟨_,q⟩,λ_ _ e=>e,λ_ _ _ e=>e,λb ps e=>⟨#[],by rw [e];simp⟩⟩;have d:=λb u e=>(I.hok b u e).stay (λc v a q=>k c v (by
  rcases a with a | a
  ·rw [a,e];simp
  ·rw [a];simp) q) (λ_ q=>q) λ_ _ q=>q
 exact I.call f d I.bare λb z=>absurd z (by simp)
theorem Fx.isX (b:Fx X.K H a C d tb) (I:Inv X pins σ H s):IsX tb s.heap a C d:=I.isX b.at_
theorem Inv.setTb (I:Inv X pins σ H s) (e:H T=some (TbO T)) (k:Inv X pins σ H { s with heap:=s.heap.update T (Obj.mapFields (·.setIfInBounds 3 v)) }->Q () { s with heap:=s.heap.update T (Obj.mapFields (·.setIfInBounds 3 v)) }) :
  wpAny (model X.prog X.w) A (setField (.ref T) 3 v) Q E s:=by
 obtain ⟨o,g,c,f,z⟩:=(I.hok T _ e).1;refine Fu c f z (k ?_);have hd:=Obj.data_mapFields f (·.setIfInBounds 3 v);have d:=EB (Obj.mapFields (·.setIfInBounds 3 v)) c (Obj.isFreed_of_fields hd);have a:=I.write (t':=s.toks) (by rw [e];exact True.intro) (.inl rfl) (λb u n q=>(Fs _ _ (Ne.symm n)).trans q) ⟨_,d⟩ (okT d hd (by simpa using z));rw [qJ e] at a;exact a
theorem dH (I:Inv X pins σ H s) (r:A.frames=some X.stack) (i:X.stack=X.env :: X.outer) (x:X.env.frame=some X.env.locals) (j:Fx X.K H a C d tb)
  (h:∀ H' s' T,Inv X pins σ H' s'->Fx X.K H' a C d (some T)->Mv H a C d H'->Q () s') :
  wpAny (model X.prog X.w) A (do let B <- frameOf X.env;let pl <- entryPlaceOf X.env.locals hadNext;let b <- EntryCells.newEntry head B .none (rawInt X.env.locals) .none pl;setField (.ref a) 1 b) Q E s:=by
 have p:=I.stack;rw [i] at p r;refine Do (wpAny_frameOf_fun r p x λc e=>?_);have v:=I.slots (by rw [i];exact e);refine Do (wpAny_entryPlaceOf λpl l=>?_);refine Do (Ez ?_ (l.sizeOk5 _ _ _ _ _));have D:=Du c (o:={ cls:=.type "traceback",dict:=none,data:=.fields ([head,.ref X.env.locals,.none,rawInt X.env.locals,.none]++(if pl.isEmpty then List.replicate 6 Value.none else pl)).toArray }) rfl;have m:=v.laid (t':=s.toks) (λb u q=>Dq _ q) (Dz _)
  (okT D rfl (by simp <;> omega))
 have k:=v.hok.fresh (Dz _);have f:c.objs.size≠a:=λz=>by rw [z,j.at_] at k;cases k
 have t:upd H c.objs.size (TbO c.objs.size) a=some (M8 tb a C d):=by rw [a8 f.symm];exact j.at_
 generalize (c.push { cls:=.type "traceback",dict:=none,data:=.fields ([head,.ref X.env.locals,.none,rawInt X.env.locals,.none]++(if pl.isEmpty then List.replicate 6 Value.none else pl)).toArray })=h₂ at m ⊢;obtain ⟨vs,g,hsz,F⟩:=m.isX t;refine Fu g rfl (by omega) ?_;have w:=EB (Obj.mapFields (·.setIfInBounds 1 (Value.ref c.objs.size))) g rfl;have y:=m.write (t':=s.toks) (o:=M8 (some c.objs.size) a C d) (by rw [t];exact True.intro) (.inl rfl)
  (λb u n q=>(Fs _ _ (Ne.symm n)).trans q) ⟨_,w⟩ (okX ⟨_,w,by simpa using hsz,by simp [tbV,hsz]⟩)
 refine h _ _ c.objs.size y ⟨j.xc,b8,λd' z=>?_,λT z=>?_⟩ ⟨λb o n q=>?_,_,b8⟩
 ·obtain ⟨n,fs,q⟩:=j.dc d' z;exact ⟨n,fs,by rw [a8 n,a8 (b9 q k)];exact q⟩
 ·cases z;exact ⟨f,by rw [a8 f];exact b8⟩
 ·rw [a8 n,a8 (b9 q k)];exact q
theorem iP (I:Inv X pins σ H s) (i:A.frames=some X.stack) (f:X.stack=X.env :: X.outer) (g:X.env.frame=some X.env.locals) (c:Fx X.K H a C d tb)
  (h:∀ H' s' T,Inv X pins σ H' s'->Fx X.K H' a C d (some T)->Mv H a C d H'->Q () s'):wpAny (model X.prog X.w) A (noteFrame (.ref a) X.env) Q E s:=by
 obtain ⟨vs,e,hsz,j⟩:=c.isX I;unfold noteFrame;simp only [g];cases tb with
 | none=>
  refine Do (FF e rfl j ?_);rw [if_neg (by decide)];exact dH I i f g c h
 | some T=>
  refine Do (FF e rfl (x:=.ref T) j ?_);rw [if_pos (show (Value.ref T != Value.none)=true from by simp)];obtain ⟨t,k⟩:=c.tb_ T rfl;obtain ⟨o,p,n,r,z⟩:=(I.hok T _ k).1;refine Do (FF n r (EK z) ?_);by_cases l:(p[3]==rawInt X.env.locals)=true
  ·rw [if_pos l];exact Dp (h H s T I c ⟨λb o _ q=>q,_,c.at_⟩)
  ·rw [if_neg l];exact Do (I.setTb k λm=>dH m i f g c h)
theorem M1 (I:Inv X pins σ H s) (c:Fx X.K H a C d (some T)) (h:∀ s',Inv X pins σ H s'->Q () s'):wpAny (model X.prog X.w) A (setFlight (.ref a) fl) Q E s:=by
 obtain ⟨vs,b,hsz,f⟩:=c.isX I;refine Do (FF b rfl (x:=.ref T) f ?_);rw [if_pos (show (Value.ref T != Value.none)=true from by simp)];exact I.setTb (c.tb_ T rfl).2 λe=>h _ e
theorem gi (I:Inv X pins σ H s) (f:A.frames=some X.stack) (c:X.stack=X.env :: X.outer) (i:X.env.frame=some X.env.locals) (l:Fx X.K H a C d tb)
  (h:∀ H' s' T,Inv X pins σ H' s'->Fx X.K H' a C d (some T)->Mv H a C d H'->Q () s'):wpAny (model X.prog X.w) A (leaving X.env (.ref a)) Q E s:=by
 exact Do (iP I f c i l λg n T k b j=>M1 k b λm e=>h g m T e b j)
end
end L2
namespace L2
open PySem PySem.W PySem.Calls PySem.Spec PyProof.Rows
section
variable {prog:Program} {w:World} {A:Around} {E:Value->Shared->Prop} {s:Shared} {K:Frag} {env:PySem.Env}
theorem bn (m:A.handled=none)
  (h:wpAny (model prog w) A x (λv c=>∃ a C d,v=.ref a/\K.In c.heap/\XC K C/\IsX none c.heap a C d/\E (.ref a) c) E s):wpAny (model prog w) A (raiseStmt env (some x) none) Q E s:=by
 refine Do (Ef h (λv c i=>?_) λ_ _ x=>x);obtain ⟨a,C,d,rfl,X,M,⟨vs,b,hsz,k⟩,l⟩:=i;have Y:=E8 (M:=model prog w) X M.ex;have e:Looks (model prog w) c.heap (typeOf (.ref a)) (.ref C):=(Looks.ld b).andThen .now;have f:Looks (model prog w) c.heap (isType (.ref a)) false:=(Looks.ld b).andThen .now;have g:Looks (model prog w) c.heap (isInstance (.ref a) (.type "BaseException")) true:=e.andThen Y.isB;have j:=Y.ty;refine Do (Dp (Do (Ep (Do (Do (f.here ?_))))));refine Dp ?_;refine Do (g.here ?_);refine Dp (Do (f.here ?_));refine Do (Do (e.here (Do (j.here ?_))));rw [if_pos (by rfl)];refine Dp (Do (Do (FF b rfl k ?_)));rw [if_neg (by decide)];exact Dp (wpAny_raiseNew_none m l)
theorem fj {a C T:Addr} {d o:Option Addr} {b:Bool} {Q:Bool->Shared->Prop} (X:K.In s.heap) (M:XC K C) (l:XC K T) (i:IsX o s.heap a C d) (c:kitOne K (.ref C) (.ref T)=some b) (h:Q b s) :
  wpAny (model prog w) A (excMatches (.ref a) (.ref T)) Q E s:=by
 obtain ⟨vs,g,hsz,p⟩:=i;have Y:=E8 (M:=model prog w) X M.ex;have f:=E8 (M:=model prog w) X l.ex;have n:Looks (model prog w) s.heap (typeOf (.ref a)) (.ref C):=(Looks.ld g).andThen .now;have k:Looks (model prog w) s.heap (isInstance (.ref T) (.type "tuple")) false:=f.ty.andThen (Looks.of_pure tc_notTuple);have m:Looks (model prog w) s.heap (isExcClass (.ref T)) true:=f.isT.andThen f.isB;have j:Looks (model prog w) s.heap (isSubtype (.ref C) (.ref T)) b:=by
  unfold kitOne at c;by_cases e:((Value.ref C:Value)==.ref T)=true
  ·rw [if_pos e] at c;cases c;cases (eq_of_beq e);exact Y.self
  ·rw [if_neg e] at c;exact (kit_cls X c).2.2
 refine Do (k.here ?_);simp only [EV,Ha];refine Do (Dp ?_);rw [FU];refine Do (Do (Do (m.here ?_)));refine Dp ?_;dsimp only;rw [HI];refine Dp (Do (n.here ?_));rw [FU];refine Do (Do (Do (j.here ?_)));cases b with
 | true=>exact Dp (Dp (Dp h))
 | false=>
  refine Dp ?_;dsimp only;rw [HI];exact Dp (Dp h)
end
end L2
namespace L2
open PySem PySem.Spec PyProof.Rows
def eO (X:Cx) (v:Value):Cx:={ X with A:=X.A.mark (some v),calm:=false,xe:=λ_ _=>False }
section
variable {X:Cx} {pins:List (Addr×Obj)} {σ:St} {H:Hp} {s:Shared} {v:Value}
theorem Inv.hushed (I:Inv X pins σ H s) (v:Value):Inv (eO X v) pins σ H s:=
 have a:=I.ok
 ⟨⟨a.mod,a.kind,a.glob,a.blt,a.above,a.inj,a.has,a.cab,λz=>absurd (show (false:Bool)=true from z) (by decide),a.frames,a.stk,a.exf,a.bs,a.bsz,a.noex,a.exfs,a.funs,a.frf⟩,I.os,I.bare,I.base,I.loc,I.cell,I.free,I.freeC,I.pin,I.hok,I.len⟩
theorem Inv.unhush (a:X.Ok) (I:Inv (eO X v) pins σ H s):Inv X pins σ H s:=⟨a,I.os,I.bare,I.base,I.loc,I.cell,I.free,I.freeC,I.pin,I.hok,I.len⟩
theorem Y2 {M:Model} {A:Around} {E:Value->Shared->Prop} {i:Nat} {x:Str} {pos:Pos} {Q:Unit->Shared->Prop} (I:Inv X pins σ H s) (hN:X.N.Nodup) (hi:X.N[i]?=some x) (hk:X.env.scope.names.lookup x=some .local)
  (h:∀ s',Inv X pins (σ.set i none) H s'->Q () s'):wpAny M A (do bindName X.env x .none;unbindBehindTheSuite X.env x pos) Q E s:=by
 obtain ⟨m,hn,hl⟩:=id I.loc;have hcls:(X.env.scope.kind==.class||(X.env.scope.kind==.module&&X.env.locals != X.env.globals))=false:=by rw [I.ok.kind];rfl
 have hiσ:i<σ.length:=by rw [I.len];exact (Eb.mp hi).1
 have cne:=I.cne;refine wpAny_nameGoes_keeps hk hn hcls λh' v hn' hs=>?_;have tracked:HOk X.prog X.w H h':=λb ob e=>by
  refine (I.hok b ob e).stay (λc w' hc q=>(hs.2 c ?_).trans q) (λ_ q=>q) λ_ _ q=>q;rintro rfl;rcases hc with hc | hc
  ·rw [<- hc,I.free] at e;cases e
  ·rw [I.free] at hc;cases hc
 refine h _ ⟨I.ok,I.os,I.bare,⟨λb o e n hb hx=>?_,λb o e n hb hx=>?_,I.base.free,λb o e hx=>?_,I.base.tups,I.base.frzs,I.base.tbls⟩,⟨_,hn',λj y v' e1 e2 e3=>?_⟩,λy c e=>?_,I.free,I.freeC,λp hp=>?_,tracked,by simpa using I.len⟩
 ·exact (hs.2 b (Dw (Eg (Dv e) I.ok.above))).trans (I.base.keep b o e n hb hx)
 ·obtain ⟨sl,e1⟩:=I.base.slot b o e n hb hx;exact ⟨sl,(hs.2 b (Dw (Eg (Dv e) I.ok.above))).trans e1⟩
 ·obtain ⟨o',e1⟩:=I.base.there b o e hx;exact ⟨o',(hs.2 b (Dw (Eg (Dv e) I.ok.above))).trans e1⟩
 ·by_cases hj:j=i
  ·subst hj;rw [EM hiσ] at e2;cases e2
  ·rw [Fh (Ne.symm hj)] at e2;obtain ⟨u',r',q⟩:=hl j y v' e1 e2 e3;refine ⟨u',r',?_⟩;rcases q with ⟨k,e⟩ | ⟨k,c,e,z⟩
   ·refine .inl ⟨k,?_⟩;have:y≠x:=λe=>hj (aS hN e1 (e▸hi));simp [this,e]
   ·exact .inr ⟨k,c,e,z.sameBut hs (cne y c e)⟩
 ·obtain ⟨w',z⟩:=I.cell y c e;exact ⟨w',z.sameBut hs (cne y c e)⟩
 ·obtain ⟨e,n,ne,nf,d⟩:=I.pin p hp;exact ⟨(hs.2 p.1 ne).trans e,n,ne,nf,d⟩
end
section
variable {X:Cx} {pins:List (Addr×Obj)} {σ:St} {H:Hp} {s:Shared}
theorem xY (hg:X.A.guards=some []) (hu:X.A.units+80<cLine) (I:Inv X pins σ H s) (hd:DAt X.K H v d) (ru:RelV v u) (S:Shows d) (hl:d.shown.length<=4000) (hx:∀ x,v=.str x->x.length<=4000) :
  wpAny (model X.prog X.w) X.A (formatField u Str.empty) (λz s'=>∃ y t,z=.str y t/\y.length<=4000/\Inv X pins σ H s') E s:=by
 have sh:=S.sh;have sz:=S.sz;have big:(4000:Nat)<=sizeLine:=by decide
 cases hd with
 | non=>cases (ru);exact wpAny_formatField_none ⟨_,_,rfl,hl,I.tok _⟩
 | bl b=>cases (ru);exact wpAny_formatField_bool ⟨_,_,rfl,hl,I.tok _⟩
 | int i=>obtain ⟨t,e⟩:=(ru);subst e;exact formatField_int_small (by simpa [PyData.showable] using sh) ⟨_,_,rfl,hl,I.tok _⟩
 | str x=>obtain ⟨t,e⟩:=(ru);subst e;exact formatField_str (λt' tk=>⟨_,_,rfl,hx x rfl,I.tok _⟩) (EQ (hx x rfl) big)
 | lst h1 h2=>
  obtain ⟨as,rr⟩:=DAt.reads I (.lst h1 h2) ru;obtain ⟨a,rfl⟩:=isRef_of_reads rr rfl;exact formatField_of_reads rr sh (PyData.noDict_hsm S.nd) hg (by have:=S.dp;omega) (λ_ _ e=>e) (λh' u tk hk=>⟨_,_,rfl,hl,I.kept hk⟩) sz
 | tup h1 h2=>
  obtain ⟨as,rr⟩:=DAt.reads I (.tup h1 h2) ru;obtain ⟨a,rfl⟩:=isRef_of_reads rr rfl;exact formatField_of_reads rr sh (PyData.noDict_hsm S.nd) hg (by have:=S.dp;omega) (λ_ _ e=>e) (λh' u tk hk=>⟨_,_,rfl,hl,I.kept hk⟩) sz
end
theorem aV {Q c:Str->Shared->Prop} (k:∀ out s,Q out s->c out s):∀ (a:List (Sem Value)) (b:Str) (s:Shared),Joins M A E a b Q s->Joins M A E a b c s
 | [],b,s,h=>k _ _ h
 | x :: r,b,s,h=>Ef h (λv d ⟨y,t,e,l,q⟩=>⟨y,t,e,l,aV k r _ d q⟩) λ_ _ z=>z
abbrev TF:=St->Hp->(Hp->Prop)->Prop
def PFs (X:Cx) (es:List Expr) (n:Nat) (t:TF):Prop:=
 ∀ (a:Str) (pins:List (Addr×Obj)) (s:Shared) (σ:St) (H:Hp) (Q:Hp->Prop),a.length+n<=sizeLine->Inv X pins σ H s->t σ H Q ->
  Joins (model X.prog X.w) X.A X.xe (evalEach es X.env) a (λout b=>out.length<=sizeLine/\∃ H',Inv X pins σ H' b/\Q H') s
def fNil:TF:=λ_ H Q=>Q H
def Cd (K:PySem.W.Frag) (te:TE) (t:TF):TF:=λσ H Q=>te σ H λv a=>∃ d,DAt K a v d/\Shows d/\d.shown.length<=4000/\(∀ x,v=.str x->x.length<=4000)/\t σ a Q
section
variable {X:Cx} {e:Expr} {es:List Expr} {n:Nat} {t:TF} {te:TE} {pos:Pos}
theorem R0:PFs X [] 0 fNil:=λa pins s σ H Q b I q=>⟨by omega,H,I,q⟩
theorem D7 (h:PFs X es n t) (c:x.length<=1000:=by decide):PFs X (.Constant (.str x) k pos :: es) (1000+n) t:=λa pins s σ H Q b I q=>by
 refine Calls.Constant_str ⟨x,_,rfl,?_,?_⟩
 ·rw [Ih];omega
 ·exact h (a++x) pins _ σ H Q (by rw [Ih];omega) (I.tok _) q
theorem F8 (o:X.A.guards=some []) (j:X.A.units+80<cLine) (g:PE X e te) (h:PFs X es n t):PFs X (.FormattedValue e (-1) none pos :: es) (4000+n) (Cd X.K te t):=λa pins s σ H Q x I q=>by
 refine wpAny_FormattedValue_plain (thn (g pins s σ H _ I q) λu A ⟨v,m,i,l,d,hd,S,f,w,p⟩=>?_);refine thn (xY o j i hd l S f w) λz b ⟨y,r,c,B,k⟩=>?_;refine ⟨y,r,c,?_,?_⟩
 ·rw [Ih];omega
 ·exact h (a++y) pins b σ m Q (by rw [Ih];omega) k p
def tFs (t:TF):TE:=λσ H Q=>t σ H λH'=>∀ z:Str,z.length<=sizeLine->Q (.str z) H'
theorem R6 (h:PFs X (e :: e2 :: es) n t) (f:n<=100000):PE X (.JoinedStr (e :: e2 :: es) pos) (tFs t):=by
 intro pins s σ H Q I q;refine wpAny_JoinedStr ?_;have d:(100000:Nat)<=sizeLine:=by decide
 have a:=h Str.empty pins s σ H _ (by show 0+n<=sizeLine;omega) I q;exact aV (λout g ⟨l,H',c,b⟩=>⟨l,.str out,H',c.tok _,⟨_,rfl⟩,b out l⟩) _ _ _ a
theorem L4 {f B:Addr} {fd:FuncData} {ps:List Str} {sp:Sp} {E:XK} {b m:Str} {p a:Pos} {pl:Sem Bool} {j:Value} {n:TA}
  (A:Gl X b) (z:X.mg b=some (.ref B)) (hs:PySem.W.specialIn X.K (.ref B) "__getattribute__" = some (some (.builtin "type.__getattribute__"))) (d:PySem.W.readsIn X.K B j=true) (y:PySem.W.findCls X.K (.ref B) j m=some (.val (.ref f))) (u:PySem.W.keepIn X.K (.ref f)=true)
  (F:FnOk X.prog X.w X.K X.mg X.base CX k f fd ps sp) (v:Room CX.q k X.A) (x:Binds X.K fd ps []) (C:A8 CX X E) (t:PA X (e :: es) n)
  (g:(b==("__debug__" : Str))=false:=by decide) (c:starEach (e :: es) X.env=(false,eval e X.env) :: starEach es X.env:=by rfl) (i:(backTo pos (starEach es X.env)).any (·.1)=false:=by rfl)
  (w:eval (.Call (.Attribute (.Name b p) m a) (e :: es) [] pos) X.env=(do
   let o <- eval (.Name b p) X.env
   standAt a.atName
   let (f,first) <- holding [o] (getMethod o m pl)
   callWith pos f first (backTo pos (starEach (e :: es) X.env)) (backToKw pos (keywordEach [] X.env))):=by rfl) :
  PE X (.Call (.Attribute (.Name b p) m a) (e :: es) [] pos) (pV sp [] E n):=by
 intro pins s σ H Q I h;refine PySem.W.methodCall_KW (F4 I A z ?_ g) w;refine PySem.W.method_cls I.kIn hs (PySem.W.cls_value I.kIn d y rfl ?_);refine GT I.ok.mod.kin u (thn (t pos pins _ σ H _ (I.tok _) h) λus G ⟨vs,D,l,r,q⟩=>⟨l.kIn,?_⟩) c i;exact gj F v x .nil C l r q
def ww (K:PySem.W.Frag) (b:TA):TE:=λσ H Q=>b σ H λvs a=>∃ x C d y,vs=[.ref x,y]/\XC K C/\a x=some (N6 x C d)/\Q .non a
theorem qG {p apos:Pos} {pl:Sem Bool} {ta:TA} (hg:Gl X "ValueError") (hm:X.mg "ValueError" = none) (hf:PySem.W.findCls X.K (.type "ValueError") (.type "type") "__init__" = some (.val (.builtin "ValueError.__init__"))) (ha:PA X (e :: es) ta)
  (hst:starEach (e :: es) X.env=(false,eval e X.env) :: starEach es X.env:=by rfl) (hpl:(backTo pos (starEach es X.env)).any (·.1)=false:=by rfl)
  (ht:eval (.Call (.Attribute (.Name "ValueError" p) "__init__" apos) (e :: es) [] pos) X.env=(do
   let ov <- eval (.Name "ValueError" p) X.env
   standAt apos.atName
   let (f,first) <- holding [ov] (getMethod ov "__init__" pl)
   callWith pos f first (backTo pos (starEach (e :: es) X.env)) (backToKw pos (keywordEach [] X.env))):=by rfl) :
  PE X (.Call (.Attribute (.Name "ValueError" p) "__init__" apos) (e :: es) [] pos) (ww X.K ta):=by
 intro pins s σ H Q I h;refine PySem.W.methodCall_KW (pl:=pl) (w8 I hg hm (show bootBuiltins "ValueError" = some (.type "ValueError") by rfl) ?_) ht;obtain ⟨m,hfr⟩:=I.fr;refine PySem.W.method_type hfr I.ok.mod.kin (by rfl) (by decide +kernel) hf rfl ?_;refine FA (thn (ha pos pins _ σ H _ (I.tok _) h) λus s1 ⟨vs,H1,I1,r,x,C,d,y,ev,M,e0,q⟩=>?_) hst hpl;subst ev;obtain ⟨u,u2,rfl,ru,ru2⟩:=jU r;cases (show u=Value.ref x from ru);refine Gc (zP I1.kIn (I1.isX e0) M.ex λh' k1 i1=>?_);obtain ⟨vs1,hx1,_⟩:=id i1;have I2:=I1.write (h':=h') (t':=s1.toks) (x:=x) (e:=x) (o:=N6 x C d) (by rw [e0];exact True.intro) (.inl rfl) (λb ob hb z=>k1 b ob hb z) ⟨_,hx1⟩ (okX i1);rw [qJ e0] at I2;exact ⟨.non,H1,I2,rfl,q⟩
end
end L2
namespace Hn
open PySem L2
def spHE (K:PySem.W.Frag):Sp:=λvs H Q _=>∃ (x:Addr) (y:V) (C:Addr) (d:Option Addr),vs=[.ref x,y]/\XC K C/\H x=some (N6 x C d)/\Q .non H
structure Fmt (K:PySem.W.Frag) (H:Hp) (v:V) (d:PyData):Prop where
 at_:DAt K H v d
 sh:Shows d
 l1:d.shown.length<=4000
 l2:∀ x,v=.str x->x.length<=4000
def Got (H:Hp) (x C:Addr) (fs:List (Str×V)) (H':Hp):Prop:=∃ d,H d=none/\d≠x/\H' x=some (N6 x C (some d))/\H' d=some (G1 d fs)/\∀ b,b≠x->b≠d->H' b=H b
def sp1 (K:PySem.W.Frag) (f:Str):Sp:=λvs H Q _=>∃ (x:Addr) (v:V) (C:Addr) (a:PyData),vs=[.ref x,v]/\XC K C/\y9 K C f/\H x=some (N6 x C none)/\Fmt K H v a/\∀ H',Got H x C [(f,v)] H'->Q .non H'
def sp2 (K:PySem.W.Frag) (f g:Str):Sp:=λvs H Q _=>∃ (x:Addr) (v u:V) (C:Addr) (a b:PyData),vs=[.ref x,v,u]/\XC K C/\y9 K C f/\y9 K C g/\H x=some (N6 x C none)/\Fmt K H v a/\Fmt K H u b /\
 ∀ H',Got H x C [(f,v),(g,u)] H'->Q .non H'
structure TxE (K:PySem.W.Frag) (mg:Str->Option Value) (B fB:Addr):Prop where
 mV:mg "ValueError" = none
 fV:PySem.W.findCls K (.type "ValueError") (.type "type") "__init__" = some (.val (.builtin "ValueError.__init__"))
 mB:mg "HandError" = some (.ref B)
 sB:PySem.W.specialIn K (.ref B) "__getattribute__" = some (some (.builtin "type.__getattribute__"))
 rB:PySem.W.readsIn K B (.type "type")=true
 cB:PySem.W.findCls K (.ref B) (.type "type") "__init__" = some (.val (.ref fB))
 kB:PySem.W.keepIn K (.ref fB)=true
theorem jV (v u:V):G3 ("at" : Str) u ([("word",v)]:List (Str×V))=([("word",v),("at",u)]:List (Str×V)):=by
 show (if ("word" : Str) = "at" then [(("word" : Str),u)] else (("word" : Str),v) :: G3 "at" u [])=([("word",v),("at",u)]:List (Str×V));rw [if_neg (by decide +kernel)];rfl
section
variable {K:PySem.W.Frag}
theorem Fmt.laid {v:V} {d:PyData} (h:Fmt K H v d) (a:H x=none):Fmt K (upd H x o) v d:=⟨h.at_.keeps (Keeps.laid a),h.sh,h.l1,h.l2⟩
end
end Hn
namespace L3
open PySem PySem.Spec PyProof.Rows L2
inductive D where
 | non | bl (b:Bool) | int (i:Int) | str (x:Str) | tup (ds:List D) | lst (ds:List D) | scr (ds:List D) | ref (n:Nat)
inductive O where
 | lst (ds:List D) | dct (kvs:List (Key×D)) | exc (c:Nat) (fs:List (Str×D))
abbrev Sto:=List O
inductive R (α:Type) where
 | ok (a:α) (S:Sto) | exn (n:Nat) (S:Sto) | bad
abbrev M (α:Type):=Sto->R α
def ret {b:Type} (a:b):M b:=λS=>.ok a S
def bad {a:Type}:M a:=λ_=>.bad
def bind {c b:Type} (m:M c) (k:c->M b):M b:=λS=>match m S with
 | .ok a S'=>k a S'
 | .exn n S'=>.exn n S'
 | .bad=>.bad
abbrev Env:=List (Option D)
structure Mp where
 pl:List Addr
 rs:List Addr
def Mp.push (μ:Mp) (p:Addr):Mp:=⟨μ.pl++[p],μ.rs⟩
def TupAt (K:PySem.W.Frag) (μ:Mp) (H:Hp) (a:Addr) (xs:List V):Prop:=
 (Rd H a (.tup xs)/\a∉μ.pl/\a∉μ.rs)\/∃ (o:Obj) (b:Array Value) (n:Nat),K.lookup a=some o/\o.cls=.type "tuple"/\o.data=.seq b n/\b.size<=sizeLine/\Vals xs b.toList/\o.dict=none
def ScrAt (K:PySem.W.Frag) (μ:Mp) (H:Hp) (a:Addr) (xs:List V):Prop:=
 (Rd H a (.lst xs)/\a∉μ.pl/\a∉μ.rs)\/∃ (o:Obj) (b:Array Value) (n:Nat),K.lookup a=some o/\o.cls=.type "list"/\o.dict=none/\o.data=.seq b n/\b.size<=sizeLine/\Vals xs b.toList
def LstAt (μ:Mp) (H:Hp) (a:Addr) (xs:List V):Prop:=H a=some (.lst xs)/\a∉μ.pl/\a∉μ.rs
theorem TupAt.sq {K:PySem.W.Frag} {μ:Mp} {H:Hp} {a:Addr} {xs:List V} (h:TupAt K μ H a xs):SqT K H a xs:=h.imp (λz=>z.1) λ⟨o,f,n,a,b,c,d,e,_⟩=>⟨o,f,n,a,b,c,d,e⟩
theorem ScrAt.sq {K:PySem.W.Frag} {μ:Mp} {H:Hp} {a:Addr} {xs:List V} (h:ScrAt K μ H a xs):SqL K H a xs:=h.imp (λz=>z.1) id
theorem LstAt.sq {K:PySem.W.Frag} {μ:Mp} {H:Hp} {a:Addr} {xs:List V} (h:LstAt μ H a xs):SqL K H a xs:=.inl (.inl h.1)
mutual
inductive RD (K:PySem.W.Frag) (μ:Mp) (H:Hp):D->V->Prop where
 | non:RD K μ H .non .non
 | bl (b:Bool):RD K μ H (.bl b) (.bl b)
 | int (i:Int):RD K μ H (.int i) (.int i)
 | str (x:Str):RD K μ H (.str x) (.str x)
 | tup {a:Addr} {xs:List V} {ds:List D}:TupAt K μ H a xs->RDs K μ H ds xs->RD K μ H (.tup ds) (.ref a)
 | lst {a:Addr} {xs:List V} {ds:List D}:LstAt μ H a xs->RDs K μ H ds xs->RD K μ H (.lst ds) (.ref a)
 | scr {a:Addr} {xs:List V} {ds:List D}:ScrAt K μ H a xs->RDs K μ H ds xs->RD K μ H (.scr ds) (.ref a)
 | ref {n:Nat} {a:Addr}:μ.pl[n]?=some a->RD K μ H (.ref n) (.ref a)
inductive RDs (K:PySem.W.Frag) (μ:Mp) (H:Hp):List D->List V->Prop where
 | nil:RDs K μ H [] []
 | cons {d:D} {v:V} {ds:List D} {vs:List V}:RD K μ H d v->RDs K μ H ds vs->RDs K μ H (d :: ds) (v :: vs)
end
structure Lat (μ:Mp) (H:Hp) (μ':Mp) (H':Hp):Prop where
 pre:∀ (n:Nat) (a:Addr),μ.pl[n]?=some a->μ'.pl[n]?=some a
 oth:∀ a o,H a=some o->a∉μ.pl->H' a=some o
 new:∀ a,a∈μ'.pl->a∈μ.pl\/H a=none
 rsv:μ'.rs=μ.rs
theorem Lat.refl (μ:Mp) (H:Hp):Lat μ H μ H:=⟨λ_ _ h=>h,λ_ _ h _=>h,λ_ h=>.inl h,rfl⟩
theorem Lat.out {H H':Hp} (l:Lat μ H μ' H') {a:Addr} {o:HO} (h:H a=some o) (n:a∉μ.pl):a∉μ'.pl:=λz=>by
 rcases l.new a z with q | q
 ·exact n q
 ·rw [h] at q;cases q
theorem Lat.trans {H c b:Hp} (l:Lat μ H μ1 c) (k:Lat μ1 c μ2 b):Lat μ H μ2 b:=by
 refine ⟨λn a h=>k.pre n a (l.pre n a h),λa o h n=>k.oth a o (l.oth a o h n) (l.out h n),λa h=>?_,k.rsv.trans l.rsv⟩;rcases k.new a h with q | q
 ·exact l.new a q
 ·by_cases m:a∈μ.pl
  ·exact .inl m
  ·right
   cases e:H a with
   | none=>rfl
   | some o=>rw [l.oth a o e m] at q;cases q
theorem Rd.later {H H':Hp} (l:Lat μ H μ' H') {a:Addr} {u:HO} (h:Rd H a u) (n:a∉μ.pl):Rd H' a u/\a∉μ'.pl:=by
 rcases h with h | ⟨o,h⟩
 ·exact ⟨.inl (l.oth _ _ h n),l.out h n⟩
 ·exact ⟨.inr ⟨o,l.oth _ _ h n⟩,l.out h n⟩
theorem TupAt.later {K:PySem.W.Frag} {μ μ':Mp} {H H':Hp} (l:Lat μ H μ' H') {a:Addr} {xs:List V} (h:TupAt K μ H a xs):TupAt K μ' H' a xs:=h.imp (λz=>⟨(Rd.later l z.1 z.2.1).1,(Rd.later l z.1 z.2.1).2,by rw [l.rsv];exact z.2.2⟩) id
theorem ScrAt.later {K:PySem.W.Frag} {μ μ':Mp} {H H':Hp} (l:Lat μ H μ' H') {a:Addr} {xs:List V} (h:ScrAt K μ H a xs):ScrAt K μ' H' a xs:=h.imp (λz=>⟨(Rd.later l z.1 z.2.1).1,(Rd.later l z.1 z.2.1).2,by rw [l.rsv];exact z.2.2⟩) id
theorem LstAt.later {H H':Hp} (l:Lat μ H μ' H') {a:Addr} {xs:List V} (h:LstAt μ H a xs):LstAt μ' H' a xs:=⟨l.oth _ _ h.1 h.2.1,l.out h.1 h.2.1,by rw [l.rsv];exact h.2.2⟩
mutual
theorem RD.later {K:PySem.W.Frag} {μ μ':Mp} {H H':Hp} (l:Lat μ H μ' H'):∀ {d:D} {v:V},RD K μ H d v->RD K μ' H' d v
 | _,_,.non=>.non
 | _,_,.bl b=>.bl b
 | _,_,.int i=>.int i
 | _,_,.str x=>.str x
 | _,_,.tup h r=>.tup (h.later l) (RDs.later l r)
 | _,_,.lst h r=>.lst (h.later l) (RDs.later l r)
 | _,_,.scr h r=>.scr (h.later l) (RDs.later l r)
 | _,_,.ref h=>.ref (l.pre _ _ h)
theorem RDs.later {K:PySem.W.Frag} {μ μ':Mp} {H H':Hp} (l:Lat μ H μ' H'):∀ {ds:List D} {vs:List V},RDs K μ H ds vs->RDs K μ' H' ds vs
 | _,_,.nil=>.nil
 | _,_,.cons h r=>.cons (RD.later l h) (RDs.later l r)
end
section
variable {K:PySem.W.Frag} {μ:Mp} {H:Hp}
theorem RDs.length:∀ {ds:List D} {vs:List V},RDs K μ H ds vs->ds.length=vs.length
 | _,_,.nil=>rfl
 | _,_,.cons _ r=>by simp [RDs.length r]
theorem RDs.get:∀ {ds:List D} {vs:List V} {i:Nat} {d:D},RDs K μ H ds vs->ds[i]?=some d->∃ v,vs[i]?=some v/\RD K μ H d v
 | _,_,_,_,.nil,e=>by simp at e
 | _,_,0,_,.cons h _,e=>by simp at e;subst e;exact ⟨_,rfl,h⟩
 | _,_,i+1,d,.cons _ r,e=>by
  obtain ⟨v,b,a⟩:=RDs.get r (by simpa using e);exact ⟨v,by simpa using b,a⟩
theorem RDs.append:∀ {ds es:List D} {vs us:List V},RDs K μ H ds vs->RDs K μ H es us->RDs K μ H (ds++es) (vs++us)
 | _,_,_,_,.nil,s=>s
 | _,_,_,_,.cons h r,s=>.cons h (RDs.append r s)
theorem RDs.take:∀ {ds:List D} {vs:List V} (n:Nat),RDs K μ H ds vs->RDs K μ H (ds.take n) (vs.take n)
 | _,_,0,_=>by simpa using RDs.nil
 | _,_,_+1,.nil=>by simpa using RDs.nil
 | _,_,n+1,.cons h r=>by simpa using RDs.cons h (RDs.take n r)
theorem RDs.drop:∀ {ds:List D} {vs:List V} (n:Nat),RDs K μ H ds vs->RDs K μ H (ds.drop n) (vs.drop n)
 | _,_,0,h=>by simpa using h
 | _,_,_+1,.nil=>by simpa using RDs.nil
 | _,_,n+1,.cons _ r=>by simpa using RDs.drop n r
theorem RDs.set (q:RD K μ H d v):∀ {ds:List D} {vs:List V} (n:Nat),RDs K μ H ds vs->RDs K μ H (ds.set n d) (vs.set n v)
 | _,_,_,.nil=>by simpa using RDs.nil
 | _,_,0,.cons h r=>by simpa using RDs.cons q r
 | _,_,n+1,.cons h r=>by simpa using RDs.cons h (RDs.set q n r)
theorem RDs.rep (r:RDs K μ H ds vs):∀ k:Nat,RDs K μ H (List.replicate k ds).flatten (List.replicate k vs).flatten
 | 0=>.nil
 | k+1=>by
  rw [FI,FI,Gv,Gv];exact r.append (RDs.rep r k)
theorem RDs.ints:∀ ns:List Int,RDs K μ H (ns.map D.int) (ns.map V.int)
 | []=>.nil
 | n :: ns=>.cons (.int n) (RDs.ints ns)
end
def gH (K:PySem.W.Frag) (μ:Mp) (H:Hp):List (Str×D)->List (Str×V)->Prop:=Paired λp q=>p.1=q.1/\RD K μ H p.2 q.2
def KvsAt (K:PySem.W.Frag) (μ:Mp) (H:Hp):List (Key×D)->List (Key×V)->Prop:=Paired λp q=>p.1=q.1/\RD K μ H p.2 q.2
def OAt (K:PySem.W.Frag) (cl:Nat->Addr) (μ:Mp) (H:Hp) (a:Addr):O->Prop
 | .lst ds=>∃ xs,H a=some (.lst xs)/\RDs K μ H ds xs
 | .dct b=>∃ e,H a=some (.dK e)/\KvsAt K μ H b e
 | .exc c fs=>XC K (cl c)/\∃ gs,gH K μ H fs gs/\∃ f,((gs=[]/\H a=some (M8 f a (cl c) none))\/∃ d,d≠a/\d∉μ.pl/\H a=some (M8 f a (cl c) (some d))/\H d=some (G1 d gs))
def uK (K:PySem.W.Frag) (cl:Nat->Addr):Prop:=K.lookup (cl 1000000)=none
def qNm (P:Addr) (o:Obj):Option Str:=match o.data with
 | .fields vs=>(match (vs[11]?:Option Value) with
  | some (.ref P')=>if P'=P then (match (vs[1]?:Option Value) with
   | some (.str q _)=>some q
   | _=>none) else none
  | _=>none)
 | _=>none
def hF (K:PySem.W.Frag) (P:Addr):Str:=(K.findSome? λp=>qNm P p.2).getD "" ++ ".<locals>.<lambda>"
def tbO (K:PySem.W.Frag) (cl:Nat->Addr):HO:=.tbl #[.str (hF K (cl 1000000)) 0]
def TbOk (K:PySem.W.Frag) (cl:Nat->Addr) (μ:Mp) (H:Hp):Prop:=uK K cl->cl 1000000∉μ.pl/\cl 1000000∉μ.rs/\H (cl 1000000)=some (tbO K cl)
theorem TbOk.mv {K:PySem.W.Frag} {cl:Nat->Addr} {μ μ':Mp} {H H':Hp} (h:TbOk K cl μ H) (ho:∀ a u,H a=some u->a∉μ.pl->a∉μ.rs->H' a=some u/\a∉μ'.pl/\a∉μ'.rs):TbOk K cl μ' H':=λz=>let ⟨h1,h2,h3⟩:=h z;let ⟨a,b,c⟩:=ho _ _ h3 h1 h2;⟨b,c,a⟩
structure Rep (K:PySem.W.Frag) (cl:Nat->Addr) (μ:Mp) (S:Sto) (H:Hp):Prop where
 len:μ.pl.length=S.length
 nd:μ.pl.Nodup
 ats:∀ (n:Nat) (o:O) (a:Addr),S[n]?=some o->μ.pl[n]?=some a->OAt K cl μ H a o
 res:∀ a,a∈μ.rs->a∉μ.pl/\∃ u,H a=some u
 tb:TbOk K cl μ H
theorem Paired.mono {P Q:α->β->Prop} (h:∀ a b,P a b->Q a b):∀ {xs:List α} {ys:List β},Paired P xs ys->Paired Q xs ys
 | _,_,.nil=>.nil
 | _,_,.cons r t=>.cons (h _ _ r) (Paired.mono h t)
section
variable {K:PySem.W.Frag} {cl:Nat->Addr} {μ:Mp} {S:Sto} {H:Hp}
theorem OAt.some (h:OAt K cl μ H a o):∃ u,H a=some u:=by
 cases o with
 | lst ds=>obtain ⟨xs,e,_⟩:=h;exact ⟨_,e⟩
 | dct kvs=>obtain ⟨xs,e,_⟩:=h;exact ⟨_,e⟩
 | exc c fs=>
  obtain ⟨_,gs,_,fr,⟨_,e⟩ | ⟨d,_,_,e,_⟩⟩:=h
  ·exact ⟨_,e⟩
  ·exact ⟨_,e⟩
theorem Rep.tracked (r:Rep K cl μ S H) {a:Addr} (h:a∈μ.pl):∃ u,H a=some u:=by
 obtain ⟨n,b,e⟩:=List.getElem_of_mem h;have hs:n<S.length:=by rw [<- r.len];exact b
 exact (r.ats n S[n] a (Ds hs) (by rw [Ds b,e])).some
theorem Rep.notrs (r:Rep K cl μ S H) {p:Addr} (h:H p=none):p∉μ.rs:=λz=>by
 obtain ⟨_,u,e⟩:=r.res p z;rw [h] at e;cases e
theorem Rep.notin (r:Rep K cl μ S H) {p:Addr} (h:H p=none):p∉μ.pl:=λz=>by
 obtain ⟨u,e⟩:=r.tracked z;rw [h] at e;cases e
theorem Lat.laid (h:H p=none):Lat μ H μ (upd H p o):=⟨λ_ _ h=>h,λa u e _=>by rw [a8 (b9 e h)];exact e,λ_ h=>.inl h,rfl⟩
theorem Rep.keep (r:Rep K cl μ S H) (l:Lat μ H μ H') (k:∀ a,a∈μ.pl->H' a=H a):Rep K cl μ S H':=by
 refine ⟨r.len,r.nd,λn o a e1 e2=>?_,λa m=>let ⟨h1,u,h2⟩:=r.res a m;⟨h1,u,l.oth _ _ h2 h1⟩,r.tb.mv λa u e n1 n2=>⟨l.oth _ _ e n1,n1,n2⟩⟩;have ka:=k a (ET e2);have h:=r.ats n o a e1 e2;cases o with
 | lst ds=>obtain ⟨xs,e,q⟩:=h;exact ⟨xs,by rw [ka];exact e,q.later l⟩
 | dct kvs=>obtain ⟨xs,e,q⟩:=h;exact ⟨xs,by rw [ka];exact e,Paired.mono (λ_ _ ⟨z,w⟩=>⟨z,w.later l⟩) q⟩
 | exc c fs=>
  obtain ⟨xc,gs,q,fr,h⟩:=h;refine ⟨xc,gs,Paired.mono (λ_ _ ⟨z,w⟩=>⟨z,w.later l⟩) q,fr,?_⟩;rcases h with ⟨z,e⟩ | ⟨d,h1,h2,e,e2⟩
  ·grind
  ·exact .inr ⟨d,h1,h2,by rw [ka];exact e,l.oth _ _ e2 h2⟩
theorem Rep.laid (r:Rep K cl μ S H) (h:H p=none):Rep K cl μ S (upd H p o):=r.keep (Lat.laid h) λa m=>a8 λz=>r.notin h (z▸m)
theorem Lat.pushed (h:H p=none) (k:∀ a u,H a=some u->H' a=some u):Lat μ H (μ.push p) H':=
 ⟨λn a e=>by show (μ.pl++[p])[n]?=_;rw [EC (Eb.mp e).1];exact e,λa u e _=>k a u e,λa m=>by
  rcases FG.mp m with z | z
  ·exact .inl z
  ·exact .inr (by rw [EJ.mp z];exact h),rfl⟩
theorem OAt.later {μ':Mp} {H':Hp} {a:Addr} {o:O} (h:OAt K cl μ H a o) (l:Lat μ H μ' H') (ka:H' a=H a):OAt K cl μ' H' a o:=by
 cases o with
 | lst ds=>obtain ⟨xs,e,q⟩:=h;exact ⟨xs,by rw [ka];exact e,q.later l⟩
 | dct kvs=>obtain ⟨xs,e,q⟩:=h;exact ⟨xs,by rw [ka];exact e,Paired.mono (λ_ _ ⟨z,w⟩=>⟨z,w.later l⟩) q⟩
 | exc c fs=>
  obtain ⟨xc,gs,q,fr,h⟩:=h;refine ⟨xc,gs,Paired.mono (λ_ _ ⟨z,w⟩=>⟨z,w.later l⟩) q,fr,?_⟩;rcases h with ⟨z,e⟩ | ⟨d,h1,h2,e,e2⟩
  ·exact .inl ⟨z,by rw [ka];exact e⟩
  ·exact .inr ⟨d,h1,l.out e2 h2,by rw [ka];exact e,l.oth _ _ e2 h2⟩
theorem Rep.pushed (r:Rep K cl μ S H) (h:H p=none) (k:∀ a u,H a=some u->H' a=some u) (ho:OAt K cl (μ.push p) H' p o):Rep K cl (μ.push p) (S++[o]) H':=by
 have l:=Lat.pushed (μ:=μ) h k;refine ⟨by simp [Mp.push,r.len],?_,λn u a e1 e2=>?_,λa m=>?_,r.tb.mv λa u e n1 n2=>⟨k a u e,λz=>?_,n2⟩⟩
 rotate_right
 ·rcases FG.mp (show a∈μ.pl++[p] from z) with z | z
  ·exact n1 z
  ·rw [EJ.mp z,h] at e;cases e
 ·show (μ.pl++[p]).Nodup;rw [List.nodup_append];exact ⟨r.nd,by simp,λa m b m2=>by rw [EJ.mp m2];rintro rfl;exact r.notin h m⟩
 ·have e2:(μ.pl++[p])[n]?=some a:=e2;by_cases hn:n<S.length
  ·rw [EC hn] at e1;rw [EC (by rw [r.len];exact hn)] at e2;have q:=r.ats n u a e1 e2;obtain ⟨z,ez⟩:=q.some;exact q.later l ((k a z ez).trans ez.symm)
  ·have hn2:n=S.length:=by
    have:=(Eb.mp e1).1;simp at this;omega
   subst hn2;rw [<- r.len] at e2;simp at e1 e2;subst e1;subst e2;exact ho
 ·obtain ⟨h1,u,h2⟩:=r.res a m;refine ⟨λz=>?_,u,k a u h2⟩;rcases FG.mp (z) with z | z
  ·exact h1 z
  ·grind
theorem Lat.wrote (h:a∈μ.pl):Lat μ H μ (upd H a o):=⟨λ_ _ h=>h,λb u e n=>by rw [a8 (λz=>n (by rw [z];exact h))];exact e,λ_ h=>.inl h,rfl⟩
theorem Rep.wrote {n:Nat} {a:Addr} {u:HO} {o:O} (r:Rep K cl μ S H) (e:μ.pl[n]?=some a) (ho:OAt K cl μ (upd H a u) a o):Rep K cl μ (S.set n o) (upd H a u):=by
 have m:a∈μ.pl:=ET e;refine ⟨by simp [r.len],r.nd,λk w b e1 e2=>?_,λb mb=>let ⟨h1,u',h2⟩:=r.res b mb;⟨h1,u',by rw [a8 (λz=>h1 (by rw [z];exact m))];exact h2⟩,r.tb.mv λb u e n1 n2=>⟨by rw [a8 (λz=>n1 (by rw [z];exact m))];exact e,n1,n2⟩⟩;by_cases hk:n=k
 ·subst hk;rw [e] at e2;cases e2;rw [EM (by have:=(Eb.mp e).1;rw [r.len] at this;exact this)] at e1;cases e1;exact ho
 ·rw [Fh hk] at e1;have hb:b≠a:=λz=>by
   subst z;obtain ⟨h1,q1⟩:=Eb.mp e;obtain ⟨h2,q2⟩:=Eb.mp e2;exact hk ((He r.nd).mp (q1.trans q2.symm))
  exact (r.ats k w b e1 e2).later (Lat.wrote m) (a8 hb)
end
def Mp.hold (μ:Mp) (p:Addr):Mp:=⟨μ.pl,p :: μ.rs⟩
mutual
theorem RD.move {K:PySem.W.Frag} {μ μ':Mp} {H H':Hp} (g:∀ (n:Nat) (a:Addr),μ.pl[n]?=some a->μ'.pl[n]?=some a) (c:∀ a u,H a=some u->a∉μ.pl->a∉μ.rs->H' a=some u/\a∉μ'.pl/\a∉μ'.rs):∀ {d:D} {v:V},RD K μ H d v->RD K μ' H' d v
 | _,_,.non=>.non
 | _,_,.bl b=>.bl b
 | _,_,.int i=>.int i
 | _,_,.str x=>.str x
 | _,_,.tup h r=>.tup (h.imp (λ⟨q,e,f⟩=>by
   rcases q with q | ⟨o,q⟩
   ·exact ⟨.inl (c _ _ q e f).1,(c _ _ q e f).2⟩
   ·exact ⟨.inr ⟨o,(c _ _ q e f).1⟩,(c _ _ q e f).2⟩) id) (RDs.move g c r)
 | _,_,.lst h r=>.lst (c _ _ h.1 h.2.1 h.2.2) (RDs.move g c r)
 | _,_,.scr h r=>.scr (h.imp (λ⟨q,e,f⟩=>by
   rcases q with q | ⟨o,q⟩
   ·exact ⟨.inl (c _ _ q e f).1,(c _ _ q e f).2⟩
   ·exact ⟨.inr ⟨o,(c _ _ q e f).1⟩,(c _ _ q e f).2⟩) id) (RDs.move g c r)
 | _,_,.ref h=>.ref (g _ _ h)
theorem RDs.move {K:PySem.W.Frag} {μ μ':Mp} {H H':Hp} (hp:∀ (n:Nat) (a:Addr),μ.pl[n]?=some a->μ'.pl[n]?=some a) (ho:∀ a u,H a=some u->a∉μ.pl->a∉μ.rs->H' a=some u/\a∉μ'.pl/\a∉μ'.rs):∀ {ds:List D} {vs:List V},RDs K μ H ds vs->RDs K μ' H' ds vs
 | _,_,.nil=>.nil
 | _,_,.cons h r=>.cons (RD.move hp ho h) (RDs.move hp ho r)
end
section
variable {K:PySem.W.Frag} {cl:Nat->Addr} {μ:Mp} {S:Sto} {H:Hp}
theorem Rep.move {H':Hp} (r:Rep K cl μ S H) (hr:∀ a,a∈μ'.rs->a∉μ'.pl/\∃ u,H' a=some u) (hp:μ'.pl=μ.pl) (hk:∀ a,a∈μ.pl->H' a=H a) (hx:∀ a u,H a=some (.ext u)->H' a=some (.ext u)) (ho:∀ a u,H a=some u->a∉μ.pl->a∉μ.rs->H' a=some u/\a∉μ'.pl/\a∉μ'.rs):Rep K cl μ' S H':=by
 have hp':∀ (n:Nat) (a:Addr),μ.pl[n]?=some a->μ'.pl[n]?=some a:=λn a e=>by rw [hp];exact e
 refine ⟨by rw [hp];exact r.len,by rw [hp];exact r.nd,λn o a e1 e2=>?_,hr,r.tb.mv ho⟩;rw [hp] at e2;have ka:=hk a (ET e2);have h:=r.ats n o a e1 e2;cases o with
 | lst ds=>obtain ⟨xs,e,q⟩:=h;exact ⟨xs,by rw [ka];exact e,q.move hp' ho⟩
 | dct kvs=>obtain ⟨xs,e,q⟩:=h;exact ⟨xs,by rw [ka];exact e,Paired.mono (λ_ _ ⟨z,w⟩=>⟨z,w.move hp' ho⟩) q⟩
 | exc c fs=>
  obtain ⟨xc,gs,q,fr,h⟩:=h;refine ⟨xc,gs,Paired.mono (λ_ _ ⟨z,w⟩=>⟨z,w.move hp' ho⟩) q,fr,?_⟩;rcases h with ⟨z,e⟩ | ⟨d,h1,h2,e,e2⟩
  ·grind
  ·exact .inr ⟨d,h1,by rw [hp];exact h2,by rw [ka];exact e,hx _ _ e2⟩
end
section
variable (K:PySem.W.Frag) (cl:Nat->Addr) (xe:Addr->Hp->Prop)
def Post {b:Type} (μ:Mp) (H:Hp) (r:R b) (G:b->Sto->Mp->Hp->Prop):Prop:=match r with
 | .ok a S=>∀ μ' H',Lat μ H μ' H'->Rep K cl μ' S H'->G a S μ' H'
 | .exn n S=>∀ μ' H' a,Lat μ H μ' H'->Rep K cl μ' S H'->μ'.pl[n]?=some a->xe a H'
 | .bad=>False
end
section
variable {K:PySem.W.Frag} {cl:Nat->Addr} {xe:Addr->Hp->Prop} {α β:Type} {μ μ1:Mp} {H H1:Hp}
theorem Post.later {G:α->Sto->Mp->Hp->Prop} (h:Post K cl xe μ H r G) (l:Lat μ H μ1 H1):Post K cl xe μ1 H1 r G:=by
 cases r with
 | ok a S=>exact λμ' H' k r=>h μ' H' (l.trans k) r
 | exn n S=>exact λμ' H' a k r e=>h μ' H' a (l.trans k) r e
 | bad=>exact h
theorem Post.imp {G G':α->Sto->Mp->Hp->Prop} (h:Post K cl xe μ H r G) (k:∀ a S μ' H',Lat μ H μ' H'->Rep K cl μ' S H'->G a S μ' H'->G' a S μ' H'):Post K cl xe μ H r G':=by
 cases r with
 | ok a S=>exact λμ' H' l r=>k a S μ' H' l r (h μ' H' l r)
 | exn n S=>exact h
 | bad=>exact h
theorem Post.bind {k:α->M β} {S:Sto} {G:β->Sto->Mp->Hp->Prop} (h:Post K cl xe μ H (bind m k S) G):Post K cl xe μ H (m S) (λa S1 μ1 H1=>Post K cl xe μ1 H1 (k a S1) G):=by
 unfold L3.bind at h;cases e:m S with
 | ok a S1=>
  rw [e] at h;exact λμ' H' l r=>Post.later h l
 | exn n S1=>rw [e] at h;exact h
 | bad=>rw [e] at h;exact h
theorem Post.ret {G:α->Sto->Mp->Hp->Prop} (h:Post K cl xe μ H (ret a S) G):∀ μ' H',Lat μ H μ' H'->Rep K cl μ' S H'->G a S μ' H':=h
end
def EnvOk (K:PySem.W.Frag) (μ:Mp) (H:Hp) (ρ:Env) (σ:L2.St):Prop:=ρ.length=σ.length/\∀ (i:Nat) (d:D),ρ[i]?=some (some d)->∃ v,σ[i]?=some (some v)/\RD K μ H d v
theorem EnvOk.later {K:PySem.W.Frag} {μ a:Mp} {H b:Hp} {ρ:Env} {σ:L2.St} (h:EnvOk K μ H ρ σ) (l:Lat μ H a b):EnvOk K a b ρ σ:=⟨h.1,λi d e=>let ⟨v,q,r⟩:=h.2 i d e;⟨v,q,r.later l⟩⟩
theorem EnvOk.set {K:PySem.W.Frag} {μ:Mp} {H:Hp} {ρ:Env} {σ:L2.St} {d:D} {v:V} (h:EnvOk K μ H ρ σ) (r:RD K μ H d v) (i:Nat):EnvOk K μ H (ρ.set i (some d)) (σ.set i (some v)):=by
 refine ⟨by simp [h.1],λj e b=>?_⟩;by_cases a:i=j
 ·subst a;have c:i<ρ.length:=by
   have:=(Eb.mp b).1;simpa using this
  rw [EM c] at b;cases b;exact ⟨v,EM (by rw [<- h.1];exact c),r⟩
 ·rw [Fh a] at b;obtain ⟨u,q,f⟩:=h.2 j e b;exact ⟨u,by rw [Fh a];exact q,f⟩
section
variable (K:PySem.W.Frag) (cl:Nat->Addr) (xe:Addr->Hp->Prop)
def tD (f:Env->M D):TE:=λσ H Q=>∃ μ S ρ,EnvOk K μ H ρ σ/\Rep K cl μ S H/\Post K cl xe μ H (f ρ S) λd _ μ' H'=>∀ v,RD K μ' H' d v->Q v H'
def tDs (f:Env->M (List D)):TA:=λσ H Q=>∃ μ S ρ,EnvOk K μ H ρ σ/\Rep K cl μ S H/\Post K cl xe μ H (f ρ S) λds _ μ' H'=>∀ vs,RDs K μ' H' ds vs->Q vs H'
def tBo (f:Env->M Bool):TT:=λσ H Q=>∃ μ S ρ,EnvOk K μ H ρ σ/\Rep K cl μ S H/\Post K cl xe μ H (f ρ S) λb _ _ H'=>Q b H'
def rP2 (g:D->D->M D):R2:=λx y H Q=>∃ μ S d e,RD K μ H d x/\RD K μ H e y/\Rep K cl μ S H/\Post K cl xe μ H (g d e S) λr _ μ' H'=>∀ v,RD K μ' H' r v->Q v H'
def rPs (g:List D->M D):List V->Hp->VK->Prop:=λxs H Q=>∃ μ S ds,RDs K μ H ds xs/\Rep K cl μ S H/\Post K cl xe μ H (g ds S) λr _ μ' H'=>∀ v,RD K μ' H' r v->Q v H'
end
theorem PE.imp (h:PE X e t) (k:∀ σ H Q,t' σ H Q->t σ H Q):PE X e t':=λpins s σ H Q I q=>h pins s σ H Q I (k σ H Q q)
theorem PT.imp (h:PT X e t) (k:∀ σ H Q,t' σ H Q->t σ H Q):PT X e t':=λpins s σ H Q I q=>h pins s σ H Q I (k σ H Q q)
theorem PW.imp (h:PW X e t) (k:∀ σ H Q,t' σ H Q->t σ H Q):PW X e t':=λw pins s σ H Q I q=>h w pins s σ H Q I (k σ H Q q)
theorem PA.imp (h:PA X es t) (k:∀ σ H Q,t' σ H Q->t σ H Q):PA X es t':=λp pins s σ H Q I q=>h p pins s σ H Q I (k σ H Q q)
theorem PS.imp {st:Stmt} {t t':TS} (h:PS X st t) (k:∀ D σ H,t' D σ H->t D σ H):PS X st t':=λpins s σ H D I q=>h pins s σ H D I (k D σ H q)
theorem PSs.imp {st:List Stmt} {t t':TS} (h:PSs X st t) (k:∀ D σ H,t' D σ H->t D σ H):PSs X st t':=λpins s σ H D I q=>h pins s σ H D I (k D σ H q)
section
variable {X:Cx} {cl:Nat->Addr} {xe:Addr->Hp->Prop} {a b c:Expr} {es:List Expr} {pos:Pos} {f g:Env->M D}
theorem f7:PE X e (tD X.K cl xe λ_=>bad):=λ_ _ _ _ _ _ ⟨_,_,_,_,_,p⟩=>p.elim
theorem gW:PT X e (tBo X.K cl xe λ_=>bad):=λ_ _ _ _ _ _ ⟨_,_,_,_,_,p⟩=>p.elim
theorem pw_bad:PW X e (tBo X.K cl xe λ_=>bad):=λ_ _ _ _ _ _ _ ⟨_,_,_,_,_,p⟩=>p.elim
theorem J6 (h:PE X e (tC v)) (r:∀ μ H,RD X.K μ H d v):PE X e (tD X.K cl xe λ_=>ret d):=PE.imp h λσ H Q ⟨μ,S,ρ,b,a,p⟩=>p.ret μ H (Lat.refl _ _) a v (r μ H)
def getD (i:Nat) (ρ:Env):M D:=match ρ[i]? with
 | some (some d)=>ret d
 | _=>bad
theorem xJ {e:Expr} (h:PE X e (xg i)):PE X e (tD X.K cl xe λρ=>getD i ρ):=PE.imp h λσ H Q ⟨μ,S,ρ,b,a,p⟩=>by
 cases e:ρ[i]? with
 | none=>simp only [getD,e] at p;exact p.elim
 | some o=>
  cases o with
  | none=>simp only [getD,e] at p;exact p.elim
  | some d=>
   simp only [getD,e] at p;obtain ⟨v,q,r⟩:=b.2 i d e;exact ⟨v,q,p.ret μ H (Lat.refl _ _) a v r⟩
theorem xB (e:PE X a (tD X.K cl xe f)) (k:PE X b (tD X.K cl xe g)) (s:OpR X (binaryOp op) (rP2 X.K cl xe h)) :
  PE X (.BinOp a op b pos) (tD X.K cl xe λρ=>bind (f ρ) λx=>bind (g ρ) λy=>h x y):=PE.imp (zG s e k) λσ H Q ⟨μ,S,ρ,d,j,p⟩=>
 ⟨μ,S,ρ,d,j,p.bind.imp λx S1 c z t q i v r=>⟨c,S1,ρ,d.later t,q,i.bind.imp λy S2 μ2 w l o m u n=>⟨μ2,S2,x,y,r.later l,n,o,m⟩⟩⟩
theorem wg (e:PE X a (tD X.K cl xe f)) (k:PE X b (tD X.K cl xe g)) (s:OpR X (compareOp op) (rP2 X.K cl xe h)) (w:behindInMarks op b=false) :
  PE X (.Compare a [op] [b] pos) (tD X.K cl xe λρ=>bind (f ρ) λx=>bind (g ρ) λy=>h x y):=PE.imp (uJ s e k w) λσ H Q ⟨μ,S,ρ,d,j,p⟩=>
 ⟨μ,S,ρ,d,j,p.bind.imp λx S1 c A t q i v r=>⟨c,S1,ρ,d.later t,q,i.bind.imp λy S2 μ2 z l o m u n=>⟨μ2,S2,x,y,r.later l,n,o,m⟩⟩⟩
theorem Bl (e:PE X a (tD X.K cl xe f)) (k:PE X b (tD X.K cl xe g)) (s:IxR X (rP2 X.K cl xe h)) (hs:cP b) :
  PE X (.Subscript a b pos) (tD X.K cl xe λρ=>bind (f ρ) λx=>bind (g ρ) λy=>h x y):=PE.imp (vS s e k hs) λσ H Q ⟨μ,S,ρ,d,j,p⟩=>
 ⟨μ,S,ρ,d,j,p.bind.imp λx S1 c z t q i v r=>⟨c,S1,ρ,d.later t,q,i.bind.imp λy S2 μ2 w l o m u n=>⟨μ2,S2,x,y,r.later l,n,o,m⟩⟩⟩
theorem zM (n:PT X c (tBo X.K cl xe t)) (k:PE X a (tD X.K cl xe f)) (m:PE X b (tD X.K cl xe g)):PE X (.IfExp c a b pos) (tD X.K cl xe λρ=>bind (t ρ) λq=>if q=true then f ρ else g ρ):=PE.imp (lj n k m) λσ H Q ⟨μ,S,ρ,e,l,p⟩=>
 ⟨μ,S,ρ,e,l,p.bind.imp λq S1 d o j i h=>by
  cases q with
  | true=>exact ⟨d,S1,ρ,e.later j,i,h⟩
  | false=>exact ⟨d,S1,ρ,e.later j,i,h⟩⟩
theorem xy (h:PT X a (tBo X.K cl xe t)):PT X (.UnaryOp .Not a pos) (tBo X.K cl xe λρ=>bind (t ρ) λq=>ret (!q)):=PT.imp (yE h) λσ H Q ⟨μ,S,ρ,f,d,p⟩=>
 ⟨μ,S,ρ,f,d,p.bind.imp λq S1 b g i e c=>c.ret b g (Lat.refl _ _) e⟩
theorem qU (h:PT X a (tBo X.K cl xe t)):PW X (.BoolOp .And [a] pos) (tBo X.K cl xe t):=pw_and1 h
theorem wI (h:PT X a (tBo X.K cl xe t)):PW X (.BoolOp .Or [a] pos) (tBo X.K cl xe t):=pw_or1 h
theorem vy {c:List Expr} (h:PT X a (tBo X.K cl xe t)) (k:PW X (.BoolOp .And (b :: c) pos) (tBo X.K cl xe u)):PW X (.BoolOp .And (a :: b :: c) pos) (tBo X.K cl xe λρ=>bind (t ρ) λq=>if q=true then u ρ else ret false):=PW.imp (pw_and h k) λσ H Q ⟨μ,S,ρ,g,i,p⟩=>
 ⟨μ,S,ρ,g,i,p.bind.imp λq S1 d l j f e=>by
  cases q with
  | true=>exact ⟨d,S1,ρ,g.later j,f,e⟩
  | false=>exact e.ret d l (Lat.refl _ _) f⟩
theorem zu {c:List Expr} (h:PT X a (tBo X.K cl xe t)) (k:PW X (.BoolOp .Or (b :: c) pos) (tBo X.K cl xe u)):PW X (.BoolOp .Or (a :: b :: c) pos) (tBo X.K cl xe λρ=>bind (t ρ) λq=>if q=true then ret true else u ρ):=PW.imp (pw_or h k) λσ H Q ⟨μ,S,ρ,g,i,p⟩=>
 ⟨μ,S,ρ,g,i,p.bind.imp λq S1 d l j f e=>by
  cases q with
  | true=>exact e.ret d l (Lat.refl _ _) f
  | false=>exact ⟨d,S1,ρ,g.later j,f,e⟩⟩
def asB (d:D):M Bool:=match d with
 | .bl b=>ret b
 | _=>bad
theorem lL {K:PySem.W.Frag} {a:Mp} {c:Hp} {S:Sto} {d:D} {v:V} {Q:Bool->Hp->Prop} (f:RD K a c d v) (e:Rep K cl a S c) (p:Post K cl xe a c (asB d S) λb _ _ H'=>Q b H'):∃ k,v=.bl k/\Q k c:=by
 cases f with
 | bl b=>exact ⟨b,rfl,p.ret a c (Lat.refl _ _) e⟩
 | _=>exact p.elim
theorem yH (o:PE X a (tD X.K cl xe f)) (k:PE X b (tD X.K cl xe g)) (r:OpR X (compareOp op) (rP2 X.K cl xe h)) (n:behindInMarks op b=false) :
  PT X (.Compare a [op] [b] pos) (tBo X.K cl xe λρ=>bind (f ρ) λx=>bind (g ρ) λy=>bind (h x y) asB):=PT.imp (uI r o k n) λσ H Q ⟨μ,S,ρ,d,t,p⟩=>
 ⟨μ,S,ρ,d,t,p.bind.imp λx S1 c I s q j v m=>⟨c,S1,ρ,d.later s,q,j.bind.imp λy S2 μ2 J A D l u B=>⟨μ2,S2,x,y,m.later A,B,D,l.bind.imp λz F e E G C i w rw=>lL rw C i⟩⟩⟩
end
end L3
namespace HT
open PySem PySem.Spec PyProof.Rows
theorem noFill_tuple_mul:fillsNumberSlot (.type "tuple") "mul" = pure false:=
 PySem.fillsNumberSlot_seq F.slot_tuple_mul.lookup (by decide +kernel) F.slot_tuple_rmul.lookup (by decide +kernel)
theorem repeat_tuple:seqRepeat? (.type "tuple")=pure (some (.builtin "tuple.__mul__")):=by
 unfold seqRepeat?;rw [PySem.seqSlot_of (name:="__mul__") F.slot_tuple_mul.lookup (by decide +kernel),PySem.seqSlot_of (name:="__rmul__") F.slot_tuple_rmul.lookup (by decide +kernel)];rfl
theorem int_rmul_tuple (a:Int) (t:Tok) (l:Addr) (items:Array Value) (n:Nat) (b:Option Addr) (c:Array (Option Value)) :
  Meets (Builtin.«int.__rmul__» ⟨[.int a t,.ref l],[]⟩) (λ_ R s=>s.heap.get? l=some { cls:=.type "tuple",dict:=b,data:=.seq items n,slots:=c }/\R (.ok (.ret Value.notImplemented)) s):=
 .of_wp λprog w A R s h=>by obtain ⟨f,g,d,i,e⟩:=s;obtain ⟨j,h⟩:=h;wp_walk;exact ⟨_,rfl,h⟩
theorem tuple_mul1 (l:Addr) (items:Array Value) (n:Nat) (a:Option Addr) (b:Array (Option Value)) (u:Tok) :
  Meets (Builtin.«tuple.__mul__» ⟨[.ref l,.int 1 u],[]⟩) (λ_ R s=>s.heap.get? l=some { cls:=.type "tuple",dict:=a,data:=.seq items n,slots:=b }/\R (.ok (.ret (.ref l))) s):=
 .of_wp λprog w A R s h=>by obtain ⟨e,g,d,f,c⟩:=s;obtain ⟨i,h⟩:=h;wp_walk;exact ⟨_,rfl,h⟩
theorem gk {k:Int} (b:1<=k) (a:k<2 ^ 63):¬ ((decide (k < -(2 ^ 63))||decide (k≥2 ^ 63))=true):=by grind
theorem tuple_mul2 (l:Addr) (items:Array Value) (n:Nat) (r:Option Addr) (v:Array (Option Value)) (k:Int) (u:Tok) (a:¬ (items.isEmpty||k==1)=true) (B:2<=k) (p:k<2 ^ 63) (hsz:items.size * k.toNat<=sizeLine) :
  Meets (Builtin.«tuple.__mul__» ⟨[.ref l,.int k u],[]⟩) (λ_ R s=>s.heap.get? l=some { cls:=.type "tuple",dict:=r,data:=.seq items n,slots:=v }/\R (.ok (.ret (.ref s.heap.objs.size))) { s with heap:=s.heap.push { cls:=.type "tuple",data:=.seq ((List.replicate k.toNat items).foldl (·++·) #[]) } }):=
 .of_wp λprog w A R s h=>by
  obtain ⟨j,g,d,y,x⟩:=s;obtain ⟨t,h⟩:=h;have q:=gk (by omega) p;have e:=Ew;have i:((k.toNat:Nat):Int)=k:=Int.toNat_of_nonneg (by omega);have b:(items.size:Int) * k=((items.size * k.toNat:Nat):Int):=by rw [Int.natCast_mul,i]
  have c:¬ (decide (k<=0)||items.isEmpty)=true:=by
   simp only [IJ,Eh] at a ⊢;intro z;rcases z with z | z
   ·omega
   ·exact a (.inl z)
  have f:¬ ((items.size:Int) * k > (2 ^ 63-1) / 8):=by rw [b];omega
  have m:¬ Builtin.Tuple.tupleTooMany ((items.size:Int) * k)=true:=by
   rw [b];simp only [Builtin.Tuple.tupleTooMany,Eh];omega
  have hz:((List.replicate k.toNat items).foldl (·++·) #[]).size<=sizeLine:=by
   rw [AutoListH.size_joined,Nat.mul_comm];simpa using hsz
  wp_walk
  rw [if_neg q];have o:IsTup j l items:=⟨_,t,rfl,n,rfl⟩;refine Do (Ig o ?_);rw [if_neg a];rw [if_neg c];rw [if_neg f];rw [if_neg m];refine Do (Ez ?_ hz);exact Dp ⟨_,rfl,h⟩
end HT
namespace L2
open PySem PySem.Spec PyProof.Rows
section
variable {X:Cx}
theorem tE:OpR X (binaryOp .Mult) (λx y H Q=>∃ a k xs,x=.ref a/\y=.int k/\SqT X.K H a xs/\xs≠[]/\1<=k/\k<2 ^ 63/\xs.length * k.toNat<=sizeLine/\(k=1->Q (.ref a) H)/\(k≠1->∀ p,H p=none->Q (.ref p) (upd H p (.tup (List.replicate k.toNat xs).flatten)))):=by
 intro pins s σ H x y v u Q I J C h;obtain ⟨a,k,xs,rfl,rfl,o,r,N,k2,hz,B,w⟩:=h;cases J;obtain ⟨t,rfl⟩:=C;obtain ⟨c,g,D,_⟩:=I.tuple o;obtain ⟨⟨E,e,j,f⟩,d,G,n,hd⟩:=id D;subst G hd;have L:=g.length;by_cases i:k=1
 ·subst i;exact GI (by decide) ⟨_,d,rfl⟩ (λs'=>Hg s' 1 t) HT.noFill_tuple_mul F.fills_int_mul F.slot_int_rmul HT.repeat_tuple F.slot_int_index.lookup
   (Gz F.slot_int_rmul (Hg s 1 t) F.entry_int_rmul (F.args_int_rmul_2 _ _) (HT.int_rmul_tuple 1 t a c.toArray n e f)
    ⟨d,rfl,⟨_,d,rfl⟩,Gz F.slot_tuple_mul ⟨_,d,rfl⟩ F.entry_tuple_mul (F.args_tuple_mul_2 _ _) (HT.tuple_mul1 a c.toArray n e f t) ⟨d,.ref a,H,I,rfl,B rfl⟩⟩)
 ·have M:=λz=>r (g.nil_iff.mp z);have l:¬ (c.toArray.isEmpty||k==1)=true:=by
   simp only [IJ,Gy];rintro (z | z)
   ·grind
   ·exact i z
  refine GI (by decide) ⟨_,d,rfl⟩ (λs'=>Hg s' k t) HT.noFill_tuple_mul F.fills_int_mul F.slot_int_rmul HT.repeat_tuple F.slot_int_index.lookup
   (Gz F.slot_int_rmul (Hg s k t) F.entry_int_rmul (F.args_int_rmul_2 _ _) (HT.int_rmul_tuple k t a c.toArray n e f)
    ⟨d,rfl,⟨_,d,rfl⟩,Gz F.slot_tuple_mul ⟨_,d,rfl⟩ F.entry_tuple_mul (F.args_tuple_mul_2 _ _) (HT.tuple_mul2 a c.toArray n e f k t l (by omega) k2 (by rw [Dy,<- L];exact hz)) ⟨d,?_⟩⟩)
  have m:List.foldl (λA K=>A++K) #[] (List.replicate k.toNat c.toArray)=(List.replicate k.toNat c).flatten.toArray:=by
   have:=U2 c k.toNat [];rw [Hs] at this;exact this
  rw [m];refine ⟨.ref s.heap.objs.size,_,I.laid (λb ob q=>Dq _ q) (Dz _) ?_,rfl,w i _ (I.hok.fresh (Dz _))⟩;exact ⟨by rw [jb,Nat.mul_comm];exact hz,_,g.rep k.toNat,TupN.new _ _⟩
end
end L2
namespace L3
open PySem PySem.Spec PyProof.Rows L2
def lstOf (d:D):M (List D):=match d with
 | .lst ds=>ret ds
 | .ref n=>λS=>match S[n]? with
  | some (.lst ds)=>.ok ds S
  | _=>.bad
 | _=>bad
def y4 (d:D):M (List D):=match d with
 | .tup ds=>ret ds
 | .scr ds=>ret ds
 | d=>lstOf d
section
variable {K:PySem.W.Frag} {cl:Nat->Addr} {xe:Addr->Hp->Prop} {μ:Mp} {H:Hp} {S:Sto} {α:Type}
theorem u8 (rd:RD K μ H d v) (rp:Rep K cl μ S H) (p:Post K cl xe μ H (lstOf d S) G):∃ a xs ds,v=.ref a/\H a=some (.lst xs)/\RDs K μ H ds xs/\lstOf d S=.ok ds S:=by
 cases rd with
 | lst h r=>exact ⟨_,_,_,rfl,h.1,r,rfl⟩
 | ref e=>
  rename_i n a;simp only [lstOf] at p;cases q:S[n]? with
  | none=>rw [q] at p;exact p.elim
  | some o=>
   cases o with
   | lst ds=>
    obtain ⟨xs,h1,h2⟩:=rp.ats n _ a q e;exact ⟨a,xs,ds,rfl,h1,h2,by simp only [lstOf,q]⟩
   | dct _=>rw [q] at p;exact p.elim
   | exc _ _=>rw [q] at p;exact p.elim
 | _=>exact p.elim
theorem K3 (rd:RD K μ H d v) (rp:Rep K cl μ S H) (p:Post K cl xe μ H (y4 d S) G):∃ a xs ds,v=.ref a/\(SqL K H a xs\/SqT K H a xs)/\RDs K μ H ds xs/\y4 d S=.ok ds S:=by
 cases rd with
 | tup h r=>exact ⟨_,_,_,rfl,.inr h.sq,r,rfl⟩
 | scr h r=>exact ⟨_,_,_,rfl,.inl h.sq,r,rfl⟩
 | lst h r=>exact ⟨_,_,_,rfl,.inl h.sq,r,rfl⟩
 | ref e=>
  obtain ⟨a,xs,ds,h1,h2,h3,h4⟩:=u8 (.ref e) rp p;exact ⟨a,xs,ds,h1,.inl (.inl (.inl h2)),h3,h4⟩
 | _=>exact p.elim
theorem Post.ok_bind {a:α} {G:β->Sto->Mp->Hp->Prop} (e:m S=.ok a S) (p:Post K cl xe μ H (L3.bind m k S) G):Post K cl xe μ H (k a S) G:=by
 unfold L3.bind at p;rw [e] at p;exact p
theorem L6 (b:Rep K cl μ S H) (r:RDs K μ H ds xs) (a:H p=none):Lat μ H μ (upd H p (.tup xs))/\Rep K cl μ S (upd H p (.tup xs))/\RD K μ (upd H p (.tup xs)) (.tup ds) (.ref p):=
 ⟨Lat.laid a,b.laid a,.tup (.inl ⟨.inl b8,b.notin a,b.notrs a⟩) (r.later (Lat.laid a))⟩
theorem A1 (b:Rep K cl μ S H) (r:RDs K μ H ds xs) (a:H p=none):Lat μ H μ (upd H p (.lst xs))/\Rep K cl μ S (upd H p (.lst xs))/\RD K μ (upd H p (.lst xs)) (.lst ds) (.ref p):=
 ⟨Lat.laid a,b.laid a,.lst ⟨b8,b.notin a,b.notrs a⟩ (r.later (Lat.laid a))⟩
theorem ji (c:Rep K cl μ S H) (r:RDs K μ H ds xs) (b:H p=none):Lat μ H (μ.push p) (upd H p (.lst xs))/\Rep K cl (μ.push p) (S++[.lst ds]) (upd H p (.lst xs))/\RD K (μ.push p) (upd H p (.lst xs)) (.ref S.length) (.ref p):=by
 have k:∀ a u,H a=some u->upd H p (.lst xs) a=some u:=λa u e=>by rw [a8 (b9 e b)];exact e
 have l:=Lat.pushed (μ:=μ) b k;refine ⟨l,c.pushed b k ⟨xs,b8,r.later l⟩,.ref ?_⟩;show (μ.pl++[p])[S.length]?=some p;rw [<- c.len];simp
theorem Post.guard [Decidable c] {a:α} {G:α->Sto->Mp->Hp->Prop} (p:Post K cl xe μ H ((if c then L3.ret a else L3.bad) S) G):c/\∀ μ' H',Lat μ H μ' H'->Rep K cl μ' S H'->G a S μ' H':=by
 by_cases b:c
 ·rw [if_pos b] at p;exact ⟨b,p⟩
 ·rw [if_neg b] at p;exact p.elim
end
def i4 {a b:Type} (f:a->Option b):List a->Option (List b)
 | []=>some []
 | x :: xs=>match f x,i4 f xs with
  | some y,some ys=>some (y :: ys)
  | _,_=>none
def i5:Nat->Sto->D->Option PyData
 | 0,_,_=>none
 | n+1,S,d=>match d with
  | .non=>some .none
  | .bl b=>some (.bool b)
  | .int i=>some (.int i)
  | .str x=>some (.str x)
  | .tup ds=>(i4 (i5 n S) ds).map .tuple
  | .lst ds=>(i4 (i5 n S) ds).map .list
  | .scr ds=>(i4 (i5 n S) ds).map .list
  | .ref k=>match S[k]? with
   | some (.lst ds)=>(i4 (i5 n S) ds).map .list
   | _=>none
theorem eN {K:PySem.W.Frag} {μ:Mp} {H:Hp} {S:Sto} {n:Nat} (f:∀ {d:D} {v:V} {q:PyData},i5 n S d=some q->RD K μ H d v->DAt K H v q):∀ {ds:List D} {vs:List V} {a:List PyData},i4 (i5 n S) ds=some a->RDs K μ H ds vs->DAll K H vs a
 | [],_,a,e,r=>by cases r;cases e;exact .nil
 | d :: ds,_,a,e,r=>by
  cases r with
  | cons h t=>
   simp only [i4] at e;cases b:i5 n S d with
   | none=>rw [b] at e;cases e
   | some q=>
    cases c:i4 (i5 n S) ds with
    | none=>grind
    | some g=>
     rw [b,c] at e;cases e;exact .cons (f b h) (eN f c t)
theorem v3 {K:PySem.W.Frag} {cl:Nat->Addr} {μ:Mp} {H:Hp} {S:Sto} (rp:Rep K cl μ S H):∀ (n:Nat) {d:D} {v:V} {q:PyData},i5 n S d=some q->RD K μ H d v->DAt K H v q
 | 0,_,_,_,e,_=>by cases e
 | n+1,d,v,q,e,r=>by
  have all:∀ {ds:List D} {vs:List V} {qs:List PyData},i4 (i5 n S) ds=some qs->RDs K μ H ds vs->DAll K H vs qs:=λe r=>eN (λe r=>v3 rp n e r) e r;have um:∀ {ds:List D} {C:List PyData->PyData},(i4 (i5 n S) ds).map C=some q->∃ qs,i4 (i5 n S) ds=some qs/\q=C qs:=λ{ds C} e=>by
   cases e1:i4 (i5 n S) ds with
   | none=>rw [e1] at e;cases e
   | some qs=>grind
  cases r with
  | non=>cases e;exact .non
  | bl b=>cases e;exact .bl b
  | int i=>cases e;exact .int i
  | str x=>cases e;exact .str x
  | tup h t=>obtain ⟨qs,e1,rfl⟩:=um e;exact .tup h.sq (all e1 t)
  | lst h t=>obtain ⟨qs,e1,rfl⟩:=um e;exact .lst h.sq (all e1 t)
  | scr h t=>obtain ⟨qs,e1,rfl⟩:=um e;exact .lst h.sq (all e1 t)
  | ref h=>
   rename_i k a;simp only [i5] at e;cases q1:S[k]? with
   | none=>rw [q1] at e;cases e
   | some o=>
    rw [q1] at e;cases o with
    | lst ds=>
     obtain ⟨qs,e1,rfl⟩:=um e;obtain ⟨xs,h1,h2⟩:=rp.ats k _ a q1 h;exact .lst (.inl (.inl h1)) (all e1 h2)
    | dct _=>cases e
    | exc _ _=>cases e
def aj (x y:D):M D:=match x,y with
 | .int i,.int j=>ret (.int (i+j))
 | .str a,.str b=>if a.length+b.length<=sizeLine then ret (.str (a++b)) else bad
 | .tup xs,.tup ys=>if xs.length+ys.length<=sizeLine then ret (.tup (xs++ys)) else bad
 | x,y=>bind (lstOf x) λxs=>bind (lstOf y) λys=>if xs.length+ys.length<=sizeLine then ret (.lst (xs++ys)) else bad
def ng (x y:D):M D:=match x,y with
 | .int i,.int j=>ret (.int (i-j))
 | _,_=>bad
instance (i j:Int):Decidable (CMul i j):=by unfold CMul;infer_instance
instance (i j:Int):Decidable (pS i j):=by unfold pS;infer_instance
instance (i j:Int):Decidable (rX i j):=by unfold rX;infer_instance
def Q8 (x y:D):M D:=match x,y with
 | .int i,.int j=>if 0<j then ret (.int (i % j)) else bad
 | _,_=>bad
def W4 (x y:D):M D:=match x,y with
 | .int i,.int j=>if pS i j then ret (.int (i / j)) else bad
 | _,_=>bad
def sw (x y:D):M D:=match x,y with
 | .int i,.int j=>if rX i j then ret (.int (i ^ j.toNat)) else bad
 | _,_=>bad
def cq (x y:D):M D:=match x,y with
 | .int i,.int j=>if CMul i j then ret (.int (i * j)) else bad
 | .tup ds,.int k=>if (ds≠[]/\1<=k/\k<2 ^ 63)/\ds.length * k.toNat<=sizeLine then ret (.tup (List.replicate k.toNat ds).flatten) else bad
 | x,.int k=>bind (lstOf x) λxs=>if (-(2 ^ 63)<=k/\k<2 ^ 63)/\xs.length * k.toNat<=sizeLine then ret (.lst (List.replicate k.toNat xs).flatten) else bad
 | _,_=>bad
section
variable {X:Cx} {cl:Nat->Addr} {xe:Addr->Hp->Prop}
theorem nC:OpR X (binaryOp .Add) (λx y H Q=>∃ a b ys,x=.ref a/\y=.ref b/\SqT X.K H a []/\SqT X.K H b ys/\Q (.ref b) H):=by
 intro pins s σ H x y v u Q I t z h;obtain ⟨a,b,ys,rfl,rfl,B,C,q⟩:=h;cases t;cases z;obtain ⟨w,p,F,_⟩:=I.tuple B;obtain ⟨d,J,G,_⟩:=I.tuple C;cases p;obtain ⟨⟨r,E,l,D⟩,k,o,n,hd⟩:=id F;obtain ⟨⟨m,g,j,f⟩,c,i,A,e⟩:=id G;subst o hd i e;exact concat_meets ⟨_,k,rfl⟩ ⟨_,c,rfl⟩ Iq IR GY GW (GO _ _)
   (tuple_addW0 a b #[] d.toArray n A E g D f rfl) ⟨k,c,⟨.ref b,H,I,rfl,q⟩⟩
theorem zX:OpR X (binaryOp .Add) (rP2 X.K cl xe aj):=by
 intro pins s σ H x y v u Q I n o ⟨μ,S,d,e,A,B,c,p⟩;have L:Post X.K cl xe μ H (bind (lstOf d) (λxs=>bind (lstOf e) λys=>if xs.length+ys.length<=sizeLine then ret (.lst (xs++ys)) else bad) S) (λr _ μ' H'=>∀ v,RD X.K μ' H' r v->Q v H')->wpAny (model X.prog X.w) X.A (binaryOp .Add v u) (EP X pins σ Q) X.xe s:=λp=>by
  obtain ⟨a,xs,ds,rfl,q,m,E⟩:=u8 A c p.bind;have p:=p.ok_bind E;obtain ⟨b,ys,es,rfl,t,h,G⟩:=u8 B c p.bind;obtain ⟨k,p⟩:=(p.ok_bind G).guard;refine yP pins s σ H _ _ v u Q I n o ⟨a,b,xs,ys,rfl,rfl,q,t,by rw [<- m.length,<- h.length];exact k,λz hz=>?_⟩;obtain ⟨l,f,g⟩:=A1 c (m.append h) hz;exact p μ _ l f _ g
 cases d <;> cases e <;> try (exact L p)
 case int.int i j=>cases A;cases B;exact xO pins s σ H _ _ v u Q I n o ⟨i,j,rfl,rfl,p μ H (Lat.refl _ _) c _ (.int _)⟩
 case str.str i j=>
  cases A;cases B;obtain ⟨k,p⟩:=Post.guard p;exact gm pins s σ H _ _ v u Q I n o ⟨i,j,rfl,rfl,k,p μ H (Lat.refl _ _) c _ (.str _)⟩
 case tup.tup ds es=>
  obtain ⟨k,p⟩:=Post.guard p;cases A with
  | tup q m=>
   cases B with
   | tup t h=>
    rename_i a xs b ys;cases ds with
    | nil=>
     cases m;exact nC pins s σ H _ _ v u Q I n o ⟨a,b,ys,rfl,rfl,q.sq,t.sq,p μ H (Lat.refl _ _) c _ (.tup t h)⟩
    | cons d ds=>
     cases m with
     | cons D C=>
      rename_i K J;refine qN pins s σ H _ _ v u Q I n o ⟨a,b,_,ys,rfl,rfl,q.sq,t.sq,by simp,by rw [<- h.length];simpa [C.length] using k,λz=>?_,λz w F=>?_⟩
      ·subst z;cases h;rw [EH] at p;exact p μ H (Lat.refl _ _) c _ (.tup q (.cons D C))
      ·obtain ⟨l,f,g⟩:=L6 c ((RDs.cons D C).append h) F;exact p μ _ l f _ g
theorem AO:OpR X (binaryOp .Sub) (rP2 X.K cl xe ng):=by
 intro pins s σ H x y v u Q I c f ⟨μ,S,d,e,b,a,g,p⟩;cases d <;> cases e <;> try (exact False.elim p)
 case int.int i j=>cases b;cases a;exact vz pins s σ H _ _ v u Q I c f ⟨i,j,rfl,rfl,p μ H (Lat.refl _ _) g _ (.int _)⟩
theorem zx:OpR X (binaryOp .Mod) (rP2 X.K cl xe Q8):=by
 intro pins s σ H x y v u Q I f g ⟨μ,S,d,e,c,b,h,p⟩;cases d <;> cases e <;> try (exact False.elim p)
 case int.int i j=>
  cases c;cases b;obtain ⟨a,p⟩:=Post.guard p;exact xa pins s σ H _ _ v u Q I f g ⟨i,j,rfl,rfl,a,p μ H (Lat.refl _ _) h _ (.int _)⟩
theorem yq:OpR X (binaryOp .FloorDiv) (rP2 X.K cl xe W4):=by
 intro pins s σ H x y v u Q I f g ⟨μ,S,d,e,c,b,h,p⟩;cases d <;> cases e <;> try (exact False.elim p)
 case int.int i j=>
  cases c;cases b;obtain ⟨a,p⟩:=Post.guard p;exact td pins s σ H _ _ v u Q I f g ⟨i,j,rfl,rfl,a,p μ H (Lat.refl _ _) h _ (.int _)⟩
theorem BS:OpR X (binaryOp .Pow) (rP2 X.K cl xe sw):=by
 intro pins s σ H x y v u Q I f g ⟨μ,S,d,e,c,b,h,p⟩;cases d <;> cases e <;> try (exact False.elim p)
 case int.int i j=>
  cases c;cases b;obtain ⟨a,p⟩:=Post.guard p;exact wB pins s σ H _ _ v u Q I f g ⟨i,j,rfl,rfl,a,p μ H (Lat.refl _ _) h _ (.int _)⟩
theorem za:OpR X (binaryOp .Mult) (rP2 X.K cl xe cq):=by
 intro pins s σ H x y v u Q I A B ⟨μ,S,d,e,t,n,h,p⟩;have L:∀ k:Int,e=.int k->Post X.K cl xe μ H (bind (lstOf d) (λxs=>if (-(2 ^ 63)<=k/\k<2 ^ 63)/\xs.length * k.toNat<=sizeLine then ret (.lst (List.replicate k.toNat xs).flatten) else bad) S) (λr _ μ' H'=>∀ v,RD X.K μ' H' r v->Q v H')->wpAny (model X.prog X.w) X.A (binaryOp .Mult v u) (EP X pins σ Q) X.xe s:=λk F q=>by
  clear p;subst F;cases n;obtain ⟨a,xs,ds,rfl,m,b,G⟩:=u8 t h q.bind;obtain ⟨⟨⟨o,k2⟩,g⟩,p⟩:=(q.ok_bind G).guard;refine yb pins s σ H _ _ v u Q I A B ⟨a,k,xs,rfl,rfl,m,o,k2,by rw [<- b.length];exact g,λz hz=>?_⟩;obtain ⟨l,c,f⟩:=A1 h (b.rep k.toNat) hz;exact p μ _ l c _ f
 cases d <;> cases e <;> try (exact False.elim p)
 case int.int i j=>
  cases t;cases n;obtain ⟨g,p⟩:=Post.guard p;exact xQ pins s σ H _ _ v u Q I A B ⟨i,j,rfl,rfl,g,p μ H (Lat.refl _ _) h _ (.int _)⟩
 case tup.int ds k=>
  cases n;obtain ⟨⟨⟨D,o,k2⟩,g⟩,p⟩:=Post.guard p;cases t with
  | tup m b=>
   rename_i a xs;have C:xs≠[]:=λz=>by subst z;cases b;exact D rfl
   refine tE pins s σ H _ _ v u Q I A B ⟨a,k,xs,rfl,rfl,m.sq,C,o,k2,by rw [<- b.length];exact g,λz=>?_,λz w E=>?_⟩
   ·subst z;have e:(List.replicate (1:Int).toNat ds).flatten=ds:=by simp
    rw [e] at p;exact p μ H (Lat.refl _ _) h _ (.tup m b)
   ·obtain ⟨l,c,f⟩:=L6 h (b.rep k.toNat) E;exact p μ _ l c _ f
 all_goals exact L _ rfl p
end
def eqP (a:Bool) (x y:D):M D:=λS=>match i5 64 S x,i5 64 S y with
 | some p,some q=>(if p.canLay0=true/\q.canLay0=true/\min p.depth q.depth<=60 then ret (.bl (if a then !PyData.eqv p q else PyData.eqv p q)) else bad) S
 | _,_=>.bad
def eqD (c:Bool) (x y:D):M D:=match x,y with
 | .str a,.str b=>ret (.bl (if c then !decide (a=b) else decide (a=b)))
 | .int a,.int b=>ret (.bl (if c then !decide (a=b) else decide (a=b)))
 | x,y=>eqP c x y
def oW (f:Int->Int->Bool) (x y:D):M D:=match x,y with
 | .int i,.int j=>ret (.bl (f i j))
 | _,_=>bad
def kW (a:Bool) (d:PyData) (ps:List PyData):M D:=if d.canLay0=true/\PyData.canLayAll0 ps=true/\min (PyData.depthAll ps) d.depth<=60 then ret (.bl (if a then !(ps.any λy=>PyData.eqv y d) else ps.any λy=>PyData.eqv y d)) else bad
def inD (a:Bool) (x y:D):M D:=λS=>match i5 64 S x,i5 64 S y with
 | some d,some (.list ps)=>kW a d ps S
 | some d,some (.tuple ps)=>kW a d ps S
 | _,_=>.bad
def isD (a:Bool) (x y:D):M D:=match y with
 | .non=>ret (.bl (match x with
  | .non=>!a
  | _=>a))
 | .bl b=>ret (.bl (match x with
  | .bl c=>if a then !(c==b) else c==b
  | _=>a))
 | _=>bad
section
variable {X:Cx} {cl:Nat->Addr} {xe:Addr->Hp->Prop}
theorem CA (q:X.A.units+64<cLine):OpR X (compareOp .Eq) (rP2 X.K cl xe (eqD false)):=by
 intro pins s σ H x y v u Q I i k ⟨μ,S,d,e,j,l,c,p⟩;have g:Post X.K cl xe μ H (eqP false d e S) (λr _ μ' H'=>∀ v,RD X.K μ' H' r v->Q v H')->wpAny (model X.prog X.w) X.A (compareOp .Eq v u) (EP X pins σ Q) X.xe s:=λp=>by
  simp only [eqP] at p;cases f:i5 64 S d with
  | none=>rw [f] at p;exact p.elim
  | some a=>
   cases h:i5 64 S e with
   | none=>rw [f,h] at p;exact p.elim
   | some b=>
    rw [f,h] at p;obtain ⟨⟨m,n,o⟩,p⟩:=Post.guard p;exact wU q pins s σ H _ _ v u Q I i k ⟨a,b,v3 c 64 f j,v3 c 64 h l,m,n,o,p μ H (Lat.refl _ _) c _ (.bl _)⟩
 cases d <;> cases e <;> try (exact g p)
 case str.str a b=>
  cases j;cases l;exact zt pins s σ H _ _ v u Q I i k ⟨rfl,by rw [show decide (V.str a=V.str b)=decide (a=b) by rw [Hr];simp];exact p μ H (Lat.refl _ _) c _ (.bl _)⟩
theorem DM (q:X.A.units+64<cLine):OpR X (compareOp .NotEq) (rP2 X.K cl xe (eqD true)):=by
 intro pins s σ H x y v u Q I i k ⟨μ,S,d,e,j,l,c,p⟩;have g:Post X.K cl xe μ H (eqP true d e S) (λr _ μ' H'=>∀ v,RD X.K μ' H' r v->Q v H')->wpAny (model X.prog X.w) X.A (compareOp .NotEq v u) (EP X pins σ Q) X.xe s:=λp=>by
  simp only [eqP] at p;cases f:i5 64 S d with
  | none=>rw [f] at p;exact p.elim
  | some a=>
   cases h:i5 64 S e with
   | none=>rw [f,h] at p;exact p.elim
   | some b=>
    rw [f,h] at p;obtain ⟨⟨m,n,o⟩,p⟩:=Post.guard p;exact we q pins s σ H _ _ v u Q I i k ⟨a,b,v3 c 64 f j,v3 c 64 h l,m,n,o,p μ H (Lat.refl _ _) c _ (.bl _)⟩
 cases d <;> cases e <;> try (exact g p)
 case str.str a b=>
  cases j;cases l;exact zw pins s σ H _ _ v u Q I i k ⟨rfl,by rw [show decide (V.str a=V.str b)=decide (a=b) by rw [Hr];simp];exact p μ H (Lat.refl _ _) c _ (.bl _)⟩
theorem iH (h:OpR X (compareOp op) (rI0 λi j=>.bl (f i j))):OpR X (compareOp op) (rP2 X.K cl xe (oW f)):=by
 intro pins s σ H x y v u Q I b g ⟨μ,S,d,e,c,k,a,p⟩;cases d <;> cases e <;> try (exact False.elim p)
 case int.int i j=>cases c;cases k;exact h pins s σ H _ _ v u Q I b g ⟨i,j,rfl,rfl,p μ H (Lat.refl _ _) a _ (.bl _)⟩
theorem bR {a:Bool} (o:X.A.units+80<cLine) {pins:List (Addr×Obj)} {s:Shared} {σ:L2.St} {H:Hp} {x y:V} {v u:Value} {Q:VK} {d:PyData} {ps:List PyData} (I:Inv X pins σ H s) (l:RelV x v) (j:RelV y u)
  (hd:DAt X.K H x d) (f:DAt X.K H y (.list ps)\/DAt X.K H y (.tuple ps)) (c:d.canLay0=true/\PyData.canLayAll0 ps=true/\min (PyData.depthAll ps) d.depth<=60)
  (q:Q (.bl (if a then !(ps.any λy=>PyData.eqv y d) else ps.any λy=>PyData.eqv y d)) H):wpAny (model X.prog X.w) X.A (compareOp (if a then .NotIn else .In) v u) (EP X pins σ Q) X.xe s:=by
 obtain ⟨h,i,n⟩:=c;obtain ⟨m,g⟩:=hd.reads I l;have b:X.A.units+1+min (PyData.depthAll ps) d.depth<cLine:=by omega
 rcases f with f | f
 ·obtain ⟨k,e⟩:=f.reads I j;cases a with
  | false=>exact SeqAt.in_list_reads e g i h b ⟨.bl _,H,I,rfl,q⟩
  | true=>exact SeqAt.notIn_list_reads e g i h b ⟨.bl _,H,I,rfl,q⟩
 ·obtain ⟨k,e⟩:=f.reads I j;cases a with
  | false=>exact SeqAt.in_tuple_reads e g i h b ⟨.bl _,H,I,rfl,q⟩
  | true=>exact SeqAt.notIn_tuple_reads e g i h b ⟨.bl _,H,I,rfl,q⟩
theorem zi (neg:Bool) (hu:X.A.units+80<cLine):OpR X (compareOp (if neg then .NotIn else .In)) (rP2 X.K cl xe (inD neg)):=by
 intro pins s σ H x y v u Q I rx ry ⟨μ,S,d,e,rd,re,rp,p⟩;simp only [inD] at p;cases e1:i5 64 S d with
 | none=>rw [e1] at p;exact p.elim
 | some a=>
  cases e2:i5 64 S e with
  | none=>rw [e1,e2] at p;exact p.elim
  | some b=>
   rw [e1,e2] at p;have ha:=v3 rp 64 e1 rd;have hb:=v3 rp 64 e2 re;cases b with
   | list ps=>obtain ⟨c,p⟩:=Post.guard p;exact bR hu I rx ry ha (.inl hb) c (p μ H (Lat.refl _ _) rp _ (.bl _))
   | tuple ps=>obtain ⟨c,p⟩:=Post.guard p;exact bR hu I rx ry ha (.inr hb) c (p μ H (Lat.refl _ _) rp _ (.bl _))
   | _=>exact p.elim
theorem zN (f:Bool):OpR X (compareOp (if f then .IsNot else .Is)) (rP2 X.K cl xe (isD f)):=by
 intro pins s σ H x y v u Q I a i ⟨μ,S,d,e,h,k,j,p⟩;have g:∀ b:Bool,(∀ μ' H',Lat μ H μ' H'->Rep X.K cl μ' S H'->∀ v,RD X.K μ' H' (.bl b) v->Q v H')->∀ c,c=b->EP X pins σ Q (.bool c) s:=λb p c e=>⟨.bl b,H,I,by rw [e];rfl,p μ H (Lat.refl _ _) j _ (.bl _)⟩;cases k <;> try (exact False.elim p)
 case non=>
  cases i;cases f with
  | false=>
   refine is_none_gen (g _ p _ ?_);cases h <;> first
    | (cases a;rfl)
    | (obtain ⟨t,rfl⟩:=a;rfl)
  | true=>
   refine isnot_none_gen (g _ p _ ?_);cases h <;> first
    | (cases a;rfl)
    | (obtain ⟨t,rfl⟩:=a;rfl)
 case bl b=>
  cases i;cases f with
  | false=>
   refine wpAny_is_plain ?_ (g _ p _ ?_)
   ·cases h <;> first
    | (cases a;rfl)
    | (obtain ⟨t,rfl⟩:=a;rfl)
   ·cases h <;> first
    | (cases a;rfl)
    | (obtain ⟨t,rfl⟩:=a;rfl)
    | (cases a;(rename_i c;cases c <;> cases b <;> rfl))
  | true=>
   refine wpAny_isNot_plain ?_ (g _ p _ ?_)
   ·cases h <;> first
    | (cases a;rfl)
    | (obtain ⟨t,rfl⟩:=a;rfl)
   ·cases h <;> first
    | (cases a;rfl)
    | (obtain ⟨t,rfl⟩:=a;rfl)
    | (cases a;(rename_i c;cases c <;> cases b <;> rfl))
end
def bZ:D->Option Key
 | .int i=>some (.inl i)
 | .str x=>some (.inr x)
 | _=>none
def tL {κ:Type} [DecidableEq κ] (a:List (κ×D)) (k:κ):Option D:=(a.find? λb=>decide (b.1=k)).map (·.2)
def xH {κ:Type} [DecidableEq κ] (a:List (κ×D)) (k:κ) (v:D):List (κ×D):=if a.any (λb=>decide (b.1=k)) then a.map (λb=>if b.1=k then (b.1,v) else b) else a++[(k,v)]
def eW {b:Type}:Option b->M b
 | some a=>ret a
 | none=>bad
def ixD (x y:D):M D:=match x with
 | .ref n=>λS=>match S[n]? with
  | some (.lst ds)=>(match y with
   | .int i=>eW (atI ds i)
   | _=>bad) S
  | some (.dct a)=>eW ((bZ y).bind (tL a)) S
  | _=>.bad
 | x=>match y with
  | .int i=>bind (y4 x) λds=>eW (atI ds i)
  | _=>bad
theorem wW {K:PySem.W.Frag} {μ:Mp} {H:Hp} {ds:List D} {xs:List V} {i:Int} {d:D} (r:RDs K μ H ds xs) (e:atI ds i=some d):∃ v,atI xs i=some v/\RD K μ H d v:=by
 unfold atI at e ⊢;rw [<- r.length];cases q:ixN ds.length i with
 | none=>rw [q] at e;cases e
 | some j=>rw [q] at e;exact r.get e
theorem ic {K:PySem.W.Frag} {cl:Nat->Addr} {xe:Addr->Hp->Prop} {μ:Mp} {H:Hp} {S:Sto} {b:Type} {o:Option b} {G:b->Sto->Mp->Hp->Prop} (p:Post K cl xe μ H (eW o S) G):∃ a,o=some a/\∀ μ' H',Lat μ H μ' H'->Rep K cl μ' S H'->G a S μ' H':=by
 cases o with
 | none=>exact p.elim
 | some a=>exact ⟨a,rfl,p⟩
theorem jR {K:PySem.W.Frag} {μ:Mp} {H:Hp} {k:Key} {d:D}:∀ {a:List (Key×D)} {f:List (Key×V)},KvsAt K μ H a f->tL a k=some d->∃ v,X5 f k=some v/\RD K μ H d v
 | _,_,.nil,e=>by simp [tL] at e
 | p :: r,q :: j,.cons ⟨c,i⟩ t,e=>by
  unfold tL at e;rw [FT] at e;by_cases b:p.1=k
  ·simp only [b,decide_true] at e;cases e;exact ⟨q.2,P1 (c▸b),i⟩
  ·simp only [b,decide_false] at e;obtain ⟨v,g,h⟩:=jR t e;exact ⟨v,by rw [O9 (c▸b)];exact g,h⟩
theorem fD {K:PySem.W.Frag} {μ:Mp} {H:Hp} {y:D} {v:V} {k:Key} (r:RD K μ H y v) (e:bZ y=some k):v=kV k:=by
 cases r <;> simp only [bZ] at e <;> first | (cases e;rfl) | cases e
section
variable {X:Cx} {cl:Nat->Addr} {xe:Addr->Hp->Prop}
theorem uH (o:X.A.units+1<cLine):IxR X (λx y H Q=>∃ a v,x=.ref a/\DGet H a y (some v)/\Q v H):=by
 intro d c pins s σ H x y v u Q I m n h hs;obtain ⟨a,w,rfl,g,q⟩:=h;cases m;have k:=fH I g;have i:wpAny (model X.prog X.w) X.A (getItem (.ref a) u) (EP X pins σ Q) X.xe s:=kG o I g n λw' p l j=>⟨w,H,l,j,q⟩;refine Do ?_;rw [getitemInPython_of_ne k.not_modules];refine Do (IK k PySem.F.slot_dict_getitem.lookup ?_);have e:wpAny (model X.prog X.w) X.A (subscripted c false (.ref a) u) (λr b=>wpAny (model X.prog X.w) X.A (letTemporaryGo d (.ref a) r >>= λ_=>pure r) (EP X pins σ Q) X.xe b) X.xe s:=by
  rw [hs];exact wpAny_operating (Ef i (λr b f=>Do (wpAny_letTemporaryGo (Dp f))) λ_ _ x=>x)
 first
  | exact Dp (Do e)
  | exact Do (Dp (Do e))
  | exact Do e
theorem DU (hu:X.A.units+1<cLine):IxR X (rP2 X.K cl xe ixD):=by
 intro value slice pins s σ H x y v u Q I rx ry ⟨μ,S,d,e,rd,re,rp,p⟩ hs;have sq:∀ {a:Addr} {xs:List V} {ds:List D} {i:Int},(SqL X.K H a xs\/SqT X.K H a xs)->RDs X.K μ H ds xs->x=.ref a->e=.int i->Post X.K cl xe μ H (eW (atI ds i) S) (λr _ μ' H'=>∀ v,RD X.K μ' H' r v->Q v H') ->
   wpAny (model X.prog X.w) X.A (subscriptTail value slice v u) (EP X pins σ Q) X.xe s:=λ{a xs ds i} hq r hx he q=>by
  clear p;subst hx he;cases re;obtain ⟨z,e1,q⟩:=ic q;obtain ⟨w,e2,rw'⟩:=wW r e1;rcases hq with hq | hq
  ·exact rH value slice pins s σ H _ _ v u Q I rx ry ⟨a,xs,i,w,rfl,rfl,hq,e2,q μ H (Lat.refl _ _) rp _ rw'⟩ hs
  ·exact pN value slice pins s σ H _ _ v u Q I rx ry ⟨a,xs,i,w,rfl,rfl,hq,e2,q μ H (Lat.refl _ _) rp _ rw'⟩ hs
 cases rd with
 | tup h r=>
  cases e <;> first | exact False.elim p | exact sq (.inr h.sq) r rfl rfl p
 | lst h r=>
  cases e <;> first | exact False.elim p | exact sq (.inl h.sq) r rfl rfl p
 | scr h r=>
  cases e <;> first | exact False.elim p | exact sq (.inl h.sq) r rfl rfl p
 | ref h=>
  rename_i n a;simp only [ixD] at p;cases q1:S[n]? with
  | none=>rw [q1] at p;exact p.elim
  | some o=>
   rw [q1] at p;cases o with
   | lst ds=>
    obtain ⟨xs,h1,h2⟩:=rp.ats n _ a q1 h;cases e <;> first | exact False.elim p | exact sq (.inl (.inl (.inl h1))) h2 rfl rfl p
   | dct kvs=>
    obtain ⟨ks,h1,h2⟩:=rp.ats n _ a q1 h;obtain ⟨z,e1,p⟩:=ic p;cases e2:bZ e with
    | none=>rw [e2] at e1;cases e1
    | some k=>
     rw [e2] at e1;obtain ⟨w,e3,r3⟩:=jR h2 e1;have hy:=fD re e2;subst hy;exact uH hu value slice pins s σ H _ _ v u Q I rx ry ⟨a,w,rfl,by rw [<- e3];exact DGet.k h1,p μ H (Lat.refl _ _) rp _ r3⟩ hs
   | exc _ _=>exact p.elim
 | _=>cases e <;> exact False.elim p
def R4 (ds:List D) (lo a:Option Int):List D:=(ds.drop (HT.sIx ds.length 0 lo)).take (HT.sIx ds.length ds.length a-HT.sIx ds.length 0 lo)
theorem oj {K:PySem.W.Frag} {μ:Mp} {H:Hp} {ds:List D} {xs:List V} (r:RDs K μ H ds xs) (lo a:Option Int):RDs K μ H (R4 ds lo a) (kb xs lo a):=by
 unfold R4 kb;rw [<- r.length];exact (r.drop _).take _
def slD (x:D) (lo a:Option Int):M D:=match x with
 | .tup ds=>ret (.tup (R4 ds lo a))
 | x=>bind (match x with
  | .scr ds=>ret ds
  | x=>lstOf x) λds=>ret (.lst (R4 ds lo a))
end
def noStar:Expr->Bool
 | .Starred ..=>false
 | _=>true
def m7:Expr->Bool
 | .ListComp ..=>false
 | .SetComp ..=>false
 | .DictComp ..=>false
 | _=>true
def E9:Expr->Bool
 | .Slice ..=>false
 | _=>true
def n8:Expr->Bool
 | .Set ..=>false
 | _=>true
def y0:Expr->Bool
 | .Call (.Name _ _) [] [] _=>false
 | _=>true
def E3:Expr->Bool
 | .UnaryOp .Not _ _=>false
 | .BoolOp ..=>false
 | .IfExp ..=>false
 | .Compare ..=>false
 | _=>true
theorem c9 (h:noStar e=true):starEach (e :: es) env=(false,eval e env) :: starEach es env:=by
 cases e <;> first | rfl | (exact absurd h (by simp [noStar]))
theorem j4:∀ {es:List Expr} {a:PySem.Env} {pos:Pos},es.all noStar=true->(backTo pos (starEach es a)).any (·.1)=false
 | [],_,_,_=>rfl
 | e :: es,a,pos,h=>by
  rw [Fb,Dt] at h;rw [c9 h.1];show (false||(backTo pos (starEach es a)).any (·.1))=false;rw [j4 h.2];rfl
theorem aM:∀ {es:List Expr} {a:PySem.Env} {pos:Pos},es.all noStar=true->(backTo pos (starEach es a)).all (λx=>!x.1)=true
 | [],_,_,_=>rfl
 | e :: es,a,pos,h=>by
  rw [Fb,Dt] at h;rw [c9 h.1];show (!false&&(backTo pos (starEach es a)).all (λx=>!x.1))=true;rw [aM h.2];rfl
theorem A4 (h:m7 e=true):swapsWith e t n env=pure false:=by
 cases e <;> first | rfl | (exact absurd h (by simp [m7]))
theorem gI (h:E9 e=true):cP e:=by
 intro o i;cases e <;> first | rfl | (exact absurd h (by simp [E9]))
theorem L5 {e:Expr} (h:n8 e=true):behindInMarks op e=false:=by
 cases e <;> first | rfl | (exact absurd h (by simp [n8]))
theorem v6 (h:n8 e=true):∀ x,foldedSetIterable e env x=pure x:=by
 intro x;cases e <;> first | rfl | (exact absurd h (by simp [n8]))
theorem Z1 (h:y0 o=true):attributeBase o f env (eval o env)=eval o env:=by
 unfold attributeBase;split
 ·exact absurd h (by simp [y0])
 ·rfl
theorem test_of (h:E3 e=true):∀ a,isTrue e env a=(do let v <- a;standAt e.pos;holding [v] (truthy v)):=by
 intro a;cases e <;> first
  | rfl
  | (rename_i op _ _;cases op <;> first | rfl | (exact absurd h (by simp [E3])))
  | (exact absurd h (by simp [E3]))
section
variable {X:Cx} {cl:Nat->Addr} {xe:Addr->Hp->Prop} {e:Expr} {es:List Expr} {pos:Pos} {f:Env->M D} {fs:Env->M (List D)}
theorem tY:PA X [] (tDs X.K cl xe λ_=>ret []):=PA.imp B6 λσ H Q ⟨μ,S,ρ,b,a,p⟩=>p.ret μ H (Lat.refl _ _) a [] .nil
theorem pU (h:PE X e (tD X.K cl xe f)) (hs:PA X es (tDs X.K cl xe fs)) (m:noStar e=true):PA X (e :: es) (tDs X.K cl xe λρ=>bind (f ρ) λd=>bind (fs ρ) λds=>ret (d :: ds)):=
 PA.imp (j0 h hs (c9 m)) λσ H Q ⟨μ,S,ρ,c,l,p⟩=>
  ⟨μ,S,ρ,c,l,p.bind.imp λd S1 b s q r i v g=>⟨b,S1,ρ,c.later q,r,i.bind.imp λds S2 μ2 j o n k vs a=>k.ret μ2 j (Lat.refl _ _) n _ (.cons (g.later o) a)⟩⟩
def xV (ds:List D):M D:=if ds.length<=sizeLine then ret (.tup ds) else bad
def wK (ds:List D):M D:=if ds.length<=sizeLine then ret (.lst ds) else bad
theorem ye (h:PA X es (tDs X.K cl xe fs)):PE X (.Tuple es k pos) (tD X.K cl xe λρ=>bind (fs ρ) xV):=PE.imp (nr h) λσ H Q ⟨μ,S,ρ,i,g,p⟩=>
 ⟨μ,S,ρ,i,g,p.bind.imp λds S1 e m n j c vs a=>by
  obtain ⟨f,c⟩:=Post.guard c;refine ⟨by rw [<- a.length];exact f,λz hz=>?_⟩;obtain ⟨l,b,d⟩:=L6 j a hz;exact c e _ l b _ d⟩
theorem yK (h:PA X es (tDs X.K cl xe fs)):PE X (.List es pos) (tD X.K cl xe λρ=>bind (fs ρ) wK):=PE.imp (oT h) λσ H Q ⟨μ,S,ρ,i,g,p⟩=>
 ⟨μ,S,ρ,i,g,p.bind.imp λds S1 e k m j c vs a=>by
  obtain ⟨f,c⟩:=Post.guard c;refine ⟨by rw [<- a.length];exact f,λz hz=>?_⟩;obtain ⟨l,b,d⟩:=A1 j a hz;exact c e _ l b _ d⟩
def newL (ds:List D):M D:=λS=>if ds.length<=sizeLine then .ok (.ref S.length) (S++[.lst ds]) else .bad
theorem jY (h:PA X es (tDs X.K cl xe fs)):PE X (.List es pos) (tD X.K cl xe λρ=>bind (fs ρ) newL):=PE.imp (oT h) λσ H Q ⟨μ,S,ρ,i,g,p⟩=>
 ⟨μ,S,ρ,i,g,p.bind.imp λds S1 f k m j a vs b=>by
  unfold newL at a;by_cases e:ds.length<=sizeLine
  ·rw [if_pos e] at a;refine ⟨by rw [<- b.length];exact e,λz hz=>?_⟩;obtain ⟨l,c,d⟩:=ji j b hz;exact a _ _ l c _ d
  ·rw [if_neg e] at a;exact a.elim⟩
def gG (E:XK):Addr->Hp->Prop:=λa H=>E (.ref a) none H
def spD (K:PySem.W.Frag) (cl:Nat->Addr) (n:Nat) (a:List D->M D):Sp:=λvs H Q E=>vs.length=n/\∃ μ S ds,RDs K μ H ds vs/\Rep K cl μ S H/\Post K cl (gG E0) μ H (a ds S) λd _ μ' H'=>∀ v,RD K μ' H' d v->Q v H'
theorem sQ {k n:Nat} {a:Addr} {fd:FuncData} {ps:List Str} {E:XK} {x:Str} {p:Pos} {c:List D->M D} (w:ps.length=n) (F:FnOk X.prog X.w X.K X.mg X.base CX k a fd ps (spD X.K cl n c)) (o:Room CX.q k X.A) (j:Gl X x) (r:X.mg x=some (.ref a)) (m:PySem.W.keepIn X.K (.ref a)=true) (q:Binds X.K fd ps []) (s:A8 CX X E)
  (t:PA X (e :: es) (tDs X.K cl (gG E0) fs)) (f:(x==("__debug__" : Str))=false) (hs:(e :: es).all noStar=true) (u:(e :: es).length=n) :
  PE X (.Call (.Name x p) (e :: es) [] pos) (tD X.K cl (gG E0) λρ=>bind (fs ρ) λds=>if ds.length=n then c ds else bad):=by
 rw [Fb,Dt] at hs;exact PE.imp (iJ F o j r m q .nil s t f (c9 hs.1) (j4 hs.2)) λσ H Q ⟨μ,S,ρ,h,l,p⟩=>
  ⟨μ,S,ρ,h,l,p.bind.imp λds S1 g v y i d vs b=>by
   by_cases hd:ds.length=n
   ·rw [if_pos hd] at d;exact ⟨by rw [EH,<- b.length];exact hd,g,S1,ds,by rw [EH];exact b,i,d⟩
   ·rw [if_neg hd] at d;exact d.elim⟩
theorem mn {id:String} {x:Str} {p:Pos} (d:k8 X (.builtin id) (rPs X.K cl xe g)) (o:Gl X x) (k:X.mg x=none) (h:bootBuiltins x=some (.builtin id)) (m:PA X (e :: es) (tDs X.K cl xe fs)) (j:x ≠ "__name__") (c:(x==("__debug__" : Str))=false) (hs:(e :: es).all noStar=true) :
  PE X (.Call (.Name x p) (e :: es) [] pos) (tD X.K cl xe λρ=>bind (fs ρ) g):=by
 rw [Fb,Dt] at hs;exact PE.imp (P5 d o k h m j c (c9 hs.1) (j4 hs.2)) λσ H Q ⟨μ,S,ρ,l,i,p⟩=>⟨μ,S,ρ,l,i,p.bind.imp λds S1 b q r n f vs a=>⟨b,S1,ds,a,n,f⟩⟩
theorem mS {T:String} {x:Str} {p:Pos} (d:k8 X (.type T) (rPs X.K cl xe g)) (o:Gl X x) (k:X.mg x=none) (h:bootBuiltins x=some (.type T)) (m:PA X (e :: es) (tDs X.K cl xe fs)) (j:x ≠ "__name__") (c:(x==("__debug__" : Str))=false) (hs:(e :: es).all noStar=true) :
  PE X (.Call (.Name x p) (e :: es) [] pos) (tD X.K cl xe λρ=>bind (fs ρ) g):=by
 rw [Fb,Dt] at hs;exact PE.imp (kY d o k h m j c (c9 hs.1) (j4 hs.2)) λσ H Q ⟨μ,S,ρ,l,i,p⟩=>⟨μ,S,ρ,l,i,p.bind.imp λds S1 b q r n f vs a=>⟨b,S1,ds,a,n,f⟩⟩
end
def one (g:D->M D) (ds:List D):M D:=match ds with
 | [d]=>g d
 | _=>bad
def v9 (d:D):M D:=match d with
 | .str x=>if x.length<=sizeLine then ret (.int x.length) else bad
 | .ref n=>λS=>match S[n]? with
  | some (.lst ds)=>.ok (.int ds.length) S
  | some (.dct a)=>.ok (.int a.length) S
  | _=>.bad
 | d=>bind (y4 d) λds=>ret (.int ds.length)
def U6 (d:D):M D:=match d with
 | .tup ds=>ret (.tup ds)
 | d=>bind (y4 d) λds=>ret (.tup ds)
def nF (d:D):M D:=bind (y4 d) λds=>ret (.lst ds)
instance (p:PyData):Decidable (Shows p):=decidable_of_iff (p.showable=true/\p.hasDict=false/\p.depth<=60/\p.shown.length<=sizeLine) ⟨λ⟨a,b,c,d⟩=>⟨a,b,c,d⟩,λ⟨a,b,c,d⟩=>⟨a,b,c,d⟩⟩
theorem fZ {K:PySem.W.Frag} {μ:Mp} {H:Hp} {d:D} {vs:List V} (r:RDs K μ H [d] vs):∃ v,vs=[v]/\RD K μ H d v:=by
 cases r with
 | cons h t=>cases t;exact ⟨_,rfl,h⟩
section
variable {X:Cx} {cl:Nat->Addr} {xe:Addr->Hp->Prop}
theorem O3 (h:∀ (pins:List (Addr×Obj)) (s:Shared) (σ:L2.St) (H:Hp) (μ:Mp) (S:Sto) (d:D) (v:V) (us:List Value) (Q:VK),L2.Inv X pins σ H s->Vals [v] us->RD X.K μ H d v->Rep X.K cl μ S H->Post X.K cl xe μ H (g d S) (λr _ μ' H'=>∀ v,RD X.K μ' H' r v->Q v H') ->
  wpAny (model X.prog X.w) X.A (call f us) (EP X pins σ Q) X.xe s):k8 X f (rPs X.K cl xe (one g)):=by
 intro pins s σ H xs us Q I r ⟨μ,S,ds,a,c,p⟩
 match ds,p with
 | [d],p=>
  obtain ⟨v,rfl,b⟩:=fZ a;exact h pins s σ H μ S d v us Q I r b c p
 | [],p=>exact p.elim
 | _ :: _ :: _,p=>exact p.elim
theorem zK:k8 X (.builtin "len") (rPs X.K cl xe (one v9)):=O3 λpins s σ H μ S d v us Q I r rd rp p=>by
 have sq:∀ {a:Addr} {xs:List V} {ds:List D},(SqL X.K H a xs\/SqT X.K H a xs)->RDs X.K μ H ds xs->v=.ref a->(∀ μ' H',Lat μ H μ' H'->Rep X.K cl μ' S H'->∀ w,RD X.K μ' H' (.int ds.length) w->Q w H')->wpAny (model X.prog X.w) X.A (call (.builtin "len") us) (EP X pins σ Q) X.xe s:=λ{a xs ds} hq r2 hv q=>by
  subst hv;exact bp pins s σ H _ us Q I r ⟨a,xs,rfl,hq,by rw [<- r2.length];exact q μ H (Lat.refl _ _) rp _ (.int _)⟩
 cases rd with
 | str x=>
  obtain ⟨hl,p⟩:=Post.guard p;exact cN pins s σ H _ us Q I r ⟨x,rfl,hl,p μ H (Lat.refl _ _) rp _ (.int _)⟩
 | tup h r2=>exact sq (.inr h.sq) r2 rfl p
 | lst h r2=>exact sq (.inl h.sq) r2 rfl p
 | scr h r2=>exact sq (.inl h.sq) r2 rfl p
 | ref h=>
  rename_i n a;simp only [v9] at p;cases q1:S[n]? with
  | none=>rw [q1] at p;exact p.elim
  | some o=>
   rw [q1] at p;cases o with
   | lst ds=>
    obtain ⟨xs,h1,h2⟩:=rp.ats n _ a q1 h;exact sq (.inl (.inl (.inl h1))) h2 rfl p
   | dct kvs=>
    obtain ⟨ks,h1,h2⟩:=rp.ats n _ a q1 h;have hl:=Paired.length h2;exact jo pins s σ H _ us Q I r ⟨a,ks,rfl,h1,by rw [<- hl];exact p μ H (Lat.refl _ _) rp _ (.int _)⟩
   | exc _ _=>exact p.elim
 | _=>exact False.elim p
theorem rS:k8 X (.type "tuple") (rPs X.K cl xe (one U6)):=O3 λpins s σ H μ S d v us Q I r rd rp p=>by
 have sq:∀ {a:Addr} {xs:List V} {ds:List D},SqL X.K H a xs->RDs X.K μ H ds xs->v=.ref a->(∀ μ' H',Lat μ H μ' H'->Rep X.K cl μ' S H'->∀ w,RD X.K μ' H' (.tup ds) w->Q w H')->wpAny (model X.prog X.w) X.A (call (.type "tuple") us) (EP X pins σ Q) X.xe s:=λ{a xs ds} hq r2 hv q=>by
  subst hv;refine N2 pins s σ H _ us Q I r ⟨a,xs,rfl,.inl ⟨hq,λz hz=>?_⟩⟩;obtain ⟨l,rp2,rd2⟩:=L6 rp r2 hz;exact q μ _ l rp2 _ rd2
 cases rd with
 | tup h r2=>exact N2 pins s σ H _ us Q I r ⟨_,_,rfl,.inr ⟨h.sq,p μ H (Lat.refl _ _) rp _ (.tup h r2)⟩⟩
 | lst h r2=>exact sq h.sq r2 rfl p
 | scr h r2=>exact sq h.sq r2 rfl p
 | ref h=>
  rename_i n a0;have p2:=p;obtain ⟨a,xs,ds,e1,h1,h2,e2⟩:=u8 (.ref h) rp p2.bind;exact sq (.inl (.inl h1)) h2 e1 (p2.ok_bind e2)
 | _=>exact False.elim p
theorem xz:k8 X (.type "list") (rPs X.K cl xe (one nF)):=O3 λpins s σ H μ S d v us Q I r f e p=>by
 obtain ⟨a,xs,ds,rfl,h,i,g⟩:=K3 f e p.bind;refine bz pins s σ H _ us Q I r ⟨a,xs,rfl,h,λz hz=>?_⟩;obtain ⟨l,b,c⟩:=A1 e i hz;exact (p.ok_bind g) μ _ l b _ c
end
def Mp.free (μ:Mp):Mp:=⟨μ.pl,μ.rs.tail⟩
section
variable {K:PySem.W.Frag} {cl:Nat->Addr} {xe:Addr->Hp->Prop} {μ μ2:Mp} {S S2:Sto} {H H2:Hp} {p:Addr} {o:HO}
theorem uF (i:Rep K cl μ S H) (h:H p=none):(∀ {d:D} {v:V},RD K μ H d v->RD K (μ.hold p) (upd H p o) d v)/\∀ {ds:List D} {vs:List V},RDs K μ H ds vs->RDs K (μ.hold p) (upd H p o) ds vs:=by
 have c:∀ a u,H a=some u->a∉μ.pl->a∉μ.rs->upd H p o a=some u/\a∉(μ.hold p).pl/\a∉(μ.hold p).rs:=λa u e f g=>by
  have b:=b9 e h;exact ⟨by rw [a8 b];exact e,f,λz=>(Ea.mp z).elim b g⟩
 exact ⟨λr=>r.move (μ:=μ) (μ':=μ.hold p) (λ_ _ e=>e) c,λr=>r.move (μ:=μ) (μ':=μ.hold p) (λ_ _ e=>e) c⟩
theorem T0 (c:Rep K cl μ S H) (b:H p=none):Rep K cl (μ.hold p) S (upd H p o):=by
 have j:∀ a u,H a=some u->a∉μ.pl->a∉μ.rs->upd H p o a=some u/\a∉(μ.hold p).pl/\a∉(μ.hold p).rs:=λa u e g h=>by
  have d:=b9 e b;exact ⟨by rw [a8 d];exact e,g,λz=>(Ea.mp z).elim d h⟩
 refine c.move (λa m=>?_) rfl (λa m=>a8 λz=>c.notin b (z▸m)) (λa u e=>by rw [a8 (b9 e b)];exact e) j;rcases Ea.mp (m) with rfl | m
 ·exact ⟨c.notin b,o,b8⟩
 ·obtain ⟨i,u,f⟩:=c.res a m;exact ⟨i,u,by rw [a8 (b9 f b)];exact f⟩
theorem T1 (b:Rep K cl μ S H) (c:H p=none) (a:EnvOk K μ H ρ σ):EnvOk K (μ.hold p) (upd H p o) ρ σ:=⟨a.1,λi d e=>let ⟨v,q,r⟩:=a.2 i d e;⟨v,q,(uF b c).1 r⟩⟩
theorem P0 (r:RDs K μ H ds vs):RDs K μ.free H ds vs:=r.move (μ:=μ) (μ':=μ.free) (λ_ _ e=>e) λa u e b c=>⟨e,b,λz=>c (Hl z)⟩
theorem J8 (b:Rep K cl μ S H):Rep K cl μ.free S H:=b.move (λa m=>b.res a (Hl m)) rfl (λ_ _=>rfl) (λ_ _ e=>e) λa u e c d=>⟨e,c,λz=>d (Hl z)⟩
theorem M5 (e:μ.rs=p :: rs) (r:RDs K μ H ds vs):RDs K μ (upd H p o) ds vs:=r.move (λ_ _ e=>e) λa u q c b=>⟨by rw [a8 (λz=>b (by rw [e,z];exact Ei))];exact q,c,b⟩
theorem B7 (e:μ.rs=p :: rs) (r:RD K μ H d v):RD K μ (upd H p o) d v:=r.move (λ_ _ e=>e) λa u q c b=>⟨by rw [a8 (λz=>b (by rw [e,z];exact Ei))];exact q,c,b⟩
theorem M6 (e:μ.rs=p :: rs) (h:H p=some (.lst xs)) (b:Rep K cl μ S H):Rep K cl μ S (upd H p o):=by
 have g:=(b.res p (by rw [e];exact Ei)).1;refine b.move (λa m=>?_) rfl (λa m=>a8 λz=>g (z▸m)) (λa u q=>by rw [a8 (vY q h (by intro z;cases z))];exact q) λa u q f c=>⟨by rw [a8 (λz=>c (by rw [e,z];exact Ei))];exact q,f,c⟩;obtain ⟨d,u,i⟩:=b.res a m;by_cases z:a=p
 ·subst z;exact ⟨d,o,b8⟩
 ·exact ⟨d,u,by rw [a8 z];exact i⟩
end
inductive Fl where
 | nx (ρ:Env) | rt (d:D) | bk (ρ:Env) | ct (ρ:Env)
def FlOk (K:PySem.W.Frag) (D:Ends) (a:Fl) (μ:Mp) (H:Hp):Prop:=match a with
 | .nx ρ=>∀ σ,EnvOk K μ H ρ σ->D.nx σ H
 | .rt d=>∀ v,RD K μ H d v->D.rt v H
 | .bk ρ=>∀ σ,EnvOk K μ H ρ σ->D.bk σ H
 | .ct ρ=>∀ σ,EnvOk K μ H ρ σ->D.ct σ H
def sD (K:PySem.W.Frag) (cl:Nat->Addr) (xe:Addr->Hp->Prop) (f:Env->M Fl):TS:=λD σ H=>∃ μ S ρ,EnvOk K μ H ρ σ/\Rep K cl μ S H/\Post K cl xe μ H (f ρ S) λa _ μ' H'=>FlOk K D a μ' H'
def Ae (f g:Env->M Fl) (ρ:Env):M Fl:=bind (f ρ) λa=>match a with
 | .nx b=>g b
 | a=>ret a
section
variable {X:Cx} {cl:Nat->Addr} {xe:Addr->Hp->Prop} {e:Expr} {st:Stmt} {sts:List Stmt} {pos:Pos} {f:Env->M D} {g h:Env->M Fl}
theorem F1:PS X st (sD X.K cl xe λ_=>bad):=λ_ _ _ _ _ _ ⟨_,_,_,_,_,p⟩=>p.elim
theorem pQ:PSs X [] (sD X.K cl xe λρ=>ret (.nx ρ)):=PSs.imp rZ λD σ H ⟨μ,S,ρ,b,a,p⟩=>p.ret μ H (Lat.refl _ _) a σ b
theorem rT (h1:PS X st (sD X.K cl xe g)) (h2:PSs X sts (sD X.K cl xe h)):PSs X (st :: sts) (sD X.K cl xe (Ae g h)):=PSs.imp (A2 h1 h2) λD σ H ⟨μ,S,ρ,eo,rp,p⟩=>
 ⟨μ,S,ρ,eo,rp,p.bind.imp λfl S1 μ1 H1 l1 r1 p1=>by
  cases fl with
  | nx ρ1=>exact λσ1 eo1=>⟨μ1,S1,ρ1,eo1,r1,p1⟩
  | rt d=>exact p1.ret μ1 H1 (Lat.refl _ _) r1
  | bk ρ1=>exact p1.ret μ1 H1 (Lat.refl _ _) r1
  | ct ρ1=>exact p1.ret μ1 H1 (Lat.refl _ _) r1⟩
theorem nK:PS X (.Pass pos) (sD X.K cl xe λρ=>ret (.nx ρ)):=PS.imp sP λD σ H ⟨μ,S,ρ,b,a,p⟩=>p.ret μ H (Lat.refl _ _) a σ b
theorem kH:PS X (.Break pos) (sD X.K cl xe λρ=>ret (.bk ρ)):=PS.imp mR λD σ H ⟨μ,S,ρ,b,a,p⟩=>p.ret μ H (Lat.refl _ _) a σ b
theorem lr:PS X (.Continue pos) (sD X.K cl xe λρ=>ret (.ct ρ)):=PS.imp dm λD σ H ⟨μ,S,ρ,b,a,p⟩=>p.ret μ H (Lat.refl _ _) a σ b
theorem oV (c:PE X e (tD X.K cl xe f)) (k:m7 e=true):PS X (.Expr e pos) (sD X.K cl xe λρ=>bind (f ρ) λ_=>ret (.nx ρ)):=PS.imp (F3 c (A4 k)) λD σ H ⟨μ,S,ρ,b,l,p⟩=>
 ⟨μ,S,ρ,b,l,p.bind.imp λd S1 a i h j g v m=>g.ret a i (Lat.refl _ _) j σ (b.later h)⟩
theorem iu (c:PE X e (tD X.K cl xe f)):PS X (.Return (some e) pos) (sD X.K cl xe λρ=>bind (f ρ) λd=>ret (.rt d)):=PS.imp (wO c) λD σ H ⟨μ,S,ρ,i,k,p⟩=>
 ⟨μ,S,ρ,i,k,p.bind.imp λd S1 a h l j g v b=>g.ret a h (Lat.refl _ _) j v b⟩
theorem nV:PS X (.Return none pos) (sD X.K cl xe λρ=>ret (.rt .non)):=PS.imp tq λD σ H ⟨μ,S,ρ,b,a,p⟩=>p.ret μ H (Lat.refl _ _) a _ .non
theorem xm (k:PT X c (tBo X.K cl xe t)) (m:PSs X a (sD X.K cl xe g)) (l:PSs X b (sD X.K cl xe h)):PS X (.If c a b pos) (sD X.K cl xe λρ=>bind (t ρ) λq=>if q=true then g ρ else h ρ):=PS.imp (L2.ps_if k m l) λD σ H ⟨μ,S,ρ,e,n,p⟩=>
 ⟨μ,S,ρ,e,n,p.bind.imp λq S1 d o i j f=>by
  cases q with
  | true=>exact ⟨d,S1,ρ,e.later i,j,f⟩
  | false=>exact ⟨d,S1,ρ,e.later i,j,f⟩⟩
theorem tK (q:X.N.Nodup) (g:X.N[i]?=some x) (n:Loc X.env.scope x) (j:PE X e (tD X.K cl xe f)) (o:m7 e=true) (s:X.fn x=true\/X.env.scope.names.lookup x=some .local) :
  PS X (.Assign [.Name x pos'] e pos) (sD X.K cl xe λρ=>bind (f ρ) λd=>ret (.nx (ρ.set i (some d)))):=PS.imp (ni q g n j (A4 o) s) λD σ H ⟨μ,S,ρ,b,r,p⟩=>
 ⟨μ,S,ρ,b,r,p.bind.imp λd S1 a l k m h v c=>h.ret a l (Lat.refl _ _) m _ ((b.later k).set c i)⟩
def nP (K:PySem.W.Frag) (cl:Nat->Addr) (tg:D->Env->Option Env):TG:=λv σ H Q=>∃ μ S ρ d a,EnvOk K μ H ρ σ/\Rep K cl μ S H/\RD K μ H d v/\tg d ρ=some a/\∀ b,EnvOk K μ H a b->Q b H
theorem PG.imp (h:PG X t u) (k:∀ v σ H Q,u' v σ H Q->u v σ H Q):PG X t u':=λpins s σ H v w Q I r q=>h pins s σ H v w Q I r (k v σ H Q q)
theorem pw (h:X.N.Nodup) (a:X.N[i]?=some x) (f:Loc X.env.scope x) (j:X.fn x=true\/X.env.scope.names.lookup x=some .local):PG X (.Name x pos') (nP X.K cl λd ρ=>some (ρ.set i (some d))):=
 PG.imp (w9 h a f j) λv σ H Q ⟨μ,S,ρ,d,g,c,k,b,e,q⟩=>by
  cases e;exact q _ (c.set b i)
def U5:List Nat->List D->Env->Option Env
 | [],[],ρ=>some ρ
 | i :: a,d :: ds,ρ=>U5 a ds (ρ.set i (some d))
 | _,_,_=>none
def y3 (a:List Nat) (d:D) (ρ:Env):Option Env:=match d with
 | .tup ds=>U5 a ds ρ
 | _=>none
inductive NamesAt (X:Cx):List Expr->List Nat->Prop where
 | nil:NamesAt X [] []
 | cons {x:Str} {p:Pos} {i:Nat} {ts:List Expr} {is:List Nat}:X.N[i]?=some x->Loc X.env.scope x->(X.fn x=true\/X.env.scope.names.lookup x=some .local)->NamesAt X ts is->NamesAt X (.Name x p :: ts) (i :: is)
theorem bI (hN:X.N.Nodup)  {ts:List Expr} {is:List Nat} (h:NamesAt X ts is):PGs X ts (λvs σ H Q=>∃ μ ds ρ ρ',EnvOk X.K μ H ρ σ/\RDs X.K μ H ds vs/\U5 is ds ρ=some ρ'/\∀ σ',EnvOk X.K μ H ρ' σ'->Q σ' H):=by
 induction h with
 | nil=>
  intro pins s σ H vs us Q I r ⟨μ,ds,ρ,ρ',eo,rd,e,q⟩;cases ds with
  | nil=>
   cases rd;cases e;exact cD pins s σ H [] us Q I r ⟨rfl,q σ eo⟩
  | cons d ds=>cases e
 | @cons x p i ts is h1 h2 h3 h4 ih=>
  intro pins s σ H vs us Q I r ⟨μ,ds,ρ,ρ',eo,rd,e,q⟩;cases ds with
  | nil=>cases e
  | cons d ds=>
   cases rd with
   | cons r1 r2=>exact G5 (w9 (i:=i) hN h1 h2 h3) ih rfl pins s σ H _ us Q I r ⟨_,_,rfl,μ,ds,_,ρ',eo.set r1 i,r2,e,q⟩
theorem B2 {ts:List Expr} {is:List Nat} (h:NamesAt X ts is):(assignEach ts X.env).length=is.length/\(assignEach ts X.env).findIdx? (·.1)=none:=by
 induction h with
 | nil=>exact ⟨rfl,rfl⟩
 | @cons x p i ts is h1 h2 h3 h4 ih=>
  refine ⟨by show (assignEach ts X.env).length+1=_;rw [ih.1];rfl,?_⟩;show ((false,assign (.Name x p) X.env) :: assignEach ts X.env).findIdx? (·.1)=none;rw [List.findIdx?_cons];simp [ih.2]
theorem N3:∀ {b:List Nat} {ds:List D} {ρ a:Env},U5 b ds ρ=some a->ds.length=b.length
 | [],[],_,_,_=>rfl
 | _ :: _,_ :: _,_,_,e=>by simp [N3 (by simpa [U5] using e)]
 | [],_ :: _,_,_,e=>by cases e
 | _ :: _,[],_,_,e=>by cases e
theorem ce (hc:X.calm=true) (hN:X.N.Nodup) (h:NamesAt X ts is):PG X (.Tuple ts k pos') (nP X.K cl (y3 is)):=
 PG.imp (fU hc (bI hN h) (B2 h).1 (B2 h).2) λv σ H Q ⟨μ,S,ρ,d,ρ',eo,rp,rd,e,q⟩=>by
  cases rd with
  | tup h1 h2=>exact ⟨_,_,rfl,h1.sq,by rw [<- h2.length];exact N3 e,μ,_,ρ,ρ',eo,h2,e,q⟩
  | _=>cases e
def bO:Expr->Bool
 | .Tuple ..=>false
 | _=>true
def A6 (tg:D->Env->Option Env) (d:D) (ρ:Env):M Fl:=match tg d ρ with
 | some a=>ret (.nx a)
 | none=>bad
theorem rl (n:X.calm=true) (t:X.N.Nodup) (h:NamesAt X ts is) (o:PE X e (tD X.K cl xe f)) (s:m7 e=true) (i:bO e=true):PS X (.Assign [.Tuple ts k pos'] e pos) (sD X.K cl xe λρ=>bind (f ρ) λd=>A6 (y3 is) d ρ):=
 PS.imp (cK o (ce n t h) (by unfold swapsWithSole;exact A4 s) (by cases e <;> first | rfl | (exact absurd i (by simp [bO]))) rfl) λD σ H ⟨μ,S,ρ,j,u,p⟩=>
  ⟨μ,S,ρ,j,u,p.bind.imp λd S1 a r q l b v m=>by
   cases c:y3 is d ρ with
   | none=>simp only [A6,c] at b;exact b.elim
   | some g=>simp only [A6,c] at b;exact ⟨a,S1,ρ,d,g,j.later q,l,m,c,b.ret a r (Lat.refl _ _) l⟩⟩
end
structure LatR (μ:Mp) (H:Hp) (μ':Mp) (H':Hp):Prop where
 pre:∀ (n:Nat) (a:Addr),μ.pl[n]?=some a->μ'.pl[n]?=some a
 oth:∀ a o,H a=some o->a∉μ.pl->H' a=some o
 new:∀ a,a∈μ'.pl->a∈μ.pl\/H a=none
 rsw:∀ a,a∈μ'.rs->a∈μ.rs\/H a=none
theorem Lat.r {H H':Hp} (l:Lat μ H μ' H'):LatR μ H μ' H':=⟨l.pre,l.oth,l.new,λa m=>.inl (by rw [l.rsv] at m;exact m)⟩
structure LatU (μ:Mp) (H:Hp) (μ':Mp) (H':Hp):Prop where
 pre:∀ (n:Nat) (a:Addr),μ.pl[n]?=some a->μ'.pl[n]?=some a
 oth:∀ a o,H a=some o->a∉μ.pl->a∉μ.rs->H' a=some o
 new:∀ a,a∈μ'.pl->a∈μ.pl\/H a=none
 rsw:∀ a,a∈μ'.rs->a∈μ.rs\/H a=none
theorem LatR.u {H H':Hp} (l:LatR μ H μ' H'):LatU μ H μ' H':=⟨l.pre,λa o e n _=>l.oth a o e n,l.new,l.rsw⟩
theorem LatU.out {H H':Hp} (l:LatU μ H μ' H') (a:Addr) (u:HO) (e:H a=some u) (c:a∉μ.pl) (b:a∉μ.rs):H' a=some u/\a∉μ'.pl/\a∉μ'.rs:=by
 refine ⟨l.oth a u e c b,λz=>?_,λz=>?_⟩
 ·rcases l.new a z with q | q
  ·exact c q
  ·rw [e] at q;cases q
 ·rcases l.rsw a z with q | q
  ·exact b q
  ·rw [e] at q;cases q
theorem RDs.laterU {K:PySem.W.Frag} {μ μ':Mp} {H H':Hp} (l:LatU μ H μ' H') {ds:List D} {vs:List V} (r:RDs K μ H ds vs):RDs K μ' H' ds vs:=r.move l.pre l.out
abbrev Src:=Nat->Sto->Option (Option D)
def S4 (K:PySem.W.Frag) (cl:Nat->Addr) (J:It) (i:Nat) (μ2:Mp) (b:Hp) (S2:Sto) (o:Option (Option D)):Prop:=match o with
 | some (some d)=>J.go i b/\∀ x a,J.yld i b x a->Lat μ2 b μ2 a/\Rep K cl μ2 S2 a/\RD K μ2 a d x
 | some none=>J.stop i b
 | none=>True
def Yl (K:PySem.W.Frag) (cl:Nat->Addr) (J:It) (μ:Mp) (H:Hp) (src:Src):Prop:=∀ (i:Nat) (μ2:Mp) (a:Hp) (S2:Sto),LatU μ H μ2 a->Rep K cl μ2 S2 a->S4 K cl J i μ2 a S2 (src i S2)
def tIt (K:PySem.W.Frag) (cl:Nat->Addr) (xe:Addr->Hp->Prop) (f:Env->M (Src×Nat)):TI:=λσ H R=>∃ μ S ρ,EnvOk K μ H ρ σ/\Rep K cl μ S H/\Post K cl xe μ H (f ρ S) λp _ μ' H'=>∀ J,Yl K cl J μ' H' p.1->R J H'
theorem PI.imp (h:PI X tg it t) (k:∀ σ H R,t' σ H R->t σ H R):PI X tg it t':=λpins s σ H R I q=>h pins s σ H R I (k σ H R q)
theorem wC {tg l:Expr} {m:TE} (r:PE X l m):PI X tg l (λσ H R=>m σ H λx d=>∃ a,x=.ref a/\(((∃ xs,SqL X.K d a xs)/\R (Itl X.K a) d)\/((∃ xs,SqT X.K d a xs)/\R (Itt X.K a) d))):=by
 intro pins s σ H R I h;refine thn (r pins s σ H _ I h) λv f ⟨x,d,c,n,j⟩=>?_;obtain ⟨a,e,j⟩:=j;subst e;cases n;rcases j with ⟨⟨xs,g⟩,q⟩ | ⟨⟨xs,g⟩,q⟩
 ·obtain ⟨k,t,p,hz⟩:=c.list g;refine Gx p.isList ?_;refine ⟨f.heap.objs.size,[f.heap.objs.size],_,_,d,rfl,c.kept λb o e=>Dq _ e,jq a _,⟨_,Du _ rfl,rfl,rfl⟩,λb i=>?_,q⟩;have e:b=f.heap.objs.size:=by simpa using i
  subst e;exact c.fpOk (Dz _) (c.hok.fresh (Dz _))
 ·obtain ⟨k,t,p,hz⟩:=c.tuple g;refine FC (p) ?_;refine ⟨f.heap.objs.size,[f.heap.objs.size],_,_,d,rfl,c.kept λb o e=>Dq _ e,fc a _,⟨_,Du _ rfl,rfl,rfl⟩,λb i=>?_,q⟩;have e:b=f.heap.objs.size:=by simpa using i
  subst e;exact c.fpOk (Dz _) (c.hok.fresh (Dz _))
def G2 (ds:List D):Src:=λi _=>some ds[i]?
def fy (n:Nat):Src:=λi S=>match S[n]? with
 | some (.lst es)=>some es[i]?
 | _=>none
def W9 (lo:Int) (n:Nat):Src:=λi _=>some (if i<n then some (.int (lo+i)) else none)
section
variable {K:PySem.W.Frag} {cl:Nat->Addr} {μ:Mp} {H:Hp}
theorem wj (h:TupAt K μ H a xs) (r:RDs K μ H ds xs):Yl K cl (Itt K a) μ H (G2 ds):=λi μ2 g S2 l y=>by
 have b:SqT K g a xs:=by
  rcases h with ⟨q,n1,n2⟩ | q
  ·rcases q with q | ⟨o,q⟩
   ·exact .inl (.inl (l.oth _ _ q n1 n2))
   ·exact .inl (.inr ⟨o,l.oth _ _ q n1 n2⟩)
  ·obtain ⟨o,c,n,u,j,w,m,t,_⟩:=q;exact .inr ⟨o,c,n,u,j,w,m,t⟩
 have k:=r.laterU l;show S4 K cl (Itt K a) i μ2 g S2 (some ds[i]?);cases e:ds[i]? with
 | none=>exact ⟨xs,b,by rw [<- r.length];exact GJ.mp e⟩
 | some d=>
  obtain ⟨v,f,p⟩:=k.get e;exact ⟨⟨xs,v,b,f⟩,λx z ⟨s,q⟩=>by subst s;have:=q xs b;rw [f] at this;cases this;exact ⟨Lat.refl _ _,y,p⟩⟩
theorem mF (h:LstAt μ H a xs\/ScrAt K μ H a xs) (r:RDs K μ H ds xs):Yl K cl (Itl K a) μ H (G2 ds):=λi μ2 f S2 l m=>by
 have b:SqL K f a xs:=by
  rcases h with ⟨q,n1,n2⟩ | ⟨q,n1,n2⟩ | q
  ·exact .inl (.inl (l.oth _ _ q n1 n2))
  ·rcases q with q | ⟨o,q⟩
   ·exact .inl (.inl (l.oth _ _ q n1 n2))
   ·exact .inl (.inr ⟨o,l.oth _ _ q n1 n2⟩)
  ·exact .inr q
 have g:=r.laterU l;show S4 K cl (Itl K a) i μ2 f S2 (some ds[i]?);cases e:ds[i]? with
 | none=>exact ⟨xs,b,by rw [<- r.length];exact GJ.mp e⟩
 | some d=>
  obtain ⟨v,c,j⟩:=g.get e;exact ⟨⟨xs,v,b,c⟩,λx n ⟨k,q⟩=>by subst k;have:=q xs b;rw [c] at this;cases this;exact ⟨Lat.refl _ _,m,j⟩⟩
theorem wm {n:Nat} (h:μ.pl[n]?=some a):Yl K cl (Itl K a) μ H (fy n):=λi μ2 H2 S2 l rp=>by
 show S4 K cl (Itl K a) i μ2 H2 S2 (match S2[n]? with
  | some (.lst es)=>some es[i]?
  | _=>none)
 cases q1:S2[n]? with
 | none=>exact True.intro
 | some o=>
  cases o with
  | dct _=>exact True.intro
  | exc _ _=>exact True.intro
  | lst es=>
   obtain ⟨xs,h1,h2⟩:=rp.ats n _ a q1 (l.pre _ _ h);have hq:SqL K H2 a xs:=.inl (.inl h1);show S4 K cl (Itl K a) i μ2 H2 S2 (some es[i]?);cases e:es[i]? with
   | none=>exact ⟨xs,hq,by rw [<- h2.length];exact GJ.mp e⟩
   | some d=>
    obtain ⟨v,e1,r1⟩:=h2.get e;exact ⟨⟨xs,v,hq,e1⟩,λx H3 ⟨e3,q⟩=>by subst e3;have:=q xs hq;rw [e1] at this;cases this;exact ⟨Lat.refl _ _,rp,r1⟩⟩
theorem ee {lo:Int} {n:Nat}:Yl K cl (Itr lo n) μ H (W9 lo n):=λi μ2 d S2 l e=>by
 show S4 K cl (Itr lo n) i μ2 d S2 (some (if i<n then some (.int (lo+i)) else none));by_cases a:i<n
 ·rw [if_pos a];exact ⟨a,λx f ⟨c,b⟩=>by subst c b;exact ⟨Lat.refl _ _,e,.int _⟩⟩
 ·rw [if_neg a];exact GE a
end
def q9 (d:D):M (Src×Nat):=match d with
 | .tup ds=>ret (G2 ds,ds.length+1)
 | .lst ds=>ret (G2 ds,ds.length+1)
 | .scr ds=>ret (G2 ds,ds.length+1)
 | .ref n=>λS=>match S[n]? with
  | some (.lst ds)=>.ok (fy n,ds.length+1) S
  | _=>.bad
 | _=>bad
def C8 (ds:List D):M (Src×Nat):=match ds with
 | [.int j]=>if -(2 ^ 62)<=j/\j<2 ^ 62 then ret (W9 0 j.toNat,j.toNat+1) else bad
 | [.int i,.int j]=>if -(2 ^ 62)<=i/\i<2 ^ 62/\-(2 ^ 62)<=j/\j<2 ^ 62 then ret (W9 i (j-i).toNat,(j-i).toNat+1) else bad
 | _=>bad
section
variable {X:Cx} {cl:Nat->Addr} {xe:Addr->Hp->Prop} {e:Expr} {tg:Expr} {pos:Pos} {f:Env->M D}
theorem jT {tg e:Expr}:PI X tg e (tIt X.K cl xe λ_=>bad):=λ_ _ _ _ _ _ ⟨_,_,_,_,_,p⟩=>p.elim
theorem qL (h:PE X e (tD X.K cl xe f)):PI X tg e (tIt X.K cl xe λρ=>bind (f ρ) q9):=PI.imp (wC h) λσ H R ⟨μ,S,ρ,eo,rp,p⟩=>
 ⟨μ,S,ρ,eo,rp,p.bind.imp λd S1 μ1 H1 l1 r1 p1 v rv=>by
  cases rv with
  | tup h r=>exact ⟨_,rfl,.inr ⟨⟨_,h.sq⟩,p1.ret μ1 H1 (Lat.refl _ _) r1 _ (wj h r)⟩⟩
  | lst h r=>exact ⟨_,rfl,.inl ⟨⟨_,h.sq⟩,p1.ret μ1 H1 (Lat.refl _ _) r1 _ (mF (.inl h) r)⟩⟩
  | scr h r=>exact ⟨_,rfl,.inl ⟨⟨_,h.sq⟩,p1.ret μ1 H1 (Lat.refl _ _) r1 _ (mF (.inr h) r)⟩⟩
  | ref h=>
   rename_i n a;simp only [q9] at p1;cases q1:S1[n]? with
   | none=>rw [q1] at p1;exact p1.elim
   | some o=>
    rw [q1] at p1;cases o with
    | lst ds=>
     obtain ⟨xs,h1,h2⟩:=r1.ats n _ a q1 h;exact ⟨_,rfl,.inl ⟨⟨xs,.inl (.inl h1)⟩,p1 μ1 H1 (Lat.refl _ _) r1 _ (wm h)⟩⟩
    | dct _=>exact p1.elim
    | exc _ _=>exact p1.elim
  | _=>exact False.elim p1⟩
theorem fX (hg:Gl X "range") (hm:X.mg "range" = none) (ha:PA X [a] (tDs X.K cl xe fs)) (hs:noStar a=true):PI X tg (.Call (.Name "range" p) [a] [] pos) (tIt X.K cl xe λρ=>bind (fs ρ) λds=>if ds.length=1 then C8 ds else bad):=
 PI.imp (kn hg hm ha (c9 hs)) λσ H R ⟨μ,S,ρ,eo,rp,p⟩=>⟨μ,S,ρ,eo,rp,p.bind.imp λds S1 μ1 H1 l1 r1 p1 vs rvs=>by
  cases rvs with
  | nil=>exact False.elim p1
  | cons h t=>
   cases t with
   | cons _ t=>rw [if_neg (by simp)] at p1;exact p1.elim
   | nil=>
    rename_i d0 v0;rw [if_pos (show ([d0]:List D).length=1 from rfl)] at p1;cases h with
    | int j=>
     obtain ⟨⟨h1,h2⟩,p1⟩:=Post.guard p1;exact ⟨j,rfl,h1,h2,p1 μ1 H1 (Lat.refl _ _) r1 _ ee⟩
    | _=>exact False.elim p1⟩
theorem gC (hg:Gl X "range") (hm:X.mg "range" = none) (ha:PA X [a,b] (tDs X.K cl xe fs)) (hs:noStar a=true) (hs2:noStar b=true):PI X tg (.Call (.Name "range" p) [a,b] [] pos) (tIt X.K cl xe λρ=>bind (fs ρ) λds=>if ds.length=2 then C8 ds else bad):=
 PI.imp (lD hg hm ha (by rw [c9 hs,c9 hs2];rfl) (c9 hs2)) λσ H R ⟨μ,S,ρ,eo,rp,p⟩=>⟨μ,S,ρ,eo,rp,p.bind.imp λds S1 μ1 H1 l1 r1 p1 vs rvs=>by
  by_cases hd:ds.length=2
  ·rw [if_pos hd] at p1
   match ds,hd with
   | [d1,d2],_=>
    cases rvs with
    | cons h t=>
     cases t with
     | cons h2 t=>
      cases t;cases h with
      | int i=>
       cases h2 with
       | int j=>
        obtain ⟨hh,p1⟩:=Post.guard p1;exact ⟨i,j,rfl,hh,p1 μ1 H1 (Lat.refl _ _) r1 _ ee⟩
       | _=>exact False.elim p1
      | _=>exact False.elim p1
  ·rw [if_neg hd] at p1;exact p1.elim⟩
end
def u0 (src:Src) (tg:D->Env->Option Env) (body:Env->M Fl):Nat->Nat->Env->M Fl
 | 0,_,_=>bad
 | m+1,i,ρ=>λS=>match src i S with
  | none=>.bad
  | some none=>.ok (.nx ρ) S
  | some (some d)=>match tg d ρ with
   | none=>.bad
   | some b=>bind (body b) (λc=>match c with
    | .nx a=>u0 src tg body m (i+1) a
    | .ct a=>u0 src tg body m (i+1) a
    | .bk a=>ret (.nx a)
    | .rt d=>ret (.rt d)) S
section
variable {X:Cx} {cl:Nat->Addr} {xe:Addr->Hp->Prop} {iter tgt:Expr} {pos:Pos} {fi:Env->M (Src×Nat)} {tg:D->Env->Option Env} {g:Env->M Fl} {body:List Stmt}
theorem rG (Y:PassesOwn (model X.prog X.w) X.A X.env X.xe) (hc:X.calm=true) (hi:PI X tgt iter (tIt X.K cl xe fi)) (hg:PG X tgt (nP X.K cl tg)) (hb:PSs X body (sD X.K cl xe g)) (hn:n8 iter=true) :
  PS X (.For tgt iter body [] pos) (sD X.K cl xe λρ=>bind (fi ρ) λp=>u0 p.1 tg g p.2 0 ρ):=PS.imp (yL Y hc hi hg hb (v6 hn)) λD σ H ⟨μ,S,ρ,T,rp,p⟩=>by
 refine ⟨μ,S,ρ,T,rp,p.bind.imp λsm S1 f A l1 r1 p1 J yl=>?_⟩;obtain ⟨src,m⟩:=sm;refine ⟨λi m σ H=>∃ μ2 S2 h,LatR f A μ2 H/\EnvOk X.K μ2 H h σ/\Rep X.K cl μ2 S2 H/\Post X.K cl xe μ2 H (u0 src tg g m i h S2) (λw _ μ' H'=>FlOk X.K D w μ' H'),⟨m,f,S1,ρ,(Lat.refl _ _).r,T.later l1,r1,p1⟩,?_⟩;rintro i m F I ⟨μ2,S2,h,s,u,U,j⟩;cases m with
 | zero=>exact j.elim
 | succ m=>
  have y:S4 X.K cl J i μ2 I S2 (src i S2):=yl i μ2 I S2 s.u U;simp only [u0] at j;cases O:src i S2 with
  | none=>rw [O] at j;exact j.elim
  | some o=>
   rw [O] at j y;cases o with
   | none=>exact .inl ⟨y,j μ2 I (Lat.refl _ _) U F u⟩
   | some d=>
    obtain ⟨y1,Z⟩:=y;cases L:tg d h with
    | none=>simp only [L] at j;exact j.elim
    | some t=>
     simp only [L] at j;refine .inr ⟨y1,λv H'=>∃ l P b,LatR f A l H'/\EnvOk X.K l H' b v/\Rep X.K cl l P H'/\Post X.K cl xe l H' (u0 src tg g m (i+1) b P) (λw _ μ' H'=>FlOk X.K D w μ' H'),λv H' q=>⟨m,Ek _,q⟩,λx H3 hy=>?_⟩;obtain ⟨M,V,E⟩:=Z x H3 hy;refine ⟨μ2,S2,h,d,t,u.later M,V,E,L,λσ3 K=>?_⟩;refine ⟨μ2,S2,t,K,V,(Post.later j M).bind.imp λw W c N l4 B C=>?_⟩;have R:LatR f A c N:=by
      have k:=M.trans l4;refine ⟨λn a e=>k.pre n a (s.pre n a e),λa o e n=>k.oth a o (s.oth a o e n) (λz=>(s.new a z).elim n (λq=>by rw [e] at q;cases q)),λa m=>(k.new a m).elim (λz=>s.new a z) (λz=>?_),λa m=>s.rsw a (by rw [<- k.rsv];exact m)⟩;by_cases Q:a∈f.pl
      ·exact .inl Q
      ·right
       cases e:A a with
       | none=>rfl
       | some o=>rw [s.oth a o e Q] at z;cases z
     cases w with
     | nx b=>exact λG r=>⟨c,W,b,R,r,B,C⟩
     | ct b=>exact λG r=>⟨c,W,b,R,r,B,C⟩
     | bk b=>exact C.ret c N (Lat.refl _ _) B
     | rt d=>exact C.ret c N (Lat.refl _ _) B
end
structure HLat (μ:Mp) (H:Hp) (p:Addr) (μ2:Mp) (H2:Hp):Prop where
 r:LatR μ H μ2 H2
 rs:μ2.rs=p :: μ.rs
theorem HLat.lat {H c H':Hp} {p:Addr} (h:HLat μ H p μ2 c) (l:Lat μ2 c μ' H'):Lat μ H μ'.free H':=by
 refine ⟨λn a e=>l.pre n a (h.r.pre n a e),λa o e n=>?_,λa m=>?_,by show μ'.rs.tail=μ.rs;rw [l.rsv,h.rs];rfl⟩
 ·have d:=λz=>(h.r.new a z).elim n λq=>by rw [e] at q;cases q
  exact l.oth a o (h.r.oth a o e n) d
 ·rcases l.new a m with q | q
  ·exact h.r.new a q
  ·by_cases b:a∈μ.pl
   ·exact .inl b
   ·right
    cases e:H a with
    | none=>rfl
    | some o=>rw [h.r.oth a o e b] at q;cases q
theorem HLat.step {H c b:Hp} {p:Addr} (h:HLat μ H p μ2 c) (l:Lat μ2 c μ3 b):HLat μ H p μ3 b:=by
 have k:=h.lat l;refine ⟨⟨k.pre,k.oth,k.new,λa m=>h.r.rsw a (by rw [<- l.rsv];exact m)⟩,by rw [l.rsv];exact h.rs⟩
section
variable {K:PySem.W.Frag} {cl:Nat->Addr} {xe:Addr->Hp->Prop} {α β:Type} {μ μ2:Mp} {H H2:Hp} {p:Addr} {S:Sto}
theorem Post.at {k:α->M β} {G:β->Sto->Mp->Hp->Prop} (h:Post K cl xe μ H (L3.bind m k S) G) (l:HLat μ H p μ2 H2):Post K cl xe μ2 H2 (m S) (λa S' _ _=>Post K cl xe μ H (k a S') G):=by
 unfold L3.bind at h;cases e:m S with
 | ok a S1=>rw [e] at h;exact λ_ _ _ _=>h
 | exn n S1=>rw [e] at h;exact λμ' H' a k r q=>h μ'.free H' a (l.lat k) (J8 r) q
 | bad=>rw [e] at h;exact h
end
def v7 (src:Src) (t:Env->M Bool) (f:Env->M D) (mk:D->Env):Nat->Nat->List D->M (List D)
 | 0,_,_=>bad
 | m+1,i,es=>λS=>match src i S with
  | none=>.bad
  | some none=>.ok es S
  | some (some d)=>bind (t (mk d)) (λb=>if b=true then bind (f (mk d)) (λy=>if es.length<sizeLine then v7 src t f mk m (i+1) (es++[y]) else bad) else v7 src t f mk m (i+1) es) S
def d4 (caps:List Nat) (ρ:Env):Env:=caps.map λi=>(ρ[i]?).join
theorem Q5 {K:PySem.W.Frag} {μ:Mp} {H:Hp} {ρ:Env} {σ:L2.St} {caps:List Nat} {d:D} {x:V} (eo:EnvOk K μ H ρ σ) (r:RD K μ H d x):EnvOk K μ H (some d :: d4 caps ρ) (some x :: i6 caps σ):=by
 refine ⟨by simp [d4,i6],λi e he=>?_⟩;cases i with
 | zero=>simp at he;subst he;exact ⟨x,rfl,r⟩
 | succ j=>
  have he:(d4 caps ρ)[j]?=some (some e):=he;unfold d4 at he;rw [Eo] at he;cases q:caps[j]? with
  | none=>rw [q] at he;cases he
  | some i=>
   rw [q] at he;have h':(ρ[i]?).join=some e:=EA he;have h2:ρ[i]?=some (some e):=by
    cases q2:ρ[i]? with
    | none=>rw [q2] at h';cases h'
    | some o=>rw [q2] at h';exact congrArg some h'
   obtain ⟨v,e1,r1⟩:=eo.2 i e h2;refine ⟨v,?_,r1⟩;show (i6 caps σ)[j]?=_;unfold i6;rw [Eo,q];show some (σ[i]?).join=_;rw [e1];rfl
def iY (caps:List Nat) (b:Env->M (Src×Nat)) (t:Env->M Bool) (f:Env->M D) (ρ:Env):M (List D):=bind (b ρ) λa=>v7 a.1 t f (λd=>some d :: d4 caps ρ) a.2 0 []
theorem aF {K:PySem.W.Frag} {cl:Nat->Addr} {xe:Addr->Hp->Prop} {caps:List Nat} {fi:Env->M (Src×Nat)} {t:Env->M Bool} {f:Env->M D} {σ:L2.St} {H:Hp} {μ:Mp} {S:Sto} {ρ:Env} {Q:VK} (eo:EnvOk K μ H ρ σ) (rp:Rep K cl μ S H)
  (p:Post K cl xe μ H (iY caps fi t f ρ S) λds _ μ' H'=>∀ c ys,LstAt μ' H' c ys->RDs K μ' H' ds ys->Q (.ref c) H'):pZ caps (tIt K cl xe fi) (tBo K cl xe t) (tD K cl xe f) σ H Q:=by
 refine ⟨μ,S,ρ,eo,rp,p.bind.imp λsm S1 u H1 l1 P p1 J yl c g=>?_⟩;obtain ⟨src,m0⟩:=sm;have V:=P.notrs g;refine ⟨λi m ys l=>∃ μ2 S2 es,HLat u H1 c μ2 l/\c∉μ2.pl/\l c=some (.lst ys)/\EnvOk K μ2 l ρ σ/\Rep K cl μ2 S2 l/\RDs K μ2 l es ys/\Post K cl xe u H1 (v7 src t f (λd=>some d :: d4 caps ρ) m i es S2) (λds _ μ' H'=>∀ c ys,LstAt μ' H' c ys->RDs K μ' H' ds ys->Q (.ref c) H'),⟨m0,u.hold c,S1,[],?_,P.notin g,b8,T1 P g (eo.later l1),T0 P g,.nil,p1⟩,?_⟩
 ·refine ⟨⟨λ_ _ e=>e,λa o e _=>by rw [a8 (b9 e g)];exact e,λa m=>.inl m,λa m=>?_⟩,rfl⟩;rcases Ea.mp (m) with rfl | m
  ·exact .inr g
  ·exact .inl m
 rintro i m ys l ⟨μ2,S2,es,R,z,I,s,r2,h,A⟩;refine ⟨I,?_⟩;cases m with
 | zero=>exact A.elim
 | succ m=>
  have y:S4 K cl J i μ2 l S2 (src i S2):=yl i μ2 l S2 R.r.u r2;simp only [v7] at A;cases e1:src i S2 with
  | none=>rw [e1] at A;exact A.elim
  | some o=>
   rw [e1] at A y;cases o with
   | none=>
    refine .inl ⟨y,A μ2.free l (R.lat (Lat.refl _ _)) (J8 r2) c ys ⟨I,z,?_⟩ (P0 h)⟩;show c∉μ2.rs.tail;rw [R.rs];exact V
   | some d=>
    obtain ⟨y1,y2⟩:=y;refine .inr ⟨y1,λx H3 hy=>?_⟩;obtain ⟨L,r3,C⟩:=y2 x H3 hy;have h3:=R.step L;refine ⟨μ2,S2,_,Q5 (s.later L) C,r3,(Post.at A h3).imp λb S5 F H5 Y r5 U=>?_⟩;have X:=h3.step Y;have k:=L.trans Y;have Z:=k.oth _ _ I z;have W:=k.out I z;cases b with
    | false=>exact ⟨m,Ek _,F,S5,es,X,W,Z,s.later k,r5,h.later k,U⟩
    | true=>
     refine kc ?_;rw [if_pos rfl] at U;refine ⟨F,S5,_,(Q5 (s.later L) C).later Y,r5,(Post.at U X).imp λyv S6 μ6 H6 O r6 T v rv=>?_⟩;have B:=X.step O;have G:=k.trans O;have a6:=O.oth _ _ Z W;have n6:=O.out Z W;by_cases hz:es.length<sizeLine
     ·rw [if_pos hz] at T;have N:=B.rs;refine ⟨a6,by rw [<- h.length];exact hz,m,Ek _,μ6,S6,es++[yv],?_,n6,b8,?_,M6 N a6 r6,M5 N ((h.later G).append (.cons rv .nil)),T⟩
      ·refine ⟨⟨B.r.pre,λa o e n=>?_,B.r.new,B.r.rsw⟩,N⟩;rw [a8 (b9 e g)];exact B.r.oth a o e n
      ·have E:=s.later G;exact ⟨E.1,λj e he=>let ⟨w,q,r⟩:=E.2 j e he;⟨w,q,B7 N r⟩⟩
     ·rw [if_neg hz] at T;exact T.elim
section
variable {X:Cx} {cl:Nat->Addr} {xe:Addr->Hp->Prop} {elt iter:Expr} {x:Str} {px pos:Pos} {ifs:List Expr} {scope:Scope} {N':List Str} {caps:List Nat} {fi:Env->M (Src×Nat)} {t:Env->M Bool} {f:Env->M D}
theorem lH {X:Cx}:PTL X [] (tBo X.K cl xe λ_=>ret true):=λpins s σ H Q I ⟨μ,S,ρ,b,a,p⟩=>sO pins s σ H Q I (p μ H (Lat.refl _ _) a)
theorem eR (T:CompText X.N X.env N' 1 caps scope) (k:X.calm=true) (i:N'.Nodup) (b:N'[0]?=some x) (d:scope.names.lookup x=some .local) (h:PI X (.Name x px) iter (tIt X.K cl xe fi))
  (l:∀ pins C c s H,PTL (b7 X pins N' scope C c s H) ifs (tBo X.K cl xe t)) (e:∀ pins C c s H,PE (b7 X pins N' scope C c s H) elt (tD X.K cl xe f)) (g:n8 iter=true) :
  PE X (.ListComp elt [⟨.Name x px,iter,ifs,0⟩] scope pos) (λσ H Q=>∃ μ S ρ,EnvOk X.K μ H ρ σ/\Rep X.K cl μ S H/\Post X.K cl xe μ H (iY caps fi t f ρ S) λds _ μ' H'=>∀ a ys,LstAt μ' H' a ys->RDs X.K μ' H' ds ys->Q (.ref a) H'):=
 PE.imp (qY T k i b d h l e (v6 g)) λσ H Q ⟨μ,S,ρ,m,j,p⟩=>aF m j p
end
def jD (K:PySem.W.Frag) (cl:Nat->Addr) (xe:Addr->Hp->Prop) (fs:Env->M (List D)):TE:=λσ H Q=>∃ μ S ρ,EnvOk K μ H ρ σ/\Rep K cl μ S H/\Post K cl xe μ H (fs ρ S) λds _ μ' H'=>∀ a ys,LstAt μ' H' a ys->RDs K μ' H' ds ys->Q (.ref a) H'
theorem jX {α β γ:Type} (m:M α) (k:α->M β) (k2:β->M γ):bind (bind m k) k2=bind m λa=>bind (k a) k2:=by
 funext S;unfold bind;cases m S <;> rfl
theorem vX {k:α->M β} {S:Sto} (h:m S=m' S):bind m k S=bind m' k S:=by
 unfold bind;rw [h]
def y7 (src:Src) (t:Env->M Bool) (c:Env->M (Src×Nat)) (e:Env->M Bool) (f:Env->M D) (a:Env):Nat->Nat->List D->M (List D)
 | 0,_,_=>bad
 | m+1,i,es=>λS=>match src i S with
  | none=>.bad
  | some none=>.ok es S
  | some (some d)=>bind (t (some d :: none :: a)) (λb=>if b=true then bind (c (some d :: none :: a)) (λg=>bind (v7 g.1 e f (λh=>some d :: some h :: a) g.2 0 es) (λes'=>y7 src t c e f a m (i+1) es')) else y7 src t c e f a m (i+1) es) S
theorem nN {K:PySem.W.Frag} {μ:Mp} {H:Hp} {ρ:Env} {σ:L2.St} {caps:List Nat} {d:D} {x:V} (b:EnvOk K μ H ρ σ) (r:RD K μ H d x):EnvOk K μ H (some d :: none :: d4 caps ρ) (some x :: none :: i6 caps σ):=by
 have h:=Q5 (caps:=caps) b r;refine ⟨by have:=h.1;simp at this ⊢;exact this,λi e a=>?_⟩
 match i with
 | 0=>exact h.2 0 e a
 | 1=>simp at a
 | i+2=>exact h.2 (i+1) e a
theorem mj {K:PySem.W.Frag} {μ:Mp} {H:Hp} {ρ:Env} {σ:L2.St} {caps:List Nat} {d d2:D} {x y:V} (eo:EnvOk K μ H ρ σ) (r:RD K μ H d x) (r2:RD K μ H d2 y):EnvOk K μ H (some d :: some d2 :: d4 caps ρ) (some x :: some y :: i6 caps σ):=by
 have h:=Q5 (caps:=caps) eo r;refine ⟨by have:=h.1;simp at this ⊢;exact this,λi e he=>?_⟩
 match i with
 | 0=>exact h.2 0 e he
 | 1=>simp at he;subst he;exact ⟨y,rfl,r2⟩
 | i+2=>exact h.2 (i+1) e he
def br (caps:List Nat) (c:Env->M (Src×Nat)) (t:Env->M Bool) (a:Env->M (Src×Nat)) (d:Env->M Bool) (f:Env->M D) (ρ:Env):M (List D):=bind (c ρ) λb=>y7 b.1 t a d f (d4 caps ρ) b.2 0 []
theorem dQ {K:PySem.W.Frag} {cl:Nat->Addr} {xe:Addr->Hp->Prop} {caps:List Nat} {fi u:Env->M (Src×Nat)} {t A:Env->M Bool} {f:Env->M D} {σ:L2.St} {H:Hp} {μ:Mp} {S:Sto} {ρ:Env} {Q:VK} (eo:EnvOk K μ H ρ σ) (rp:Rep K cl μ S H)
  (p:Post K cl xe μ H (br caps fi t u A f ρ S) λds _ μ' H'=>∀ c ys,LstAt μ' H' c ys->RDs K μ' H' ds ys->Q (.ref c) H'):qH caps (tIt K cl xe fi) (tBo K cl xe t) (tIt K cl xe u) (tBo K cl xe A) (tD K cl xe f) σ H Q:=by
 refine ⟨μ,S,ρ,eo,rp,p.bind.imp λsm S1 U H1 l1 r1 p1 J yl c s=>?_⟩;obtain ⟨src,m0⟩:=sm;have nrs:=r1.notrs s;refine ⟨λi m ys X=>∃ μ2 S2 es,HLat U H1 c μ2 X/\c∉μ2.pl/\X c=some (.lst ys)/\EnvOk K μ2 X ρ σ/\Rep K cl μ2 S2 X/\RDs K μ2 X es ys/\Post K cl xe U H1 (y7 src t u A f (d4 caps ρ) m i es S2) (λds _ μ' H'=>∀ c ys,LstAt μ' H' c ys->RDs K μ' H' ds ys->Q (.ref c) H'),⟨m0,U.hold c,S1,[],?_,r1.notin s,b8,T1 r1 s (eo.later l1),T0 r1 s,.nil,p1⟩,?_⟩
 ·refine ⟨⟨λ_ _ e=>e,λa o e _=>by rw [a8 (b9 e s)];exact e,λa m=>.inl m,λa m=>?_⟩,rfl⟩;rcases Ea.mp (m) with rfl | m
  ·exact .inr s
  ·exact .inl m
 rintro i m ys X ⟨μ2,S2,es,hl,npl,e2,W,r2,V,p2⟩;refine ⟨e2,?_⟩;cases m with
 | zero=>exact p2.elim
 | succ m=>
  have y:S4 K cl J i μ2 X S2 (src i S2):=yl i μ2 X S2 hl.r.u r2;simp only [y7] at p2;cases e1:src i S2 with
  | none=>rw [e1] at p2;exact p2.elim
  | some o=>
   rw [e1] at p2 y;cases o with
   | none=>
    refine .inl ⟨y,p2 μ2.free X (hl.lat (Lat.refl _ _)) (J8 r2) c ys ⟨e2,npl,?_⟩ (P0 V)⟩;show c∉μ2.rs.tail;rw [hl.rs];exact nrs
   | some d=>
    obtain ⟨y1,y2⟩:=y;refine .inr ⟨y1,λx H3 hy=>?_⟩;obtain ⟨l3,r3,rd3⟩:=y2 x H3 hy;have h3:=hl.step l3;refine ⟨μ2,S2,_,nN (W.later l3) rd3,r3,(Post.at p2 h3).imp λb S5 μ5 H5 l5 r5 p5=>?_⟩;have h5:=h3.step l5;have R:=l3.trans l5;have a5:=R.oth _ _ e2 npl;have n5:=R.out e2 npl;cases b with
    | false=>exact ⟨m,Ek _,μ5,S5,es,h5,n5,a5,W.later R,r5,V.later R,p5⟩
    | true=>
     refine kc ?_;rw [if_pos rfl] at p5;refine ⟨μ5,S5,_,(nN (W.later l3) rd3).later l5,r5,(Post.at p5 h5).imp λsm S6 O H6 l6 r6 p6 J1 yl1=>?_⟩;obtain ⟨k,I⟩:=sm;have h6:=h5.step l6;have l36:=R.trans l6;have a6:=l6.oth _ _ a5 n5;have n6:=l6.out a5 n5;refine ⟨λj I zs T=>∃ h E g,HLat U H1 c h T/\LatU O H6 h T/\c∉h.pl/\T c=some (.lst zs)/\EnvOk K h T ρ σ/\Rep K cl h E T/\RDs K h T g zs/\RD K h T d x /\
      Post K cl xe U H1 (bind (v7 k A f (λG=>some d :: some G :: d4 caps ρ) I j g) (λes'=>y7 src t u A f (d4 caps ρ) m (i+1) es') E) (λds _ μ' H'=>∀ c ys,LstAt μ' H' c ys->RDs K μ' H' ds ys->Q (.ref c) H'),
      ⟨I,O,S6,es,h6,(Lat.refl _ _).r.u,n6,a6,W.later l36,r6,V.later l36,(rd3.later l5).later l6,p6⟩,?_⟩
     rintro j I zs T ⟨h,E,g,h7,u7,n7,a7,L,r7,F,rd7,p7⟩;refine ⟨a7,?_⟩;cases I with
     | zero=>exact p7.elim
     | succ I=>
      have z:S4 K cl J1 j h T E (k j E):=yl1 j h T E u7 r7;cases f1:k j E with
      | none=>
       have:bind (v7 k A f (λG=>some d :: some G :: d4 caps ρ) (I+1) j g) (λes'=>y7 src t u A f (d4 caps ρ) m (i+1) es') E=.bad:=by
        unfold bind;simp only [v7,f1]
       rw [this] at p7;exact p7.elim
      | some o=>
       rw [f1] at z;cases o with
       | none=>
        have:bind (v7 k A f (λG=>some d :: some G :: d4 caps ρ) (I+1) j g) (λes'=>y7 src t u A f (d4 caps ρ) m (i+1) es') E=y7 src t u A f (d4 caps ρ) m (i+1) g E:=by
         conv=>lhs;unfold bind
         simp only [v7,f1]
        rw [this] at p7;exact .inl ⟨z,m,Ek _,h,E,g,h7,n7,a7,L,r7,F,p7⟩
       | some G=>
        have un:bind (v7 k A f (λG=>some d :: some G :: d4 caps ρ) (I+1) j g) (λes'=>y7 src t u A f (d4 caps ρ) m (i+1) es') E =
          bind (A (some d :: some G :: d4 caps ρ)) (λb=>bind (if b=true then bind (f (some d :: some G :: d4 caps ρ)) (λy=>if g.length<sizeLine then v7 k A f (λG=>some d :: some G :: d4 caps ρ) I (j+1) (g++[y]) else bad) else v7 k A f (λG=>some d :: some G :: d4 caps ρ) I (j+1) g) (λes'=>y7 src t u A f (d4 caps ρ) m (i+1) es')) E:=by
         rw [<- jX];exact vX (by simp only [v7,f1])
        rw [un] at p7;obtain ⟨z1,z2⟩:=z;refine .inr ⟨z1,λyv H8 hy2=>?_⟩;obtain ⟨l8,r8,rd8⟩:=z2 yv H8 hy2;have h8:=h7.step l8;have rdx:=rd7.later l8;refine ⟨h,E,_,mj (L.later l8) rdx rd8,r8,(Post.at p7 h8).imp λb2 S9 μ9 H9 l9 r9 p9=>?_⟩;have h9:=h8.step l9;have B:=l8.trans l9;have a9:=B.oth _ _ a7 n7;have n9:=B.out a7 n7;have N:∀ {μx:Mp} {Hx:Hp},Lat h T μx Hx->LatU O H6 μx Hx:=λ{μx Hx} l=>by
         refine ⟨λn a e=>l.pre n a (u7.pre n a e),λa o e n1 n2=>?_,λa mm=>?_,λa mm=>?_⟩
         ·obtain ⟨q1,q2,q3⟩:=u7.out a o e n1 n2;exact l.oth a o q1 q2
         ·rcases l.new a mm with q | q
          ·exact u7.new a q
          ·by_cases n1:a∈O.pl
           ·exact .inl n1
           ·by_cases n2:a∈O.rs
            ·exfalso;obtain ⟨_,w,hw⟩:=r7.res a (by rw [h7.rs,<- h6.rs];exact n2);rw [hw] at q;cases q
            ·right
             cases e:H6 a with
             | none=>rfl
             | some o=>rw [(u7.out a o e n1 n2).1] at q;cases q
         ·exact u7.rsw a (by rw [<- l.rsv];exact mm)
        cases b2 with
        | false=>exact ⟨I,Ek _,μ9,S9,g,h9,N B,n9,a9,L.later B,r9,F.later B,rd7.later B,p9⟩
        | true=>
         refine kc ?_;rw [if_pos rfl] at p9;rw [jX] at p9;refine ⟨μ9,S9,_,(mj (L.later l8) rdx rd8).later l9,r9,(Post.at p9 h9).imp λyy S10 μ10 H10 l10 r10 Z v rv=>?_⟩;have P:=h9.step l10;have C:=B.trans l10;have a10:=l10.oth _ _ a9 n9;have n10:=l10.out a9 n9;by_cases hz:g.length<sizeLine
         ·rw [if_pos hz] at Z;have er:=P.rs;have Y:=N C;refine ⟨a10,by rw [<- F.length];exact hz,I,Ek _,μ10,S10,g++[yy],?_,?_,n10,b8,?_,M6 er a10 r10,M5 er ((F.later C).append (.cons rv .nil)),B7 er (rd7.later C),Z⟩
          ·refine ⟨⟨P.r.pre,λa o e n=>?_,P.r.new,P.r.rsw⟩,er⟩;rw [a8 (b9 e s)];exact P.r.oth a o e n
          ·refine ⟨Y.pre,λa o e n1 n2=>?_,Y.new,Y.rsw⟩;have:a≠c:=λq=>n2 (by rw [h6.rs,q];exact Ei ..);rw [a8 this];exact Y.oth a o e n1 n2
          ·have eo6:=L.later C;exact ⟨eo6.1,λj e he=>let ⟨w,q,r⟩:=eo6.2 j e he;⟨w,q,B7 er r⟩⟩
         ·rw [if_neg hz] at Z;exact Z.elim
section
variable {X:Cx} {cl:Nat->Addr} {xe:Addr->Hp->Prop} {elt iter iter2:Expr} {x y:Str} {px py pos:Pos} {ifs ifs2:List Expr} {scope:Scope} {N':List Str} {caps:List Nat} {fi fi1:Env->M (Src×Nat)} {t t1:Env->M Bool} {f:Env->M D}
theorem kj (T:CompText X.N X.env N' 2 caps scope) (o:X.calm=true) (q:N'.Nodup) (g:N'[0]?=some x) (c:N'[1]?=some y) (h:scope.names.lookup x=some .local) (e:scope.names.lookup y=some .local) (k:PI X (.Name x px) iter (tIt X.K cl xe fi))
  (r:∀ pins C a s H,PTL (b7 X pins N' scope C a s H) ifs (tBo X.K cl xe t)) (d:∀ pins C a s H,PI (b7 X pins N' scope C a s H) (.Name y py) iter2 (tIt X.K cl xe fi1)) (i:∀ pins C a s H,PTL (b7 X pins N' scope C a s H) ifs2 (tBo X.K cl xe t1))
  (m:∀ pins C a s H,PE (b7 X pins N' scope C a s H) elt (tD X.K cl xe f)) (j:n8 iter=true) (b:n8 iter2=true) :
  PE X (.ListComp elt [⟨.Name x px,iter,ifs,0⟩,⟨.Name y py,iter2,ifs2,0⟩] scope pos) (jD X.K cl xe (br caps fi t fi1 t1 f)):=
 PE.imp (oF T o q g c h e k r d i m (v6 j) (λ_=>v6 b)) λσ H Q ⟨μ,S,ρ,n,l,p⟩=>dQ n l p
end
end L3
namespace L2
open PySem PySem.Spec PyProof.Rows
section
variable {prog:Program} {w:World} {A:Around} {E:Value->Shared->Prop} {s:Shared}
theorem P7 {items} {x:Value} {Q:Value->Shared->Prop} (a:s.heap.IsTupleIter it l i)
  (h:s.heap.IsTuple l items) (e:items[i]?=some x)
  (g:∀ h',h'.IsTupleIter it l (i+1)->Heap.SameBut it s.heap h'->Q x { s with heap:=h' }) :
  wpAny (model prog w) A (Builtin.SmallTypes.nextOf (.ref it)) Q E s:=by
 obtain ⟨o,b,f,hd⟩:=id a;obtain ⟨j,c,_,k,d⟩:=h;refine Do (EY a.typeIs F.slot_tuple_iterator_next
  (EO F.slot_tuple_iterator_next a.typeIs F.entry_tuple_iterator_next ?_ (F.args_tuple_iterator_next_1 _)))
 show wpAny _ _ (field (.ref it) 0 >>= _) _ _ s;refine Do (FF b hd (x:=.ref l) rfl ?_);rw [if_neg (show ¬ ((Value.ref l==Value.none)=true) from Ec)];refine Do (FF b hd rfl ?_);refine Do (HL c d ?_);simp only [Fg,e];refine Do (Fu b hd (by simp) (Dp ⟨x,rfl,Dp (g _ ?_ (EX ..))⟩));exact ⟨_,EB _ b (Obj.isFreed_of_fields (Obj.data_mapFields hd _)),(Obj.cls_mapFields ..).trans f,by
  rw [Obj.data_mapFields hd];simp [rawInt]⟩
theorem T5 {items} {Q:Value->Shared->Prop} (f:A.handled=none)
  (a:s.heap.IsTupleIter it l i) (j:s.heap.IsTuple l items) (g:items[i]?=none)
  (h:∀ h' e,Heap.ExtBut it s.heap h'->(∃ o,h'.get? e=some o/\o.cls=.type "StopIteration")->E (.ref e) { s with heap:=h' }) :
  wpAny (model prog w) A (Builtin.SmallTypes.nextOf (.ref it)) Q E s:=by
 obtain ⟨o,c,k,hd⟩:=id a;obtain ⟨m,b,_,n,d⟩:=j;refine Do (EY a.typeIs F.slot_tuple_iterator_next
  (EO F.slot_tuple_iterator_next a.typeIs F.entry_tuple_iterator_next ?_ (F.args_tuple_iterator_next_1 _)))
 show wpAny _ _ (field (.ref it) 0 >>= _) _ _ s;refine Do (FF c hd (x:=.ref l) rfl ?_);rw [if_neg (show ¬ ((Value.ref l==Value.none)=true) from Ec)];refine Do (FF c hd rfl ?_);refine Do (HL b d ?_);simp only [Fg,g];refine Do (Ge (Do (Fu c hd (by simp) ?_)));refine Do ?_;refine Do (Ez ?_ (by size_fits));refine Do (Hk (by first | rfl | (simp;rfl)) ?_);refine Ez ?_ (by size_fits);refine Do (wpAny_handled ?_);first | rw [f] | rw [f]
 refine Do (Dp (wpAny_throw ?_));exact h _ _ (((EX ..).extBut.push _).push _) ⟨_,Du _ rfl,rfl⟩
end
theorem mZ {h h':Heap} {a:Addr} {items:Array Value} (x:h.IsTuple a items) (k:∀ o,h.get? a=some o->h'.get? a=some o):h'.IsTuple a items:=let ⟨o,b,r⟩:=x;⟨o,k o b,r⟩
theorem lq (k:A.handled=none) (it l:Addr) (c:l≠it) (items:Array Value) :
  Draws prog w A it [it,l] items.size (λi v=>items[i]?=some v) (λi h=>h.IsTupleIter it l i/\h.IsTuple l items) where
 live:=λ_ _ st=>let ⟨o,b,_⟩:=st.1;⟨o,b⟩
 frame:=λ_ _ _ st f=>⟨(let ⟨o,b,r⟩:=st.1;⟨o,f it (by simp) o b,r⟩),mZ st.2 λo e=>f l (by simp) o e⟩
 item:=λi s Q E d st g=>by
  refine P7 st.1 st.2 (x:=items[i]) (by simp [d]) λh' a hs'=>?_;exact g _ h' s.toks (by simp [d]) ⟨a,st.2.extBut hs'.extBut c⟩ hs'
 done:=λs Q E st j=>T5 k st.1 st.2 (by simp) j
theorem ei (l:Addr) (items:Array Value) (n:Nat) (b:Option Addr) (i:Array (Option Value)) :
  Meets (Builtin.«enumerate.__new__» ⟨[.type "enumerate",.ref l],[]⟩) (λ_ R s=>s.heap.get? l=some { cls:=.type "tuple",dict:=b,data:=.seq items n,slots:=i } /\
   R (.ok (.ret (.ref (s.heap.push { cls:=.type "tuple_iterator",data:=.fields #[.ref l,.int 0 0] }).objs.size)))
    { s with heap:=(s.heap.push { cls:=.type "tuple_iterator",data:=.fields #[.ref l,.int 0 0] }).push { cls:=.type "enumerate",data:=.fields #[.none,.bool false,.ref s.heap.objs.size,rawInt 0,.none,.none] } }):=
 .of_wp λprog w A R s h=>by
  obtain ⟨j,g,d,k,m⟩:=s;obtain ⟨a,h⟩:=h;have f:=sub_enumerate;have e:Heap.IsTuple (Shared.heap ⟨j,g,d,k,m⟩) l items:=⟨_,a,rfl,n,rfl⟩
  wp_walk using AutoSeq1.wpAny_loadPart' a
  refine wpAny_stack_any λst=>Dp ?_;split
  ·rename_i c _ _ _ _ _;cases (c==Value.type "enumerate")
   ·wp_walk using AutoSeq1.wpAny_loadPart' a,FC e
    exact ⟨_,rfl,h⟩
   ·wp_walk using AutoSeq1.wpAny_loadPart' a,FC e
    exact ⟨_,rfl,h⟩
  ·wp_walk using AutoSeq1.wpAny_loadPart' a,FC e
   exact ⟨_,rfl,h⟩
section
variable {prog:Program} {w:World} {A:Around} {E:Value->Shared->Prop} {s:Shared}
theorem gZ (i:s.heap.IsTuple l items)
  (h:∀ h',IsEnum h' (s.heap.objs.size+1) s.heap.objs.size 0 .none->h'.IsTupleIter s.heap.objs.size l 0->h'.objs.size=s.heap.objs.size+2 ->
   (∀ b o,s.heap.get? b=some o->h'.get? b=some o)->Q (.ref (s.heap.objs.size+1)) { s with heap:=h' }) :
  wpAny (model prog w) A (call (.type "enumerate") [.ref l]) Q E s:=by
 obtain ⟨⟨c,d,j,g⟩,k,a,n,hd⟩:=i
 replace a:c=.type "tuple":=a
 replace hd:j=.seq items n:=hd
 subst a hd;refine callType_new F.called_enumerate (by decide) (F.typeCall_enumerate_1 _) (F.newCall_enumerate_1 _) (λe=>F.args_object_init_2 e _) F.entry_enumerate_new
  (ei l items n d g) ⟨k,?_⟩
 have hz:(s.heap.push { cls:=.type "tuple_iterator",data:=.fields #[.ref l,.int 0 0] }).objs.size=s.heap.objs.size+1:=EL ..;rw [hz];have f:IsEnum ((s.heap.push { cls:=.type "tuple_iterator",data:=.fields #[.ref l,.int 0 0] }).push
   { cls:=.type "enumerate",data:=.fields #[.none,.bool false,.ref s.heap.objs.size,rawInt 0,.none,.none] }) (s.heap.objs.size+1) s.heap.objs.size 0 .none:=by
  have:=Du (s.heap.push { cls:=.type "tuple_iterator",data:=.fields #[.ref l,.int 0 0] })
   (o:={ cls:=.type "enumerate",data:=.fields #[.none,.bool false,.ref s.heap.objs.size,rawInt 0,.none,.none] }) rfl
  rw [hz] at this;exact this
 refine ⟨⟨_,f,rfl⟩,h _ f ⟨_,Dq _ (Du _ rfl),rfl,rfl⟩ (by rw [EL,hz]) λb o x=>Dq _ (Dq _ x)⟩
end
section
variable {X:Cx} {pins:List (Addr×Obj)} {σ:St} {H:Hp} {s:Shared} {h':Heap}
theorem Inv.turned2 {t':Nat} {e it:Addr} (I:Inv X pins σ H s) (k:∀ b o,b≠e->b≠it->s.heap.get? b=some o->h'.get? b=some o) (f:E1 X pins H e) (g:E1 X pins H it):Inv X pins σ H { s with heap:=h',toks:=t' }:=by
 obtain ⟨a0,a1,a2,a3,a4,a5⟩:=f;obtain ⟨b0,b1,b2,b3,b4,b5⟩:=g;have nit:∀ b u,H b=some u->b≠e/\b≠it:=λb u q=>⟨λz=>(by rw [z,a0] at q;cases q),λz=>(by rw [z,b0] at q;cases q)⟩;have kk:∀ b o,b∉[e,it]->s.heap.get? b=some o->h'.get? b=some o:=λb o hb q=>k b o (λz=>hb (by simp [z])) (λz=>hb (by simp [z])) q;refine I.step (g':=s.gens) (d':=s.drawn) (ch:=[e,it]) (λb hb=>?_) (λb o _ _ hc q _=>kk b o hc q) (λb o _ _ hc q _=>⟨o.slots,kk b o hc q⟩) (λ_ _ _ _ n=>n)
  (λb o hc q=>⟨o,kk b o hc q⟩) (λ_ _ q=>q) (λ_ _ _ q=>q) (λb ps q=>⟨#[],by rw [q];simp⟩) (λm hm=>?_) (λb u q=>?_) I.bare
 ·have z:b=e\/b=it:=by simpa using hb
  rcases z with rfl | rfl
  ·exact ⟨a3,a1,a4,a5⟩
  ·exact ⟨b3,b1,b4,b5⟩
 ·obtain ⟨o,es,ep,ho,r⟩:=hm;exact ⟨o,es,ep,k _ o (Ne.symm a1) (Ne.symm b1) ho,r⟩
 ·refine (I.hok b u q).stay (λc v hc r=>?_) (λ_ r=>r) λ_ _ r=>r;rcases hc with z | z
  ·rw [z] at r ⊢;exact k b v (nit b u q).1 (nit b u q).2 r
  ·exact k c v (nit c _ z).1 (nit c _ z).2 r
end
def K1 (a:Hp->List V->Prop):It:=
 ⟨λi H=>∃ xs x,a H xs/\xs[i]?=some x,λi H x H'=>∃ p y,x=.ref p/\H p=none/\H'=upd H p (.tup [.int (i:Int),y])/\∀ xs,a H xs->xs[i]?=some y,λi H=>∃ xs,a H xs/\xs.length=i⟩
section
variable {P:Program} {w:World} {K:PySem.W.Frag} {elts:List Expr} {x1:Nat} {tp:Pos}
theorem bU {σ:St} {H:Hp} {s:Shared} {E:Value->Shared->Prop} {e it:Addr} {G:List Addr} {n i:Nat} {A:Nat->Value->Prop} {m:Nat->Heap->Prop} {j:Value} {y:V} {J:It} {tn:Nat->Heap->Prop}
  (I:Inv X pins σ H s) (g:∀ b∈[e,it],E1 X pins H b) (D:Draws X.prog X.w X.A.in1 it G n A m) (B:IsEnum s.heap e it i j) (c:m i s.heap) (k:i<n) (v:e≠it) (f:e∉G)
  (R:∀ u,A i u->RelV y u) (S:∀ h',(∃ o,IsEnum h' e it ((i:Int)+1) o)->m (i+1) h'->tn (i+1) h') (M:∀ p,H p=none->J.yld i H (.ref p) (upd H p (.tup [.int (i:Int),y]))) :
  wpAny (model X.prog X.w) X.A (pyNext (.ref e)) (λr Z=>∃ u,r=some u /\
   wpAny (model X.prog X.w) X.A (letOwnedTupleGo (.Tuple elts x1 tp) (.ref e) u) (λ_ F=>∃ x H',Inv X pins σ H' F/\RelV x u/\J.yld i H x H'/\tn (i+1) F.heap/\∀ b∈[e,it],H' b=none) E Z) E s:=by
 refine wpAny_pyNext_enum_itemD D B c k v f λu h' d O T hs' Q hsz hk=>?_;have C:=Dv B;have w:it<s.heap.objs.size:=by obtain ⟨_,z⟩:=D.live _ _ c;exact Dv z
 refine ⟨_,rfl,wpAny_letOwnedTupleGo_enum T λh2 t a=>?_⟩;have fr:=I.hok.fresh (Dz _);have I1:Inv X pins σ (upd H s.heap.objs.size (.tup [.int (i:Int),y])) { s with heap:=s.heap.push { cls:=.type "tuple",data:=.seq #[.int i d,u] },toks:=d }:=
  I.laid (λb q z=>Dq _ z) (Dz _) ⟨by rw [Ew];show 2<=16777216;omega,[.int i d,u],.cons ⟨d,rfl⟩ (.cons (R u O) .nil),⟨_,Du _ rfl,rfl,_,rfl,rfl⟩⟩
 have K:∀ b,E1 X pins H b->b<s.heap.objs.size->E1 X pins (upd H s.heap.objs.size (.tup [.int (i:Int),y])) b:=λb ⟨c0,Y,W,c3,U,c5⟩ N=>⟨by rw [a8 (Dw N)];exact c0,Y,W,c3,U,c5⟩;have P:=I1.turned2 (t':=d+1) (λb o h L z=>by
  have:=Heap.get?_push_cases z;rcases this with ⟨rfl,rfl⟩ | z1
  ·exact (a.2 _ h).trans Q
  ·exact (a.2 b h).trans (hk b o h L z1)) (K e (g e (by simp)) C) (K it (g it (by simp)) w)
 refine ⟨.ref s.heap.objs.size,_,P,rfl,M _ fr,S _ ⟨_,t⟩ (D.frame _ _ _ hs' λb l o z=>(a.2 b λq=>f (q▸l)).trans z),λb l=>?_⟩;have z:b=e\/b=it:=by simpa using l
 rcases z with rfl | rfl
 ·rw [a8 (Dw C)];exact (g _ (by simp)).1
 ·rw [a8 (Dw w)];exact (g _ (by simp)).1
end
section
variable {P:Program} {w:World} {K:PySem.W.Frag} {elts:List Expr} {x1:Nat} {tp:Pos}
theorem bJ {h:Heap} {e it:Addr} {i:Int} {a:Value} (z:IsEnum h e it i a):∃ o,h.get? e=some o/\∀ v,o.data≠.cell v:=by grind
theorem hQ {Sq:Hp->List V->Prop} {i:Nat} {H:Hp} {p:Addr} {y:V} (h:H p=none) (k:∀ xs,Sq H xs->xs[i]?=some y):(K1 Sq).yld i H (.ref p) (upd H p (.tup [.int (i:Int),y])):=by
 show ∃ p' y',V.ref p=.ref p'/\H p'=none/\upd H p (.tup [.int (i:Int),y])=upd H p' (.tup [.int (i:Int),y'])/\∀ xs,Sq H xs->xs[i]?=some y';exact ⟨p,y,rfl,h,rfl,k⟩
theorem gD (a e it:Addr) (hne:e≠it):Turn P w K (.Tuple elts x1 tp) (K1 λH xs=>SqL K H a xs) [e,it] e (λi h=>(∃ old,IsEnum h e it ((i:Nat):Int) old)/\h.IsListIter it a i) where
 mem:=by simp
 obj:=λi h st b hb=>by
  have z:b=e\/b=it:=by simpa using hb
  rcases z with rfl | rfl
  ·obtain ⟨old,q⟩:=st.1;exact bJ q
  ·obtain ⟨o,q,c,d⟩:=st.2;exact ⟨o,q,λv z=>by rw [d] at z;cases z⟩
 keep:=λi h h' st k=>⟨(let ⟨old,q⟩:=st.1;⟨old,k e (by simp) _ q⟩),st.2.at λo q=>k it (by simp) o q⟩
 item:=by
  intro X hP hw hK hc i pins s σ H E I hf st hg;subst hP hw hK;obtain ⟨xs,x,hq,hx⟩:=hg;obtain ⟨its,rv,p,hz⟩:=I.list hq;obtain ⟨u,hu,ru⟩:=rv.get hx;obtain ⟨⟨old,he⟩,hit⟩:=st;have nit:a≠it:=λz=>by
   obtain ⟨o,q,c,_⟩:=hit;obtain ⟨o2,q2,c2,_⟩:=p.isList;rw [z,q] at q2;cases q2;rw [c] at c2;exact absurd c2 (by decide)
  have nea:e≠a:=λz=>by
   obtain ⟨o2,q2,c2,_⟩:=p.isList;rw [<- z,he] at q2;cases q2;exact absurd (show Value.type "enumerate" = Value.type "list" from c2) (by decide)
  have hlt:i<its.toArray.size:=by
   have:=(Eb.mp hu).1;simpa using this
  refine bU (y:=x) (J:=K1 λH xs=>SqL X.K H a xs) (tn:=λi h=>(∃ old,IsEnum h e it ((i:Nat):Int) old)/\h.IsListIter it a i) I hf (Draws.list (show X.A.in1.handled=none from I.ok.hd hc) it a nit its.toArray) he ⟨hit,p.isList⟩ hlt hne (by simp [hne,nea]) (λv hv=>?_) (λh' ho hs=>⟨?_,hs.1⟩) λq hq2=>hQ hq2 (λys hy=>by rw [I.list_inj hy hq];exact hx)
  ·have hv':its[i]?=some v:=by simpa using hv
   rw [hu] at hv';cases hv';exact ru
  ·obtain ⟨o,q⟩:=ho;exact ⟨o,by rw [show ((i+1:Nat):Int)=(i:Int)+1 from rfl];exact q⟩
 done:=by
  intro X hP hw hK hc i pins s σ H E I hf st hg;subst hP hw hK;obtain ⟨xs,hq,hx⟩:=hg;obtain ⟨its,rv,p,hz⟩:=I.list hq;obtain ⟨⟨old,he⟩,hit⟩:=st;have hl:=rv.length;have nit:a≠it:=λz=>by
   obtain ⟨o,q,c,_⟩:=hit;obtain ⟨o2,q2,c2,_⟩:=p.isList;rw [z,q] at q2;cases q2;rw [c] at c2;exact absurd c2 (by decide)
  have en:i=its.toArray.size:=by simp;omega
  obtain ⟨f0,f1,f2,f3,f4,f5⟩:=hf it (by simp);exact wpAny_pyNext_enum_endD (Draws.list (show X.A.in1.handled=none from I.ok.hd hc) it a nit its.toArray) he ⟨en▸hit,p.isList⟩ λh' eb=>⟨rfl,I.turned (t':=s.toks) (λb o hb q=>eb b o hb q) f0 f1 f3 f4 f5⟩
 self:=λ_ _ _ _ _ st h=>by
  obtain ⟨⟨old,he⟩,_⟩:=st;exact Hb he h
theorem gU (a e it:Addr) (hne:e≠it):Turn P w K (.Tuple elts x1 tp) (K1 λH xs=>SqT K H a xs) [e,it] e (λi h=>(∃ old,IsEnum h e it ((i:Nat):Int) old)/\h.IsTupleIter it a i) where
 mem:=by simp
 obj:=λi h st b hb=>by
  have z:b=e\/b=it:=by simpa using hb
  rcases z with rfl | rfl
  ·obtain ⟨old,q⟩:=st.1;exact bJ q
  ·obtain ⟨o,q,c,d⟩:=st.2;exact ⟨o,q,λv z=>by rw [d] at z;cases z⟩
 keep:=λi h h' st k=>⟨(let ⟨old,q⟩:=st.1;⟨old,k e (by simp) _ q⟩),st.2.at λo q=>k it (by simp) o q⟩
 item:=by
  intro X hP hw hK hc i pins s σ H E I hf st hg;subst hP hw hK;obtain ⟨xs,x,hq,hx⟩:=hg;obtain ⟨its,rv,p,hz⟩:=I.tuple hq;have pt:s.heap.IsTuple a its.toArray:=p;obtain ⟨u,hu,ru⟩:=rv.get hx;obtain ⟨⟨old,he⟩,hit⟩:=st;have nit:a≠it:=λz=>by
   obtain ⟨o,q,c,_⟩:=hit;obtain ⟨o2,q2,c2,_⟩:=pt;rw [z,q] at q2;cases q2;rw [c] at c2;exact absurd c2 (by decide)
  have nea:e≠a:=λz=>by
   obtain ⟨o2,q2,c2,_⟩:=pt;rw [<- z,he] at q2;cases q2;exact absurd (show Value.type "enumerate" = Value.type "tuple" from c2) (by decide)
  have hlt:i<its.toArray.size:=by
   have:=(Eb.mp hu).1;simpa using this
  refine bU (y:=x) (J:=K1 λH xs=>SqT X.K H a xs) (tn:=λi h=>(∃ old,IsEnum h e it ((i:Nat):Int) old)/\h.IsTupleIter it a i) I hf (lq (show X.A.in1.handled=none from I.ok.hd hc) it a nit its.toArray) he ⟨hit,pt⟩ hlt hne (by simp [hne,nea]) (λv hv=>?_) (λh' ho hs=>⟨?_,hs.1⟩) λq hq2=>hQ hq2 (λys hy=>by rw [I.tuple_inj hy hq];exact hx)
  ·have hv':its[i]?=some v:=by simpa using hv
   rw [hu] at hv';cases hv';exact ru
  ·obtain ⟨o,q⟩:=ho;exact ⟨o,by rw [show ((i+1:Nat):Int)=(i:Int)+1 from rfl];exact q⟩
 done:=by
  intro X hP hw hK hc i pins s σ H E I hf st hg;subst hP hw hK;obtain ⟨xs,hq,hx⟩:=hg;obtain ⟨its,rv,p,hz⟩:=I.tuple hq;have pt:s.heap.IsTuple a its.toArray:=p;obtain ⟨⟨old,he⟩,hit⟩:=st;have hl:=rv.length;have nit:a≠it:=λz=>by
   obtain ⟨o,q,c,_⟩:=hit;obtain ⟨o2,q2,c2,_⟩:=pt;rw [z,q] at q2;cases q2;rw [c] at c2;exact absurd c2 (by decide)
  have en:i=its.toArray.size:=by simp;omega
  obtain ⟨f0,f1,f2,f3,f4,f5⟩:=hf it (by simp);exact wpAny_pyNext_enum_endD (lq (show X.A.in1.handled=none from I.ok.hd hc) it a nit its.toArray) he ⟨en▸hit,pt⟩ λh' eb=>⟨rfl,I.turned (t':=s.toks) (λb o hb q=>eb b o hb q) f0 f1 f3 f4 f5⟩
 self:=λ_ _ _ _ _ st h=>by
  obtain ⟨⟨old,he⟩,_⟩:=st;exact Hb he h
end
section
variable {X:Cx} {elts:List Expr} {x1:Nat} {tp:Pos}
theorem kF:bootBuiltins "enumerate" = some (.type "enumerate"):=by decide +kernel
theorem rW (u:Gl X "enumerate") (x:X.mg "enumerate" = none) (w:PA X [l] ta) (hs:starEach [l] X.env=[(false,eval l X.env)]) :
  PI X (.Tuple elts x1 tp) (.Call (.Name "enumerate" p) [l] [] pos) (λσ H R=>ta σ H λvs f=>∃ a,vs=[.ref a]/\(((∃ xs,SqL X.K f a xs)/\R (K1 λH xs=>SqL X.K H a xs) f)\/((∃ xs,SqT X.K f a xs)/\R (K1 λH xs=>SqT X.K H a xs) f))):=by
 intro pins s σ H R I h;refine Call_ (w8 I u x kF (EN (thn (w pos pins s σ H _ I h) λus c ⟨vs,f,d,A,n⟩=>?_) hs rfl));obtain ⟨a,e,n⟩:=n;subst e;cases A with
 | cons r y=>
  cases y;cases r;have o:∀ h':Heap,h'.objs.size=c.heap.objs.size+2->∀ b∈[c.heap.objs.size+1,c.heap.objs.size],E1 X pins f b:=λh' _ b v=>by
   have z:b=c.heap.objs.size+1\/b=c.heap.objs.size:=by simpa using v
   rcases z with rfl | rfl
   ·exact d.fpOk (EU _) (d.hok.fresh (EU _))
   ·exact d.fpOk (Dz _) (d.hok.fresh (Dz _))
  rcases n with ⟨⟨xs,k⟩,q⟩ | ⟨⟨xs,k⟩,q⟩
  ·obtain ⟨m,t,p,hz⟩:=d.list k;refine call_enumerate_list p.isList λh' g j hsz i=>?_;exact Hb g ⟨_,[c.heap.objs.size+1,c.heap.objs.size],_,_,f,rfl,d.kept i,gD a _ _ (Ir _),⟨⟨_,g⟩,j⟩,o h' hsz,q⟩
  ·obtain ⟨m,t,p,hz⟩:=d.tuple k;refine gZ (p) λh' g j hsz i=>?_;exact Hb g ⟨_,[c.heap.objs.size+1,c.heap.objs.size],_,_,f,rfl,d.kept i,gU a _ _ (Ir _),⟨⟨_,g⟩,j⟩,o h' hsz,q⟩
end
end L2
namespace L3
open PySem PySem.Spec PyProof.Rows L2
def U3 (ds:List D):Src:=λi _=>match ds[i]? with
 | some d=>some (some (.tup [.int (i:Int),d]))
 | none=>if i=ds.length then some none else none
def bi (d:D):M (Src×Nat):=match d with
 | .tup ds=>ret (U3 ds,ds.length+1)
 | .lst ds=>ret (U3 ds,ds.length+1)
 | .scr ds=>ret (U3 ds,ds.length+1)
 | _=>bad
section
variable {K:PySem.W.Frag} {cl:Nat->Addr} {μ:Mp} {H:Hp}
theorem vW {ds:List D} (j:∀ μ2 a S2,LatU μ H μ2 a->Rep K cl μ2 S2 a->Sq a xs) (r:RDs K μ H ds xs):Yl K cl (K1 Sq) μ H (U3 ds):=λi μ2 a S2 l f=>by
 have b:=j μ2 a S2 l f;have h:=r.laterU l;show S4 K cl (K1 Sq) i μ2 a S2 (match ds[i]? with
  | some d=>some (some (.tup [.int (i:Int),d]))
  | none=>if i=ds.length then some none else none)
 cases e:ds[i]? with
 | none=>
  by_cases q:i=ds.length
  ·rw [if_pos q];exact ⟨xs,b,by rw [<- r.length];exact q.symm⟩
  ·rw [if_neg q];exact trivial
 | some d=>
  obtain ⟨v,c,k⟩:=h.get e;refine ⟨⟨xs,v,b,c⟩,λx m z=>?_⟩;obtain ⟨p,y,rfl,g,rfl,q⟩:=z;have:=q xs b;rw [c] at this;cases this;exact L6 f (.cons (.int _) (.cons k .nil)) g
theorem xG (h:TupAt K μ H a xs) (r:RDs K μ H ds xs):Yl K cl (K1 λH xs=>SqT K H a xs) μ H (U3 ds):=vW (λμ2 i S2 l j=>by
 rcases h with ⟨q,n1,n2⟩ | q
 ·rcases q with q | ⟨o,q⟩
  ·exact .inl (.inl (l.oth _ _ q n1 n2))
  ·exact .inl (.inr ⟨o,l.oth _ _ q n1 n2⟩)
 ·obtain ⟨o,b,n,f,g,c,d,e,_⟩:=q;exact .inr ⟨o,b,n,f,g,c,d,e⟩) r
theorem pL (h:LstAt μ H a xs\/ScrAt K μ H a xs) (r:RDs K μ H ds xs):Yl K cl (K1 λH xs=>SqL K H a xs) μ H (U3 ds):=vW (λμ2 c S2 l b=>by
 rcases h with ⟨q,n1,n2⟩ | ⟨q,n1,n2⟩ | q
 ·exact .inl (.inl (l.oth _ _ q n1 n2))
 ·rcases q with q | ⟨o,q⟩
  ·exact .inl (.inl (l.oth _ _ q n1 n2))
  ·exact .inl (.inr ⟨o,l.oth _ _ q n1 n2⟩)
 ·exact .inr q) r
end
section
variable {X:Cx} {cl:Nat->Addr} {xe:Addr->Hp->Prop} {elts:List Expr} {x1:Nat} {tp p pos:Pos}
theorem lw (hg:Gl X "enumerate") (hm:X.mg "enumerate" = none) (ha:PA X [a] (tDs X.K cl xe fs)) (hs:noStar a=true) :
  PI X (.Tuple elts x1 tp) (.Call (.Name "enumerate" p) [a] [] pos) (tIt X.K cl xe λρ=>bind (fs ρ) λds=>match ds with
   | [d]=>bi d
   | _=>bad):=
 PI.imp (rW hg hm ha (c9 hs)) λσ H R ⟨μ,S,ρ,eo,rp,P⟩=>⟨μ,S,ρ,eo,rp,P.bind.imp λds S1 μ1 H1 l1 r1 p1 vs rvs=>by
  cases rvs with
  | nil=>exact False.elim p1
  | cons h t=>
   cases t with
   | cons _ _=>exact False.elim p1
   | nil=>
    cases h with
    | tup h r=>exact ⟨_,rfl,.inr ⟨⟨_,h.sq⟩,p1.ret μ1 H1 (Lat.refl _ _) r1 _ (xG h r)⟩⟩
    | lst h r=>exact ⟨_,rfl,.inl ⟨⟨_,h.sq⟩,p1.ret μ1 H1 (Lat.refl _ _) r1 _ (pL (.inl h) r)⟩⟩
    | scr h r=>exact ⟨_,rfl,.inl ⟨⟨_,h.sq⟩,p1.ret μ1 H1 (Lat.refl _ _) r1 _ (pL (.inr h) r)⟩⟩
    | _=>exact False.elim p1⟩
end
end L3
namespace L2
open PySem PySem.Spec PyProof.Rows
section
variable {prog:Program} {w:World} {A:Around} {s:Shared} {R:Result->Shared->Prop}
theorem cQ {B b y:Expr} {ifs:List Expr} {p:Scope} {pos:Pos} {it C:Value} {a:PySem.Env} (I:Nat->Shared->Prop)
  (D:∀ n s,I n s->wpAny (model prog w) A (pyNext it) (λr f=>match r with
   | none=>R (.ok .next) f
   | some v=>wpAny (model prog w) A (letOwnedTupleGo b it v) (λ_ g=>wpAny (model prog w) A (assign b a v) (λ_ j=>
     wpAny (model prog w) A (forIn ifs true λc r=>if r=true then do let t <- isTrue c a (eval c a);pure (ForInStep.yield t) else pure (ForInStep.yield r)) (λt d=>
      if t=true then wpAny (model prog w) A (eval B a) (λx i=>
       wpAny (model prog w) A (call (.builtin "list.append") [C,x]) (λ_ l=>∃ m,m<n/\I m l) (notedBy (model prog w) A a λe s'=>R (.error e) s') i) (notedBy (model prog w) A a λe s'=>R (.error e) s') d
      else ∃ m,m<n/\I m d) (notedBy (model prog w) A a λe s'=>R (.error e) s') j) (notedBy (model prog w) A a λe s'=>R (.error e) s') g) (notedBy (model prog w) A a λe s'=>R (.error e) s') f) (notedBy (model prog w) A a λe s'=>R (.error e) s') s)
  (n:Nat) (h:I n s):codeAny (model prog w) A (.compLoop (.ListComp B [⟨b,y,ifs,0⟩] p pos) 0 it C a) R s:=by
 refine IC rfl I (λn s E=>?_) n h;refine IM ?_;rw [compTurn_list];refine Do (EZ (Do (Ef (D n s E) (λr f o=>?_) λ_ _ h'=>h')));cases r with
 | none=>exact Dp o
 | some v=>
  refine Do (Ef o (λ_ g h₀=>?_) λ_ _ h'=>h');refine Do (Ef h₀ (λ_ j u=>Do (Ef u (λt d k=>?_) λ_ _ h'=>h')) λ_ _ h'=>h');cases t with
  | false=>exact Dp ⟨rfl,k⟩
  | true=>
   exact Do (Do (Ef k (λx i q=>Do (Ef q (λ_ l z=>Dp (Dp ⟨rfl,z⟩)) λ_ _ h'=>h')) λ_ _ h'=>h'))
end
def lR (k:Nat) (caps:List Nat) (n:TI) (f:TG) (p:TT) (te:TE):TE:=λσ H Q=>n σ H λJ g=>∀ a,g a=none->∃ W:Nat->Nat->List V->Hp->Prop,(∃ m,W 0 m [] (upd g a (.lst []))) /\
 ∀ i m ys e,W i m ys e->e a=some (.lst ys)/\((J.stop i e/\Q (.ref a) e)\/(J.go i e/\∀ x l,J.yld i e x l->f x (List.replicate k none++i6 caps σ) l λd o=>∃ c:List (Option V),c.length=k/\d=c++i6 caps σ/\p d o λb h=>
  if b=true then te d h λy j=>j a=some (.lst ys)/\ys.length<sizeLine/\∃ m',m'<m/\W (i+1) m' (ys++[y]) (upd j a (.lst (ys++[y])))
  else ∃ m',m'<m/\W (i+1) m' ys h))
theorem oo {X:Cx} {elt iter tg:Expr} {k:Nat} {tgp:TG} {ifs:List Expr} {scope:Scope} {pos:Pos} {N':List Str} {caps:List Nat} {wi:TI} {tc:TT} {te:TE}
  (T:CompText X.N X.env N' k caps scope) (hc:X.calm=true) (hg:∀ pins C fp s H,PG (b7 X pins N' scope C fp s H) tg tgp) (hi:PI X tg iter wi)
  (ht:∀ pins C fp s H,PTL (b7 X pins N' scope C fp s H) ifs tc) (he:∀ pins C fp s H,PE (b7 X pins N' scope C fp s H) elt te)
  (hs:∀ x,foldedSetIterable iter X.env x=pure x:=by intro _;rfl):PE X (.ListComp elt [⟨tg,iter,ifs,0⟩] scope pos) (lR k caps wi tgp tc te):=by
 intro pins s σ H Q I h;have fr:∀ x∈scope.names,x.2=NameKind.free->∃ c,X.env.cells.lookup x.1=some c:=λx hx hk=>I.ok.has x.1 (T.free x hx hk).2;rw [IS];refine FE (use:=none) rfl hs (u4 fr) T.kind T.loc ?_;refine thn (hi pins s σ H _ I h) λv s1 h1=>thn h1 λitv s2 h2=>?_;obtain ⟨it,fp,tn,J,H2,rfl,I2,Tn,st2,f2,h2⟩:=h2;obtain ⟨W,⟨m0,w0⟩,turn⟩:=h2 s2.heap.objs.size (I2.hok.fresh (Dz _));have hlt:∀ b∈fp,b<s2.heap.objs.size:=λb hb=>let ⟨o,e,_⟩:=Tn.obj _ _ st2 b hb;Dv e
 refine Ez (FY T.cell (by intro y hy;simp at hy) (λh₁ hns₁ hsb₁=>?_) T.kind);dsimp only at hns₁ hsb₁ ⊢;have hC:(s2.heap.push { cls:=.type "list",dict:=none,data:=.seq ([]:List Value).toArray }).objs.size=s2.heap.objs.size+1:=EL ..;rw [hC] at hns₁ hsb₁;have old:∀ b o,s2.heap.get? b=some o->h₁.get? b=some o:=λb o e=>hsb₁.extBut b o (Dw (El (Dv e))) (Dq _ (Dq _ e));have hacc:h₁.get? s2.heap.objs.size=some { cls:=.type "list",data:=.seq #[] }:=hsb₁.extBut _ _ (Dw (Ek _)) (Dq _ (Du _ rfl));have hst₁:tn 0 h₁:=Tn.keep _ _ _ st2 λb _ o e=>old b o e;have I3:=B9 (t:=s2.toks+([]:List (Str×Value)).length) T I2 f2 hlt hns₁ old hacc;have stat:∀ {H':Hp},(∀ b∈fp,H' b=none)->∀ b∈fp,E1 (b7 X pins N' scope (s2.heap.objs.size+1) fp s2 H2) [] H' b:=λhn b hb=>by
  refine ⟨hn b hb,(I3.ok.exf b hb).1,I3.ok.exfs b hb,.inl hb,(I3.ok.exf b hb).2,λp hp=>?_⟩;have hp':p∈X.pn++pins:=by
   have:p∈(X.pn++pins)++[]:=hp;rwa [EH] at this
  exact (f2 b hb).2.2.2.2.2 p hp'
 have loop:∀ s3:Shared,s3={ s2 with heap:=h₁,toks:=s2.toks+([]:List (Str×Value)).length } ->
   codeAny (model X.prog X.w) X.A (.compLoop (.ListComp elt [⟨tg,iter,ifs,0⟩] scope pos) 0 (.ref it) (.ref s2.heap.objs.size) (compEnvC scope (E2 X.env.cells scope.names) (s2.heap.objs.size+1) X.env))
    (compPost (model X.prog X.w) X.A X.xe none (EP X pins σ Q) (.ref s2.heap.objs.size) (s2.heap.objs.size+1)) s3:=by
  rintro s3 rfl;refine cQ (λn s'=>∃ i ys H',Inv (b7 X pins N' scope (s2.heap.objs.size+1) fp s2 H2) [] (List.replicate k none++i6 caps σ) H' s'/\tn i s'.heap/\(∀ b∈fp,H' b=none)/\W i n ys H') ?_ m0
   ⟨0,[],_,I3,hst₁,λb hb=>by rw [a8 (Dw (hlt b hb))];exact (f2 b hb).1,w0⟩
  rintro n s4 ⟨i,ys,H4,I4,st4,fr4,w4⟩;obtain ⟨hacc4,turn4⟩:=turn i n ys H4 w4;refine c7 ?_;rcases turn4 with ⟨stop,q⟩ | ⟨go,step⟩
  ·refine thn (Tn.done (b7 X pins N' scope (s2.heap.objs.size+1) fp s2 H2) rfl rfl rfl hc i [] s4 _ H4 (λ_ _=>False) I4 (stat fr4) st4 stop) λr s5 ⟨hr,I5⟩=>?_;subst hr;obtain ⟨m5,hn5,_⟩:=id I5.loc;refine ⟨m5,hn5,λh' hs'=>?_⟩;refine ⟨.ref s2.heap.objs.size,H4,?_,rfl,q⟩;refine I2.call' (ch:=fp) (s':={ s5 with heap:=h' }) I5.os (Un.sameBut I5.base hs' (EU _)) (I5.hok.sameBut I5.free hs') I5.bare λb hb=>?_;have:=f2 b hb;exact ⟨this.2.2.2.1,this.2.1,this.2.2.2.2.1,this.2.2.2.2.2⟩
  ·refine thn (Tn.item (b7 X pins N' scope (s2.heap.objs.size+1) fp s2 H2) rfl rfl rfl hc i [] s4 _ H4 (λ_ _=>False) I4 (stat fr4) st4 go) λr s5 ⟨u,hr,h5⟩=>?_;subst hr;dsimp only;refine c7 (thn h5 λ_ s6 ⟨xv,H6,I6,r6,y6,st6,fr6⟩=>?_);have I6':=I6.pinned (stat fr6) (Tn.obj _ _ st6);refine c7 (thn (hg pins _ fp s2 H2 _ s6 _ H6 xv u _ I6' r6 (step xv _ y6)) λ_ s7 ⟨σ7,H7,I7,vals,hv,e7,q7⟩=>?_);subst e7;have back:∀ {σ8:St} {H8:Hp} {s8:Shared},Inv (b7 X pins N' scope (s2.heap.objs.size+1) fp s2 H2) ([]++f9 fp s6.heap) σ8 H8 s8->tn (i+1) s8.heap/\∀ b∈fp,H8 b=none:=λ{σ8 H8 s8} I8=>by
    refine ⟨Tn.keep _ _ _ st6 λb hb o e=>(I8.pin (b,o) (Dx _ (Dx _ (e8 hb e)))).1,λb hb=>?_⟩;obtain ⟨o,e,d⟩:=Tn.obj _ _ st6 b hb;exact (I8.pin (b,o) (Dx _ (Dx _ (e8 hb e)))).2.1
   refine c7 (thn (ht pins _ fp s2 H2 _ s7 _ _ _ I7 q7) λb s8 ⟨H8,I8,q8⟩=>?_);have wk:∀ {H9:Hp} {s9:Shared},Inv (b7 X pins N' scope (s2.heap.objs.size+1) fp s2 H2) ([]++f9 fp s6.heap) (vals++i6 caps σ) H9 s9->Inv (b7 X pins N' scope (s2.heap.objs.size+1) fp s2 H2) [] (List.replicate k none++i6 caps σ) H9 s9:=λ{H9 s9} I9=>
    I9.unpinned.weak (by simp [hv]) λj v e=>by
     by_cases hj:j<k
     ·rw [EC (by simpa using hj),GV,if_pos hj] at e;cases e
     ·rw [ED (by simpa using hj)] at e;rw [ED (by omega),hv];simpa using e
   cases b with
   | false=>
    obtain ⟨m',hm,w'⟩:=q8;exact ⟨m',hm,i+1,ys,H8,wk I8,(back I8).1,(back I8).2,w'⟩
   | true=>
    refine c7 (thn (he pins _ fp s2 H2 _ s8 _ H8 _ I8 q8) λz s9 ⟨y,H9,I9,r9,hacc9,hl9,m',hm,w'⟩=>?_);refine c7 (thn (B5 (X:=b7 X pins N' scope (s2.heap.objs.size+1) fp s2 H2) _ s9 _ H9 (.ref s2.heap.objs.size) [y] (.ref s2.heap.objs.size) [z] (λ_ H'=>H'=upd H9 s2.heap.objs.size (.lst (ys++[y]))) I9 rfl (.cons r9 .nil) ⟨_,ys,y,rfl,rfl,hacc9,hl9,rfl⟩) λ_ s10 ⟨_,H10,I10,_,e10⟩=>?_);subst e10;exact ⟨m',hm,i+1,ys++[y],_,wk I10,(back I10).1,(back I10).2,w'⟩
 have fin:=FM (loop _ rfl) (Tn.self _ 0 _ _ _ hst₁ (loop _ rfl));rw [<- hC] at fin;exact fin
end L2
namespace L3
open PySem PySem.Spec PyProof.Rows L2
def mk2 (c:Env) (d:D):Env:=match d with
 | .tup [a,b]=>some a :: some b :: c
 | _=>[]
def sj (t:Env->M Bool) (ρ:Env):M Bool:=match ρ with
 | []=>bad
 | o :: ρ=>t (o :: ρ)
def cM (caps:List Nat) (b:Env->M (Src×Nat)) (t:Env->M Bool) (f:Env->M D) (ρ:Env):M (List D):=bind (b ρ) λa=>v7 a.1 (sj t) f (mk2 (d4 caps ρ)) a.2 0 []
theorem Z8 {K:PySem.W.Frag} {μ:Mp} {H:Hp} {ρ:Env} {σ:L2.St} {d:D} {x:V} (eo:EnvOk K μ H ρ σ) (r:RD K μ H d x):EnvOk K μ H (some d :: ρ) (some x :: σ):=by
 refine ⟨by simp [eo.1],λi e he=>?_⟩;cases i with
 | zero=>simp at he;subst he;exact ⟨x,rfl,r⟩
 | succ j=>exact eo.2 j e he
def BZ:TGs:=nX (aw 0) (nX (aw 1) gNil)
theorem eE {K:PySem.W.Frag} {cl:Nat->Addr} {xe:Addr->Hp->Prop} {caps:List Nat} {fi:Env->M (Src×Nat)} {t:Env->M Bool} {f:Env->M D} {σ:L2.St} {H:Hp} {μ:Mp} {S:Sto} {ρ:Env} {Q:VK} (eo:EnvOk K μ H ρ σ) (rp:Rep K cl μ S H)
  (p:Post K cl xe μ H (cM caps fi t f ρ S) λds _ μ' H'=>∀ c ys,LstAt μ' H' c ys->RDs K μ' H' ds ys->Q (.ref c) H'):lR 2 caps (tIt K cl xe fi) (xb K 2 BZ) (tBo K cl xe t) (tD K cl xe f) σ H Q:=by
 refine ⟨μ,S,ρ,eo,rp,p.bind.imp λsm S1 u H1 l1 L p1 J yl c g=>?_⟩;obtain ⟨src,m0⟩:=sm;have W:=L.notrs g;refine ⟨λi m ys s=>∃ μ2 S2 es,HLat u H1 c μ2 s/\c∉μ2.pl/\s c=some (.lst ys)/\EnvOk K μ2 s ρ σ/\Rep K cl μ2 S2 s/\RDs K μ2 s es ys/\Post K cl xe u H1 (v7 src (sj t) f (mk2 (d4 caps ρ)) m i es S2) (λds _ μ' H'=>∀ c ys,LstAt μ' H' c ys->RDs K μ' H' ds ys->Q (.ref c) H'),⟨m0,u.hold c,S1,[],?_,L.notin g,b8,T1 L g (eo.later l1),T0 L g,.nil,p1⟩,?_⟩
 ·refine ⟨⟨λ_ _ e=>e,λa o e _=>by rw [a8 (b9 e g)];exact e,λa m=>.inl m,λa m=>?_⟩,rfl⟩;rcases Ea.mp (m) with rfl | m
  ·exact .inr g
  ·exact .inl m
 rintro i m ys s ⟨μ2,S2,es,P,A,G,z,r2,h,k⟩;refine ⟨G,?_⟩;cases m with
 | zero=>exact k.elim
 | succ m=>
  have y:S4 K cl J i μ2 s S2 (src i S2):=yl i μ2 s S2 P.r.u r2;simp only [v7] at k;cases e1:src i S2 with
  | none=>rw [e1] at k;exact k.elim
  | some o=>
   rw [e1] at k y;cases o with
   | none=>
    refine .inl ⟨y,k μ2.free s (P.lat (Lat.refl _ _)) (J8 r2) c ys ⟨G,A,?_⟩ (P0 h)⟩;show c∉μ2.rs.tail;rw [P.rs];exact W
   | some d=>
    obtain ⟨y1,y2⟩:=y;refine .inr ⟨y1,λx H3 hy=>?_⟩;obtain ⟨l3,r3,R⟩:=y2 x H3 hy;have h3:=P.step l3;cases R with
    | tup ht rs=>
     cases rs with
     | nil=>exact False.elim k
     | cons ra rs=>
      cases rs with
      | nil=>exact False.elim k
      | cons rb rs=>
       cases rs with
       | cons _ _=>exact False.elim k
       | nil=>
        rename_i da va db V;refine ⟨_,_,rfl,ht.sq,rfl,va,[V],rfl,V,[],rfl,rfl,[some va,some V],rfl,rfl,?_⟩;have ev:=Z8 (Q5 (caps:=caps) (z.later l3) rb) ra;refine ⟨μ2,S2,some da :: some db :: d4 caps ρ,ev,r3,(Post.at k h3).imp λb S5 B H5 U r5 Z=>?_⟩;have h5:=h3.step U;have l:=l3.trans U;have T:=l.oth _ _ G A;have X:=l.out G A;cases b with
        | false=>exact ⟨m,Ek _,B,S5,es,h5,X,T,z.later l,r5,h.later l,Z⟩
        | true=>
         refine kc ?_;rw [if_pos rfl] at Z;refine ⟨B,S5,some da :: some db :: d4 caps ρ,ev.later U,r5,(Post.at Z h5).imp λyv S6 Y H6 N r6 I v rv=>?_⟩;have C:=h5.step N;have E:=l.trans N;have a6:=N.oth _ _ T X;have n6:=N.out T X;by_cases hz:es.length<sizeLine
         ·rw [if_pos hz] at I;have O:=C.rs;refine ⟨a6,by rw [<- h.length];exact hz,m,Ek _,Y,S6,es++[yv],?_,n6,b8,?_,M6 O a6 r6,M5 O ((h.later E).append (.cons rv .nil)),I⟩
          ·refine ⟨⟨C.r.pre,λa o e n=>?_,C.r.new,C.r.rsw⟩,O⟩;rw [a8 (b9 e g)];exact C.r.oth a o e n
          ·have F:=z.later E;exact ⟨F.1,λj e he=>let ⟨w,q,r⟩:=F.2 j e he;⟨w,q,B7 O r⟩⟩
         ·rw [if_neg hz] at I;exact I.elim
    | _=>exact False.elim k
section
variable {X:Cx} {cl:Nat->Addr} {xe:Addr->Hp->Prop} {elt iter:Expr} {x y:Str} {px py tp pos:Pos} {kk:Nat} {ifs:List Expr} {scope:Scope} {N':List Str} {caps:List Nat} {fi:Env->M (Src×Nat)} {t:Env->M Bool} {f:Env->M D}
theorem lI (T:CompText X.N X.env N' 2 caps scope) (h:X.calm=true) (g:N'.Nodup) (d:N'[0]?=some x) (e:N'[1]?=some y) (c:scope.names.lookup x=some .local) (a:scope.names.lookup y=some .local) (j:PI X (.Tuple [.Name x px,.Name y py] kk tp) iter (tIt X.K cl xe fi))
  (n:∀ pins C b s H,PTL (b7 X pins N' scope C b s H) ifs (tBo X.K cl xe t)) (m:∀ pins C b s H,PE (b7 X pins N' scope C b s H) elt (tD X.K cl xe f)) (i:n8 iter=true) :
  PE X (.ListComp elt [⟨.Tuple [.Name x px,.Name y py] kk tp,iter,ifs,0⟩] scope pos) (jD X.K cl xe (cM caps fi t f)):=
 PE.imp (oo T h (λpins C b s H=>fU (X:=b7 X pins N' scope C b s H) h (G5 (w9 g d (.inl (En c)) (.inr (En c))) (G5 (w9 g e (.inl (En a)) (.inr (En a))) cD))) j n m (v6 i)) λσ H Q ⟨μ,S,ρ,l,k,p⟩=>eE l k p
end
def o7 (d:D):M Bool:=match d with
 | .non=>ret false
 | .bl b=>ret b
 | .int i=>ret (i != 0)
 | .str x=>if x.length<=sizeLine then ret ((x.length:Int) != 0) else bad
 | .ref n=>λS=>match S[n]? with
  | some (.lst ds)=>.ok (!ds.isEmpty) S
  | some (.dct a)=>.ok (!a.isEmpty) S
  | _=>.bad
 | d=>bind (y4 d) λds=>ret (!ds.isEmpty)
section
variable {K:PySem.W.Frag} {cl:Nat->Addr} {xe:Addr->Hp->Prop} {μ:Mp} {H:Hp} {S:Sto}
theorem M2 (r:RDs K μ H ds vs):ds.isEmpty=vs.isEmpty:=by cases r <;> rfl
theorem X7 (rd:RD K μ H d v) (rp:Rep K cl μ S H) (p:Post K cl xe μ H (o7 d S) G):∃ k,jh K v H k/\G k S μ H:=by
 cases rd with
 | non=>exact ⟨_,rfl,p μ H (Lat.refl _ _) rp⟩
 | bl b=>exact ⟨_,rfl,p μ H (Lat.refl _ _) rp⟩
 | int i=>exact ⟨_,rfl,p μ H (Lat.refl _ _) rp⟩
 | str x=>
  obtain ⟨hl,p⟩:=Post.guard p;exact ⟨_,⟨hl,rfl⟩,p μ H (Lat.refl _ _) rp⟩
 | tup h r=>exact ⟨_,.inr (.inl ⟨_,h.sq,by rw [<- M2 r]⟩),p μ H (Lat.refl _ _) rp⟩
 | lst h r=>exact ⟨_,.inl ⟨_,h.sq,by rw [<- M2 r]⟩,p μ H (Lat.refl _ _) rp⟩
 | scr h r=>exact ⟨_,.inl ⟨_,h.sq,by rw [<- M2 r]⟩,p μ H (Lat.refl _ _) rp⟩
 | ref h=>
  rename_i n a;simp only [o7] at p;cases q1:S[n]? with
  | none=>rw [q1] at p;exact p.elim
  | some o=>
   rw [q1] at p;cases o with
   | lst ds=>
    obtain ⟨xs,h1,h2⟩:=rp.ats n _ a q1 h;exact ⟨_,.inl ⟨xs,.inl (.inl h1),by rw [<- M2 h2]⟩,p μ H (Lat.refl _ _) rp⟩
   | dct kvs=>
    obtain ⟨ks,h1,h2⟩:=rp.ats n _ a q1 h;refine ⟨_,.inr (.inr ⟨ks,h1,rfl⟩),?_⟩;have e:kvs.isEmpty=ks.isEmpty:=by cases h2 <;> rfl
    rw [<- e];exact p μ H (Lat.refl _ _) rp
   | exc _ _=>exact p.elim
end
section
variable {X:Cx} {cl:Nat->Addr} {xe:Addr->Hp->Prop} {a b e:Expr} {es rest:List Expr} {pos:Pos} {f g:Env->M D}
theorem mD (h:PE X a (tD X.K cl xe f)) (i:E3 a=true):PT X a (tBo X.K cl xe λρ=>bind (f ρ) o7):=PT.imp (mI h (test_of i)) λσ H Q ⟨μ,S,ρ,b,k,p⟩=>
 ⟨μ,S,ρ,b,k,p.bind.imp λd S1 j l m e g v c=>X7 c e g⟩
theorem wv (h:PE X a (tD X.K cl xe f)):PE X (.UnaryOp .Not a pos) (tD X.K cl xe λρ=>bind (f ρ) λd=>bind (o7 d) λk=>ret (.bl (!k))):=by
 intro pins s σ H Q I ⟨μ,S,ρ,j,t,p⟩;refine UnaryOp_ (thn (h pins s σ H (λv b=>∃ k,jh X.K v b k/\Q (.bl (!k)) b) I ⟨μ,S,ρ,j,t,p.bind.imp λd S1 e b B i r v m=>let ⟨k,g,q⟩:=X7 m i r.bind;⟨k,g,q e b (Lat.refl _ _) i _ (.bl _)⟩⟩) λv z ⟨x,b,y,l,k,g,q⟩=>?_);exact not_of (thn (bq pins z σ b x v (λo H'=>o=k/\H'=b) y l ⟨k,g,rfl,rfl⟩) λc C ⟨A,w,u,n⟩=>by
  subst u n;exact ⟨.bl (!c),A,w,rfl,q⟩)
theorem pE (h:PE X a (tD X.K cl xe f)):PE X (.BoolOp op [a] pos) (tD X.K cl xe f):=xC h
theorem wH (h:PE X a (tD X.K cl xe f)) (k:PE X (.BoolOp .And (b :: rest) pos) (tD X.K cl xe g)):PE X (.BoolOp .And (a :: b :: rest) pos) (tD X.K cl xe λρ=>bind (f ρ) λd=>bind (o7 d) λq=>if q=true then g ρ else ret d):=by
 intro pins s σ H Q I ⟨μ,S,ρ,m,A,p⟩;refine BoolOp_and (thn (h pins s σ H (λv e=>∃ c,jh X.K v e c/\if c=true then tD X.K cl xe g σ e Q else Q v e) I ⟨μ,S,ρ,m,A,p.bind.imp λd S1 i e F j w v n=>?_⟩) λv z ⟨x,e,E,t,c,l,q⟩=>?_)
 ·obtain ⟨c,l,q⟩:=X7 n j w.bind;refine ⟨c,l,?_⟩;cases c with
  | true=>exact ⟨i,S1,ρ,m.later F,j,q⟩
  | false=>exact q i e (Lat.refl _ _) j _ n
 ·refine thn (bq pins z σ e x v (λB H'=>B=c/\H'=e) E t ⟨c,l,rfl,rfl⟩) λC D ⟨r,o,y,u⟩=>?_;subst y u;cases C with
  | true=>exact k pins D σ r Q o q
  | false=>exact ⟨x,r,o,t,q⟩
theorem zd (h:PE X a (tD X.K cl xe f)) (k:PE X (.BoolOp .Or (b :: rest) pos) (tD X.K cl xe g)):PE X (.BoolOp .Or (a :: b :: rest) pos) (tD X.K cl xe λρ=>bind (f ρ) λd=>bind (o7 d) λq=>if q=true then ret d else g ρ):=by
 intro pins s σ H Q I ⟨μ,S,ρ,m,A,p⟩;refine BoolOp_or (thn (h pins s σ H (λv e=>∃ c,jh X.K v e c/\if c=true then Q v e else tD X.K cl xe g σ e Q) I ⟨μ,S,ρ,m,A,p.bind.imp λd S1 i e F j w v n=>?_⟩) λv z ⟨x,e,E,t,c,l,q⟩=>?_)
 ·obtain ⟨c,l,q⟩:=X7 n j w.bind;refine ⟨c,l,?_⟩;cases c with
  | true=>exact q i e (Lat.refl _ _) j _ n
  | false=>exact ⟨i,S1,ρ,m.later F,j,q⟩
 ·refine thn (bq pins z σ e x v (λB H'=>B=c/\H'=e) E t ⟨c,l,rfl,rfl⟩) λC D ⟨r,o,y,u⟩=>?_;subst y u;cases C with
  | true=>exact ⟨x,r,o,t,q⟩
  | false=>exact k pins D σ r Q o q
def tPt (K:PySem.W.Frag) (cl:Nat->Addr) (xe:Addr->Hp->Prop) (a:Env->M (Option Int)):TO:=λσ H Q=>∃ μ S ρ,EnvOk K μ H ρ σ/\Rep K cl μ S H/\Post K cl xe μ H (a ρ S) λo _ _ H'=>Q o H'
def kR (d:D):M (Option Int):=match d with
 | .int i=>ret (some i)
 | _=>bad
theorem PO.imp {e:Option Expr} {t t':TO} (h:PO X e t) (k:∀ σ H Q,t' σ H Q->t σ H Q):PO X e t':=λpins s σ H Q I q=>h pins s σ H Q I (k σ H Q q)
theorem sI:PO X none (tPt X.K cl xe λ_=>ret none):=PO.imp uD λσ H Q ⟨μ,S,ρ,b,a,p⟩=>p μ H (Lat.refl _ _) a
theorem qT (h:PE X e (tD X.K cl xe f)):PO X (some e) (tPt X.K cl xe λρ=>bind (f ρ) kR):=PO.imp (tN h) λσ H Q ⟨μ,S,ρ,eo,rp,p⟩=>
 ⟨μ,S,ρ,eo,rp,p.bind.imp λd S1 μ1 H1 l1 r1 p1 v rv=>by
  cases rv with
  | int i=>exact ⟨i,rfl,p1 μ1 H1 (Lat.refl _ _) r1⟩
  | _=>exact False.elim p1⟩
theorem M9 {s:Shared} {t e:Addr} {items:Array Value} {k i:Value} {lo c:Option Int} {Q:Value->Shared->Prop} (a:IsTup s.heap t items) (hs:s.heap.IsSliceOf e k i .none) (pl:IsPart k lo) (l:IsPart i c)
  (j:HT.sIx items.size 0 lo=0/\HT.sIx items.size items.size c=items.size) (h:Q (.ref t) s):wpAny (model prog w) A (getItem (.ref t) (.ref e)) Q E s:=by
 obtain ⟨m,g,d,hds⟩:=id hs;have f:s.TypeIs (.ref e) "slice":=⟨m,g,d⟩;unfold getItem;try with_reducible refine Ep ?_
 first | refine Do (Dp ?_) | skip
 refine Do (wpAny_sequenceKey a.typeIs (by decide) ?_);refine Do (EY a.typeIs Fz
  (EO Fz a.typeIs entry_tuple_getitem ?_ (args_tuple_getitem _ _)))
 show wpAny _ _ (Builtin.Tuple.tupleItemsOf (.ref t) >>= _) _ _ s;refine Do (Ig a ?_);refine Do (GD f ?_);rw [if_pos (by decide)];refine Do (HT.sliceApplied_gen hs pl l ?_);have b:(((HT.sIx items.size 0 lo:Nat):Int)==0&&(1:Int)==1&&(HT.sIx items.size items.size c-HT.sIx items.size 0 lo)==items.size)=true:=by
  rw [j.1,j.2];simp
 show wpAny _ _ (if (((HT.sIx items.size 0 lo:Nat):Int)==0&&(1:Int)==1&&(HT.sIx items.size items.size c-HT.sIx items.size 0 lo)==items.size)=true then _ else _) _ _ s;rw [if_pos b];refine Do ?_;refine Do (GD a.typeIs (Dp ?_));rw [if_pos (by decide)];refine Do (Ge ?_);exact Dp ⟨_,rfl,Dp h⟩
theorem sS:SlR X (λx lo e H Q=>∃ a xs,x=.ref a/\SqT X.K H a xs/\(HT.sIx xs.length 0 lo=0/\HT.sIx xs.length xs.length e=xs.length)/\Q (.ref a) H):=by
 intro pins s σ H x v m k lo e l Q I f hs pl j h;obtain ⟨a,xs,rfl,g,i,q⟩:=h;cases f;obtain ⟨c,r,d,hz⟩:=I.tuple g;have b:c.toArray.size=xs.length:=by rw [Dy];exact r.length.symm
 exact ⟨"tuple",_,PyProof.Rows.slot_tuple_getitem.lookup,d.typeIs,M9 d hs pl j (by rw [b];exact i) ⟨.ref a,H,I,rfl,q⟩⟩
theorem CO:SlR X (λx lo hi H Q=>∃ μ S d,RD X.K μ H d x/\Rep X.K cl μ S H/\Post X.K cl xe μ H (slD d lo hi S) λr _ μ' H'=>∀ v,RD X.K μ' H' r v->Q v H'):=by
 intro pins s σ H x v vl vu lo hi sl Q I rx hs pl pu ⟨μ,S,d,rd,rp,p⟩;have sq:∀ {a:Addr} {xs:List V} {ds:List D},SqL X.K H a xs->RDs X.K μ H ds xs->x=.ref a->(∀ μ' H',Lat μ H μ' H'->Rep X.K cl μ' S H'->∀ w,RD X.K μ' H' (.lst (R4 ds lo hi)) w->Q w H') ->
   ∃ T id,typeLookup (.type T) "__getitem__" = pure (some (.builtin id))/\s.TypeIs v T/\wpAny (model X.prog X.w) X.A (getItem v (.ref sl)) (EP X pins σ Q) X.xe s:=λ{a xs ds} hq r2 hv q=>by
  subst hv;refine uG pins s σ H _ v vl vu lo hi sl Q I rx hs pl pu ⟨a,xs,rfl,hq,λz hz=>?_⟩;obtain ⟨l,rp2,rd2⟩:=A1 rp (oj r2 lo hi) hz;exact q μ _ l rp2 _ rd2
 cases rd with
 | tup h r=>
  rename_i a xs ds;by_cases hw:HT.sIx xs.length 0 lo=0/\HT.sIx xs.length xs.length hi=xs.length
  ·refine sS pins s σ H _ v vl vu lo hi sl Q I rx hs pl pu ⟨a,xs,rfl,h.sq,hw,?_⟩;have e:R4 ds lo hi=ds:=by
    unfold R4;rw [r.length,hw.1,hw.2,HM,Nat.sub_zero];exact Gn (by rw [r.length];exact Dz _)
   exact p μ H (Lat.refl _ _) rp _ (by rw [e];exact .tup h r)
  ·refine yV pins s σ H _ v vl vu lo hi sl Q I rx hs pl pu ⟨a,xs,rfl,h.sq,hw,λz hz=>?_⟩;obtain ⟨l,rp2,rd2⟩:=L6 rp (oj r lo hi) hz;exact p μ _ l rp2 _ rd2
 | lst h r=>exact sq h.sq r rfl p
 | scr h r=>exact sq h.sq r rfl p
 | ref h=>
  rename_i n a0;have p2:=p;obtain ⟨a,xs,ds,e1,h1,h2,e2⟩:=u8 (.ref h) rp p2.bind;exact sq (.inl (.inl h1)) h2 e1 (p2.ok_bind e2)
 | _=>exact False.elim p
theorem An {lo k:Option Expr} {c:Pos} {j m:Env->M (Option Int)} (h:PE X e (tD X.K cl xe f)) (t:PO X lo (tPt X.K cl xe j)) (B:PO X k (tPt X.K cl xe m)) :
  PE X (.Subscript e (.Slice lo k none c) pos) (tD X.K cl xe λρ=>bind (f ρ) λd=>bind (j ρ) λl=>bind (m ρ) λu=>slD d l u):=PE.imp (nU CO h t B) λσ H Q ⟨μ,S,ρ,a,s,p⟩=>
 ⟨μ,S,ρ,a,s,p.bind.imp λd S1 g C n o q v x=>⟨g,S1,ρ,a.later n,o,q.bind.imp λl S2 μ2 E i A c=>⟨μ2,S2,ρ,(a.later n).later i,A,c.bind.imp λu z b D y r w=>⟨b,z,d,(x.later i).later y,r,w⟩⟩⟩⟩
end
def O5 (x k v:D):M D:=match x with
 | .ref n=>λS=>match S[n]? with
  | some (.lst ds)=>match k with
   | .int i=>match ixN ds.length i with
    | some j=>.ok .non (S.set n (.lst (ds.set j v)))
    | none=>.bad
   | _=>.bad
  | some (.dct a)=>match bZ k with
   | some b=>if a.length<sizeLine then .ok .non (S.set n (.dct (xH a b v))) else .bad
   | none=>.bad
  | _=>.bad
 | _=>bad
theorem iZ {K:PySem.W.Frag} {μ:Mp} {H:Hp} {k:Key}:∀ {a:List (Key×D)} {c:List (Key×V)},KvsAt K μ H a c->(a.any λb=>decide (b.1=k))=c.any λb=>decide (b.1=k)
 | _,_,.nil=>rfl
 | _,_,.cons ⟨d,e⟩ t=>by simp only [GP,d,iZ t]
theorem iA {K:PySem.W.Frag} {μ:Mp} {H:Hp} {k:Key} {d:D} {v:V} (r:RD K μ H d v):∀ {kvs:List (Key×D)} {ks:List (Key×V)},KvsAt K μ H kvs ks->KvsAt K μ H (kvs.map λkv=>if kv.1=k then (kv.1,d) else kv) (ks.map λkv=>if kv.1=k then (kv.1,v) else kv)
 | _,_,.nil=>.nil
 | _,_,.cons (a:=a) (b:=b) ⟨h1,h2⟩ t=>by
  simp only [EG];refine .cons ?_ (iA r t);by_cases hk:b.1=k
  ·rw [if_pos hk,if_pos (h1.trans hk)];exact ⟨h1,r⟩
  ·rw [if_neg hk,if_neg (by rw [h1];exact hk)];exact ⟨h1,h2⟩
theorem Paired.app:∀ {xs a:List α} {ys b:List β},Paired P xs ys->Paired P a b->Paired P (xs++a) (ys++b)
 | _,_,_,_,.nil,s=>s
 | _,_,_,_,.cons r t,s=>.cons r (Paired.app t s)
theorem tQ {K:PySem.W.Frag} {μ:Mp} {H:Hp} {k:Key} {d:D} {v:V} {a:List (Key×D)} {b:List (Key×V)} (h:KvsAt K μ H a b) (r:RD K μ H d v):KvsAt K μ H (xH a k d) (E6 b k v):=by
 unfold xH E6;rw [iZ h];split
 ·exact iA r h
 ·exact Paired.app h (.cons ⟨rfl,r⟩ .nil)
theorem KvsAt.later {K:PySem.W.Frag} {μ μ':Mp} {H H':Hp} {a:List (Key×D)} {b:List (Key×V)} (h:KvsAt K μ H a b) (l:Lat μ H μ' H'):KvsAt K μ' H' a b:=Paired.mono (λ_ _ ⟨z,w⟩=>⟨z,w.later l⟩) h
section
variable {X:Cx} {cl:Nat->Addr} {xe:Addr->Hp->Prop} {a b e:Expr} {es rest:List Expr} {pos:Pos} {f g k:Env->M D}
theorem Bk (hu:X.A.units+1<cLine):wQ X (λo i v H Q=>∃ μ S x y z,RD X.K μ H x o/\RD X.K μ H y i/\RD X.K μ H z v/\Rep X.K cl μ S H/\Post X.K cl xe μ H (O5 x y z S) λ_ _ _ H'=>Q H'):=by
 intro pins s σ H o i v ov iv u Q I ro ri rv ⟨μ,S,x,y,z,rx,ry,rz,rp,p⟩;cases rx with
 | ref h=>
  rename_i n a;have m:=ET h;simp only [O5] at p;cases q1:S[n]? with
  | none=>rw [q1] at p;exact p.elim
  | some ob=>
   rw [q1] at p;cases ob with
   | lst ds=>
    obtain ⟨xs,h1,h2⟩:=rp.ats n _ a q1 h;cases ry with
    | int j=>
     simp only at p;cases q2:ixN ds.length j with
     | none=>rw [q2] at p;exact p.elim
     | some t=>
      rw [q2] at p;refine mG pins s σ H _ _ v ov iv u Q I ro ri rv ⟨a,xs,j,t,rfl,rfl,h1,by rw [<- h2.length];exact q2,?_⟩;exact p μ _ (Lat.wrote m) (rp.wrote h ⟨_,b8,(h2.set rz t).later (Lat.wrote m)⟩)
    | _=>exact False.elim p
   | dct kvs=>
    obtain ⟨ks,h1,h2⟩:=rp.ats n _ a q1 h;cases q2:bZ y with
    | none=>rw [q2] at p;exact p.elim
    | some key=>
     rw [q2] at p;by_cases hl:kvs.length<sizeLine
     ·simp only [if_pos hl] at p;have hy:=fD ry q2;subst hy;cases ro;have hl2:ks.length<sizeLine:=by rw [<- Paired.length h2];exact hl
      refine jw hu I (DPut.k h1 hl2) ri rv λs' I'=>⟨_,I',?_⟩;exact p μ _ (Lat.wrote m) (rp.wrote h ⟨_,b8,(tQ h2 rz).later (Lat.wrote m)⟩)
     ·simp only [if_neg hl] at p;exact p.elim
   | exc _ _=>exact p.elim
 | _=>exact False.elim p
theorem lF (h:E9 b=true):∀ v,assign (.Subscript a b p2) env v=(do
   let c <- holding [v] (eval a env)
   let d <- holding [v,c] (eval b env)
   standAt p2
   holding [v,c,d] (setItem c d v)
   release [v,c,d] []):=by
 intro v;cases b <;> first | rfl | (exact absurd h (by simp [E9]))
theorem lM (o:X.A.units+1<cLine) (L:PE X e (tD X.K cl xe f)) (J:PE X a (tD X.K cl xe g)) (I:PE X b (tD X.K cl xe k)) (s:m7 e=true) (u:E9 b=true) :
  PS X (.Assign [.Subscript a b n] e pos) (sD X.K cl xe λρ=>bind (f ρ) λv=>bind (g ρ) λx=>bind (k ρ) λy=>bind (O5 x y v) λ_=>ret (.nx ρ)):=
 PS.imp (cK L (xA J I (Bk o) (lF u)) (by unfold swapsWithSole;exact A4 s) rfl rfl) λD σ H ⟨μ,S,ρ,c,z,p⟩=>
  ⟨μ,S,ρ,c,z,p.bind.imp λv S1 j P m r t vv F=>⟨j,S1,ρ,c.later m,r,t.bind.imp λx S2 μ2 T d N n R K=>⟨μ2,S2,ρ,(c.later m).later d,N,n.bind.imp λy M i Q l w E O q=>
   ⟨i,M,x,y,v,K.later l,q,(F.later d).later l,w,E.bind.imp λ_ U h B G C A=>A.ret h B (Lat.refl _ _) C σ ((((c.later m).later d).later l).later G)⟩⟩⟩⟩
def kL (x:D) (ds:List D):M D:=match x,ds with
 | .ref n,[d]=>λS=>match S[n]? with
  | some (.lst es)=>if es.length<sizeLine then .ok .non (S.set n (.lst (es++[d]))) else .bad
  | _=>.bad
 | _,_=>bad
def D1 (es:List Expr):Bool:=decide (es.length<30)
theorem gY (b:es.all noStar=true) (a:D1 es=true):((backTo cpos (starEach es X.env)).all (λx=>!x.1)&&(backToKw cpos (keywordEach [] X.env)).all (λx=>x.1.isSome)&&decide (es.length+([]:List Keyword).length+(if ([]:List Keyword).isEmpty then 0 else 1)<30))=true:=by
 rw [aM b];simpa [keywordEach,backToKw] using Fi a
theorem kT (ho:PE X a (tD X.K cl xe f)) (ha:PA X (e :: es) (tDs X.K cl xe fs)) (hb:y0 a=true) (hs:(e :: es).all noStar=true) (hf:D1 (e :: es)=true) (hl:(apos.endLine==cpos.line)=true) :
  PE X (.Call (.Attribute a "append" apos) (e :: es) [] cpos) (tD X.K cl xe λρ=>bind (f ρ) λx=>bind (lstOf x) λ_=>bind (fs ρ) λds=>kL x ds):=by
 have hs2:=hs;rw [Fb,Dt] at hs2;refine PE.imp (vK Gj PySem.F.slot_list_append PySem.F.type_list_append B5 ho ha (Z1 hb) (gY hs hf) hl (c9 hs2.1) (j4 hs2.2)) λσ H Q ⟨μ,S,ρ,eo,rp,p⟩=>?_;refine ⟨μ,S,ρ,eo,rp,p.bind.imp λx S1 μ1 H1 l1 r1 p1 xv rx=>?_⟩;obtain ⟨a0,xs0,ds0,e0,h0,r0,q0⟩:=u8 rx r1 p1.bind;have p1:=p1.ok_bind q0;subst e0;refine ⟨.inl ⟨rfl,_,.inl (.inl h0)⟩,μ1,S1,ρ,eo.later l1,r1,p1.bind.imp λds S2 μ2 H2 l2 r2 p2 vs rvs=>?_⟩;have rx2:=rx.later l2;clear p1;cases rx2 with
 | ref h=>
  rename_i n
  match ds,rvs with
  | [],_=>exact False.elim p2
  | _ :: _ :: _,_=>exact False.elim p2
  | [d],rvs=>
   obtain ⟨v,rfl,rv⟩:=fZ rvs;simp only [kL] at p2;cases q1:S2[n]? with
   | none=>rw [q1] at p2;exact p2.elim
   | some o=>
    rw [q1] at p2;cases o with
    | lst es=>
     obtain ⟨xs,h1,h2⟩:=r2.ats n _ _ q1 h;by_cases hl:es.length<sizeLine
     ·simp only [if_pos hl] at p2;have m:=ET h;refine ⟨_,xs,v,rfl,rfl,h1,by rw [<- h2.length];exact hl,?_⟩;exact p2 μ2 _ (Lat.wrote m) (r2.wrote h ⟨_,b8,(h2.append (.cons rv .nil)).later (Lat.wrote m)⟩) _ .non
     ·simp only [if_neg hl] at p2;exact p2.elim
    | dct _=>exact p2.elim
    | exc _ _=>exact p2.elim
 | _=>exact False.elim p2
end
section
variable {K:PySem.W.Frag} {cl:Nat->Addr} {xe:Addr->Hp->Prop} {μ:Mp} {H:Hp} {S:Sto} {β:Type}
theorem bind_assoc {α γ:Type} (m:M α) (k:α->M β) (j:β->M γ):bind (bind m k) j=bind m λa=>bind (k a) j:=by
 funext S;unfold bind;cases m S <;> rfl
theorem i7 (a:α) (k:α->M β):bind (ret a) k=k a:=rfl
end
def Q0 (S:Sto) (d:D):Bool:=match i5 64 S d with
 | some p=>decide (Shows p)&&decide (p.shown.length<=4000)&&(match d with
  | .str x=>decide (x.length<=4000)
  | _=>true)
 | none=>false
def K2 (c:Nat) (fs:List Str) (ds:List D):M D:=λS=>if ds.length=fs.length/\ds.all (Q0 S)=true then .ok (.ref S.length) (S++[.exc c (fs.zip ds)]) else .bad
def lU (c:Nat) (ds:List D):M D:=λS=>match ds with
 | [_]=>.ok (.ref S.length) (S++[.exc c []])
 | _=>.bad
theorem gB {K:PySem.W.Frag} {cl:Nat->Addr} {μ:Mp} {H:Hp} {S:Sto} {d:D} {v:V} (rp:Rep K cl μ S H) (r:RD K μ H d v) (h:Q0 S d=true):∃ p,Hn.Fmt K H v p:=by
 unfold Q0 at h;cases e:i5 64 S d with
 | none=>rw [e] at h;cases h
 | some p=>
  rw [e] at h;simp only [Dt,Eh] at h;refine ⟨p,v3 rp 64 e r,h.1.1,h.1.2,λx ex=>?_⟩;subst ex;cases r with
  | str _=>exact Fi h.2
def BJ (K:PySem.W.Frag) (H:Hp) (v:V):Prop:=∃ x C d,v=.ref x/\XC K C/\H x=some (N6 x C d)
def tDf (K:PySem.W.Frag) (cl:Nat->Addr) (xe:Addr->Hp->Prop) (f:Env->M D):TE:=λσ H Q=>∃ μ S ρ,EnvOk K μ H ρ σ/\Rep K cl μ S H/\Post K cl xe μ H (f ρ S) λd _ μ' H'=>∀ v,RD K μ' H' d v->BJ K H' v->Q v H'
theorem PE.unf {e:Expr} {f:Env->M D} (h:PE X e (tDf X.K cl xe f)):PE X e (tD X.K cl xe f):=PE.imp h λσ H Q ⟨μ,S,ρ,g,b,P⟩=>⟨μ,S,ρ,g,b,P.imp λd S1 a k l j c v i _=>c v i⟩
section
variable {X:Cx} {cl:Nat->Addr} {xe:Addr->Hp->Prop} {e:Expr} {es:List Expr} {pos:Pos} {fs:Env->M (List D)}
theorem iq {K:PySem.W.Frag} {μ:Mp} {H H':Hp} {S:Sto} {c:Nat} {x:Addr} {gs:List (Str×V)} {ds:List (Str×D)} (b:Rep K cl μ S H) (f:H x=none) (M:XC K (cl c)) (g:Hn.Got (upd H x (N6 x (cl c) none)) x (cl c) gs H') (r:∀ {μ':Mp} {H':Hp},Lat μ H μ' H'->gH K μ' H' ds gs) :
  Lat μ H (μ.push x) H'/\Rep K cl (μ.push x) (S++[.exc c ds]) H'/\RD K (μ.push x) H' (.ref S.length) (.ref x):=by
 obtain ⟨d,hd,h,n,j,m⟩:=g;rw [a8 h] at hd;have k:∀ a u,H a=some u->H' a=some u:=λa u e=>by
  have i:=b9 e f;have o:=b9 e hd;rw [m a i o,a8 i];exact e
 have l:=Lat.pushed (μ:=μ) f k;refine ⟨l,b.pushed f k ⟨M,gs,r l,none,.inr ⟨d,h,λz=>?_,n,j⟩⟩,.ref ?_⟩
 ·rcases FG.mp (z) with z | z
  ·exact b.notin hd z
  ·grind
 ·show (μ.pl++[x])[S.length]?=some x;rw [<- b.len];simp
theorem pj {k:Nat} {f:Addr} {fd:FuncData} {ps:List Str} {E:XK} {CX:CXT} {nm g:Str} {p:Pos} {c:Nat} (M:XC X.K (cl c)) (na:y9 X.K (cl c) g) (hi:PySem.W.findIn X.K (.ref (cl c)) "__init__" = some (some (.ref f))) (hf:PySem.W.isFn X.K (.ref f)=true) (F:FnOk X.prog X.w X.K X.mg X.base CX k f fd ps (Hn.sp1 X.K g)) (hr:Room CX.q (k+1) X.A) (hg:Gl X nm) (hm:X.mg nm=some (.ref (cl c))) (hb:Binds X.K fd ps []) (hx:A8 CX X E)
  (ha:PA X (e :: es) (tDs X.K cl xe fs)) (hdb:(nm==("__debug__" : Str))=false) (hs:(e :: es).all noStar=true):PE X (.Call (.Name nm p) (e :: es) [] pos) (tDf X.K cl xe λρ=>bind (fs ρ) (K2 c [g])):=by
 rw [Fb,Dt] at hs;refine PE.imp (Z4 M hi hf F hr hg hm hb hx ha hdb (c9 hs.1) (j4 hs.2)) λσ H Q ⟨μ,S,ρ,eo,rp,P⟩=>?_;refine ⟨μ,S,ρ,eo,rp,P.bind.imp λds S1 μ1 H1 l1 r1 p1 vs rvs=>?_⟩;unfold K2 at p1;by_cases hc:ds.length=[g].length/\ds.all (Q0 S1)=true
 ·rw [if_pos hc] at p1
  match ds,hc,rvs,p1 with
  | [d],hc,rvs,p1=>
   obtain ⟨v,rfl,rv⟩:=fZ rvs;obtain ⟨q,ft⟩:=gB r1 rv (by simpa using hc.2);refine ⟨by show 1<=1000;decide,λx hx=>⟨x,v,cl c,q,rfl,M,na,b8,ft.laid hx,λH' got=>⟨rfl,?_⟩⟩⟩;obtain ⟨l2,r2,rd2⟩:=iq (c:=c) (ds:=[(g,d)]) r1 hx M got λl=>.cons ⟨rfl,rv.later l⟩ .nil;obtain ⟨d0,_,_,g1,_⟩:=id got;exact p1 _ _ l2 r2 _ rd2 ⟨x,cl c,_,rfl,M,g1⟩
  | [],hc,_,_=>exact absurd hc.1 (by simp)
  | _ :: _ :: _,hc,_,_=>exact absurd hc.1 (by simp)
 ·rw [if_neg hc] at p1;exact p1.elim
theorem nW {k:Nat} {f:Addr} {fd:FuncData} {ps:List Str} {E:XK} {CX:CXT} {nm g g2:Str} {p:Pos} {c:Nat} (M:XC X.K (cl c)) (na:y9 X.K (cl c) g) (nb:y9 X.K (cl c) g2) (hi:PySem.W.findIn X.K (.ref (cl c)) "__init__" = some (some (.ref f))) (hf:PySem.W.isFn X.K (.ref f)=true) (F:FnOk X.prog X.w X.K X.mg X.base CX k f fd ps (Hn.sp2 X.K g g2)) (hr:Room CX.q (k+1) X.A) (hg:Gl X nm) (hm:X.mg nm=some (.ref (cl c))) (hb:Binds X.K fd ps []) (hx:A8 CX X E)
  (ha:PA X (e :: es) (tDs X.K cl xe fs)) (hdb:(nm==("__debug__" : Str))=false) (hs:(e :: es).all noStar=true):PE X (.Call (.Name nm p) (e :: es) [] pos) (tDf X.K cl xe λρ=>bind (fs ρ) (K2 c [g,g2])):=by
 rw [Fb,Dt] at hs;refine PE.imp (Z4 M hi hf F hr hg hm hb hx ha hdb (c9 hs.1) (j4 hs.2)) λσ H Q ⟨μ,S,ρ,eo,rp,P⟩=>?_;refine ⟨μ,S,ρ,eo,rp,P.bind.imp λds S1 μ1 H1 l1 r1 p1 vs rvs=>?_⟩;unfold K2 at p1;by_cases hc:ds.length=[g,g2].length/\ds.all (Q0 S1)=true
 ·rw [if_pos hc] at p1
  match ds,hc,rvs,p1 with
  | [d,d2],hc,rvs,p1=>
   cases rvs with
   | cons rv t=>
    obtain ⟨v2,rfl,rv2⟩:=fZ t;rename_i v;have hc2:Q0 S1 d=true/\Q0 S1 d2=true:=by simpa using hc.2
    obtain ⟨q,ft⟩:=gB r1 rv hc2.1;obtain ⟨q2,ft2⟩:=gB r1 rv2 hc2.2;refine ⟨by show 2<=1000;decide,λx hx=>⟨x,v,v2,cl c,q,q2,rfl,M,na,nb,b8,ft.laid hx,ft2.laid hx,λH' got=>⟨rfl,?_⟩⟩⟩;obtain ⟨l2,r2,rd2⟩:=iq (c:=c) (ds:=[(g,d),(g2,d2)]) r1 hx M got λl=>.cons ⟨rfl,rv.later l⟩ (.cons ⟨rfl,rv2.later l⟩ .nil);obtain ⟨d0,_,_,g1,_⟩:=id got;exact p1 _ _ l2 r2 _ rd2 ⟨x,cl c,_,rfl,M,g1⟩
  | [],hc,_,_=>exact absurd hc.1 (by simp)
  | [_],hc,_,_=>exact absurd hc.1 (by simp)
  | _ :: _ :: _ :: _,hc,_,_=>exact absurd hc.1 (by simp)
 ·rw [if_neg hc] at p1;exact p1.elim
theorem pX {f:Addr} {fd:FuncData} {ps:List Str} {E:XK} {CX:CXT} {j:Str} {p:Pos} {c:Nat} (M:XC X.K (cl c)) (B:PySem.W.findIn X.K (.ref (cl c)) "__init__" = some (some (.ref f))) (A:PySem.W.isFn X.K (.ref f)=true) (F:FnOk X.prog X.w X.K X.mg X.base CX k f fd ps (Hn.spHE X.K)) (y:Room CX.q (k+1) X.A) (w:Gl X j) (s:X.mg j=some (.ref (cl c))) (t:Binds X.K fd ps []) (i:A8 CX X E)
  (r:PA X (e :: es) (tDs X.K cl xe fs)) (m:(j==("__debug__" : Str))=false) (hs:(e :: es).all noStar=true):PE X (.Call (.Name j p) (e :: es) [] pos) (tDf X.K cl xe λρ=>bind (fs ρ) (lU c)):=by
 rw [Fb,Dt] at hs;refine PE.imp (Z4 M B A F y w s t i r m (c9 hs.1) (j4 hs.2)) λσ H Q ⟨μ,S,ρ,z,q,P⟩=>?_;refine ⟨μ,S,ρ,z,q,P.bind.imp λds S1 h o D n b vs g=>?_⟩
 match ds,g,b with
 | [d],g,b=>
  obtain ⟨v,rfl,C⟩:=fZ g;refine ⟨by show 1<=1000;decide,λx i=>⟨x,v,cl c,none,rfl,M,b8,rfl,?_⟩⟩;have k:∀ a u,o a=some u->upd o x (N6 x (cl c) none) a=some u:=λa u e=>by rw [a8 (b9 e i)];exact e
  have l:=Lat.pushed (μ:=h) i k;refine b _ _ l (n.pushed i k ⟨M,[],.nil,none,.inl ⟨rfl,b8⟩⟩) _ (.ref ?_) ⟨x,cl c,_,rfl,M,b8⟩;show (h.pl++[x])[S1.length]?=some x;rw [<- n.len];simp
 | [],_,b=>exact b.elim
 | _ :: _ :: _,_,b=>exact b.elim
def dM (g:Str) (d:D):M D:=match d with
 | .ref n=>λS=>match S[n]? with
  | some (.exc _ fs)=>match fs.lookup g with
   | some v=>.ok v S
   | none=>.bad
  | _=>.bad
 | _=>bad
theorem bH {K:PySem.W.Frag} {μ:Mp} {H:Hp} {g:Str} {d:D}:∀ {fs:List (Str×D)} {gs:List (Str×V)},gH K μ H fs gs->fs.lookup g=some d->∃ v,gs.lookup g=some v/\RD K μ H d v
 | _,_,.nil,e=>by cases e
 | _,_,.cons (a:=a) (b:=b) ⟨c,h2⟩ t,e=>by
  obtain ⟨h,k⟩:=a;obtain ⟨i,j⟩:=b;have c:=c;subst c;rw [Gh] at e ⊢;cases f:g==h with
  | true=>grind
  | false=>rw [f] at e;exact bH t e
theorem wy (hn:∀ c,XC X.K (cl c)->y9 X.K (cl c) g) (h:PE X e (tD X.K cl xe f)) (hb:y0 e=true):PE X (.Attribute e g pos) (tD X.K cl xe λρ=>bind (f ρ) (dM g)):=PE.imp (sM h (Z1 hb)) λσ H Q ⟨μ,S,ρ,eo,rp,p⟩=>
 ⟨μ,S,ρ,eo,rp,p.bind.imp λd S1 μ1 H1 l1 r1 p1 v rv=>by
  cases rv with
  | ref h=>
   rename_i n a;simp only [dM] at p1;cases q1:S1[n]? with
   | none=>rw [q1] at p1;exact p1.elim
   | some o=>
    rw [q1] at p1;cases o with
    | exc c fs=>
     simp only at p1;obtain ⟨xc,gs,r,fr,h2⟩:=r1.ats n _ a q1 h;cases q2:fs.lookup g with
     | none=>rw [q2] at p1;exact p1.elim
     | some w=>
      rw [q2] at p1;obtain ⟨v,e1,r3⟩:=bH r q2;rcases h2 with ⟨z,e⟩ | ⟨d,n1,n2,e,e2⟩
      ·subst z;cases e1
      ·exact ⟨fr,a,cl c,d,gs,v,rfl,xc,hn c xc,e,e2,e1,p1 μ1 H1 (Lat.refl _ _) r1 _ r3⟩
    | lst _=>exact p1.elim
    | dct _=>exact p1.elim
  | _=>exact False.elim p1⟩
end
def tys:List String:=["NoneType","bool","int","str","tuple","list","dict"]
def subT (t T:String):Bool:=t==T||(t == "bool" && T == "int")
theorem tJ (K:PySem.W.Frag):∀ t∈tys,∀ T∈tys,PySem.W.kitOne K (.type t) (.type T)=some (subT t T):=by
 intro t a T b;simp only [tys,Ea,Fo,Hm] at a b;rcases a with rfl | rfl | rfl | rfl | rfl | rfl | rfl <;> rcases b with rfl | rfl | rfl | rfl | rfl | rfl | rfl <;> kernel_rfl
def tyD (S:Sto) (d:D):Option String:=match d with
 | .non=>some "NoneType"
 | .bl _=>some "bool"
 | .int _=>some "int"
 | .str _=>some "str"
 | .tup _=>some "tuple"
 | .lst _=>some "list"
 | .scr _=>some "list"
 | .ref n=>match S[n]? with
  | some (.lst _)=>some "list"
  | some (.dct _)=>some "dict"
  | _=>none
def U4 (T:String) (sx:Nat->Bool) (d:D):M D:=λS=>match tyD S d with
 | some t=>.ok (.bl (subT t T)) S
 | none=>match d with
  | .ref n=>match S[n]? with
   | some (.exc c _)=>.ok (.bl (sx c)) S
   | _=>.bad
  | _=>.bad
def B0 (sx:Nat->Bool) (d:D):M D:=λS=>match d with
 | .ref n=>match S[n]? with
  | some (.exc c _)=>.ok (.bl (sx c)) S
  | _=>.bad
 | _=>.bad
section
variable {X:Cx} {cl:Nat->Addr} {xe:Addr->Hp->Prop} {a:Expr} {pos p q:Pos} {f:Env->M D}
theorem iD {sx:Nat->Bool} (j:BG T=some c0) (g:∀ c,XC X.K (cl c)->PySem.W.kitOne X.K (.ref (cl c)) c0=some (sx c)) {pins:List (Addr×Obj)} {s:Shared} {σ:L2.St} {H:Hp} {us:List Value} {Q:VK} {μ:Mp} {S:Sto} {n:Nat} {b:Addr} {c:Nat} {fs:List (Str×D)} (I:L2.Inv X pins σ H s) (r:Vals [.ref b,T] us)
  (l:Rep X.K cl μ S H) (e:S[n]?=some (.exc c fs)) (h:μ.pl[n]?=some b) (q:Q (.bl (sx c)) H):wpAny (model X.prog X.w) X.A (call (.builtin "isinstance") us) (EP X pins σ Q) X.xe s:=by
 obtain ⟨a,gs,p,i,k⟩:=l.ats n _ b e h;rcases k with ⟨z,f⟩ | ⟨d,o,t,f,m⟩
 ·exact bY pins s σ H _ us Q I r ⟨i,b,cl c,none,T,c0,sx c,rfl,a,f,λ_ z=>(nomatch z),j,g c a,q⟩
 ·exact bY pins s σ H _ us Q I r ⟨i,b,cl c,some d,T,c0,sx c,rfl,a,f,λd' z=>by cases z;exact ⟨gs,m⟩,j,g c a,q⟩
theorem lE (hT:T∈tys) {pins:List (Addr×Obj)} {s:Shared} {σ:L2.St} {H:Hp} {us:List Value} {Q:VK} {μ:Mp} {S:Sto} {d:D} {v:V} {t:String} (I:L2.Inv X pins σ H s) (r:Vals [v,.ty T] us) (rd:RD X.K μ H d v) (rp:Rep X.K cl μ S H) (e:tyD S d=some t)
  (q:Q (.bl (subT t T)) H):wpAny (model X.prog X.w) X.A (call (.builtin "isinstance") us) (EP X pins σ Q) X.xe s:=by
 obtain ⟨u,u2,rfl,ru,ru2⟩:=jU r;cases (ru2);have ht:t∈tys:=by
  cases d <;> simp only [tyD] at e <;> first
   | (cases e;decide)
   | (split at e <;> first | (cases e;decide) | cases e)
 have hk:=tJ X.K t ht T hT;have fin:∀ tk,EP X pins σ Q (.bool (subT t T)) { s with toks:=tk }:=λtk=>⟨.bl _,H,I.tok _,rfl,q⟩;have tupT:∀ {b:Addr} {xs:List V},SqT X.K H b xs->u=.ref b->t = "tuple"->wpAny (model X.prog X.w) X.A (call (.builtin "isinstance") [u,.type T]) (EP X pins σ Q) X.xe s:=λ{b xs} h eu et=>by
  subst eu et;obtain ⟨its,_,⟨o,h1,h2,_⟩,_⟩:=I.tuple h;exact FH PySem.W.kitx_tuple I.kIn ⟨o,h1,h2⟩ hk (λz=>nomatch z) fin
 have lstT:∀ {b:Addr} {xs:List V},SqL X.K H b xs->u=.ref b->t = "list"->wpAny (model X.prog X.w) X.A (call (.builtin "isinstance") [u,.type T]) (EP X pins σ Q) X.xe s:=λ{b xs} h eu et=>by
  subst eu et;obtain ⟨its,_,⟨o,n,h1,h2,_⟩,_⟩:=I.list h;exact FH PySem.W.kitx_list I.kIn ⟨o,h1,h2⟩ hk (λz=>nomatch z) fin
 cases rd with
 | non=>cases (ru);cases e;exact FH PySem.W.kitx_none I.kIn True.intro hk (λz=>nomatch z) fin
 | bl b=>cases (ru);cases e;exact FH PySem.W.kitx_bool I.kIn True.intro hk (λz=>nomatch z) fin
 | int i=>obtain ⟨tk,q⟩:=(ru);cases q;cases e;exact FH PySem.W.kitx_int I.kIn True.intro hk (λz=>nomatch z) fin
 | str x=>obtain ⟨tk,q⟩:=(ru);cases q;cases e;exact FH PySem.W.kitx_str I.kIn True.intro hk (λz=>nomatch z) fin
 | tup h r=>cases e;exact tupT h.sq ru rfl
 | lst h r=>cases e;exact lstT h.sq ru rfl
 | scr h r=>cases e;exact lstT h.sq ru rfl
 | ref h=>
  rename_i n b;simp only [tyD] at e;cases q1:S[n]? with
  | none=>rw [q1] at e;cases e
  | some o=>
   rw [q1] at e;cases o with
   | lst ds=>
    cases e;obtain ⟨xs,h1,h2⟩:=rp.ats n _ b q1 h;exact lstT (.inl (.inl h1)) ru rfl
   | dct kvs=>
    cases e;obtain ⟨ks,h1,h2⟩:=rp.ats n _ b q1 h;cases (ru);obtain ⟨_,_,vs,_,pp⟩:=(I.hok b _ h1);obtain ⟨o,es,ep,g1,g2,_⟩:=pp;exact FH PySem.W.kitx_dict I.kIn ⟨o,g1,g2.1⟩ hk (λz=>nomatch z) fin
   | exc _ _=>cases e
theorem hU {T:String} {sx:Nat->Bool} (hT:T∈tys\/T = "ValueError") (hk:∀ c,XC X.K (cl c)->PySem.W.kitOne X.K (.ref (cl c)) (.type T)=some (sx c)) (h:PE X a (tD X.K cl xe f)) (hg:Gl X "isinstance") (hm:X.mg "isinstance" = none) (hg2:Gl X x) (hm2:X.mg x=none) (hv:bootBuiltins x=some (.type T)) (hn:x ≠ "__name__") (hd:(x==("__debug__" : Str))=false) (hs:noStar a=true) :
  PE X (.Call (.Name "isinstance" p) [a,.Name x q] [] pos) (tD X.K cl xe λρ=>bind (f ρ) λd=>if T∈tys then U4 T sx d else B0 sx d):=by
 have key:k8 X (.builtin "isinstance") (λvs H Q=>∃ μ S d v,vs=[v,.ty T]/\RD X.K μ H d v/\Rep X.K cl μ S H/\Post X.K cl xe μ H ((if T∈tys then U4 T sx d else B0 sx d) S) λr _ μ' H'=>∀ v,RD X.K μ' H' r v->Q v H'):=by
  intro pins s σ H xs us Q I r ⟨μ,S,d,v,ev,rd,rp,P⟩;subst ev;have ex:∀ {n:Nat} {b:Addr} {c:Nat} {fs:List (Str×D)},v=.ref b->S[n]?=some (.exc c fs)->μ.pl[n]?=some b->Q (.bl (sx c)) H->wpAny (model X.prog X.w) X.A (call (.builtin "isinstance") us) (EP X pins σ Q) X.xe s:=λ{n b c fs} ev e h q=>by
   subst ev;exact iD rfl hk I r rp e h q
  by_cases ht:T∈tys
  ·rw [if_pos ht] at P;unfold U4 at P;cases e:tyD S d with
   | some t=>rw [e] at P;exact lE ht I r rd rp e (P μ H (Lat.refl _ _) rp _ (.bl _))
   | none=>
    rw [e] at P;cases rd with
    | ref h=>
     rename_i n b;simp only at P;cases q1:S[n]? with
     | none=>rw [q1] at P;exact P.elim
     | some o=>
      rw [q1] at P;cases o with
      | exc c fs=>exact ex rfl q1 h (P μ H (Lat.refl _ _) rp _ (.bl _))
      | lst _=>exact P.elim
      | dct _=>exact P.elim
    | _=>exact False.elim P
  ·rw [if_neg ht] at P;unfold B0 at P;cases rd with
   | ref h=>
    rename_i n b;simp only at P;cases q1:S[n]? with
    | none=>rw [q1] at P;exact P.elim
    | some o=>
     rw [q1] at P;cases o with
     | exc c fs=>exact ex rfl q1 h (P μ H (Lat.refl _ _) rp _ (.bl _))
     | lst _=>exact P.elim
     | dct _=>exact P.elim
   | _=>exact False.elim P
 have hb:PE X (.Name x q) (tC (.ty T)):=sd hg2 hm2 hv rfl hn hd;refine PE.imp (P5 key hg hm (by rfl) (j0 h (j0 hb B6 (c9 rfl)) (c9 hs)) (by decide) (by decide) (c9 hs) (j4 rfl)) λσ H Q ⟨μ,S,ρ,eo,rp,P⟩=>?_;exact ⟨μ,S,ρ,eo,rp,P.bind.imp λd S1 μ1 H1 l1 r1 p1 v rv=>⟨μ1,S1,d,v,rfl,rv,r1,p1⟩⟩
theorem uQ {c0:Nat} {sx:Nat->Bool} (hk:∀ c,XC X.K (cl c)->PySem.W.kitOne X.K (.ref (cl c)) (.ref (cl c0))=some (sx c)) (h:PE X a (tD X.K cl xe f)) (hg:Gl X "isinstance") (hm:X.mg "isinstance" = none) (hg2:Gl X x) (hm2:X.mg x=some (.ref (cl c0))) (hd:(x==("__debug__" : Str))=false) (hs:noStar a=true) :
  PE X (.Call (.Name "isinstance" p) [a,.Name x q] [] pos) (tD X.K cl xe λρ=>bind (f ρ) λd=>B0 sx d):=by
 have key:k8 X (.builtin "isinstance") (λvs H Q=>∃ μ S d v,vs=[v,.ref (cl c0)]/\RD X.K μ H d v/\Rep X.K cl μ S H/\Post X.K cl xe μ H (B0 sx d S) λr _ μ' H'=>∀ v,RD X.K μ' H' r v->Q v H'):=by
  intro pins s σ H xs us Q I r ⟨μ,S,d,v,ev,rd,rp,P⟩;subst ev;unfold B0 at P;cases rd with
  | ref h=>
   rename_i n b;simp only at P;cases q1:S[n]? with
   | none=>rw [q1] at P;exact P.elim
   | some o=>
    rw [q1] at P;cases o with
    | exc c fs=>exact iD rfl hk I r rp q1 h (P μ H (Lat.refl _ _) rp _ (.bl _))
    | lst _=>exact P.elim
    | dct _=>exact P.elim
  | _=>exact False.elim P
 have hb:PE X (.Name x q) (tC (.ref (cl c0))):=ci hg2 hm2 rfl hd;refine PE.imp (P5 key hg hm (by rfl) (j0 h (j0 hb B6 (c9 rfl)) (c9 hs)) (by decide) (by decide) (c9 hs) (j4 rfl)) λσ H Q ⟨μ,S,ρ,eo,rp,P⟩=>?_;exact ⟨μ,S,ρ,eo,rp,P.bind.imp λd S1 μ1 H1 l1 r1 p1 v rv=>⟨μ1,S1,d,v,rfl,rv,r1,p1⟩⟩
end
theorem gX (bs:List Bool):(List.range bs.length).map (λi=>bs.getD i false)=bs:=by
 apply Iu
 ·simp
 ·intro i h1 h2;simp at h1;simp [h1]
theorem jy (a:List Bool):(List.range a.length).all (λi=>a.getD i false)=a.all id:=by
 conv=>rhs;rw [<- gX a,List.all_map]
 rfl
section
variable {X:Cx}
theorem dC {c:List Bool} {d:List Value} (r:Vals (c.map V.bl) d):TruthOf X.prog X.w A (λi v=>d.toArray[i]?=some v) (λi=>c.getD i false):=by
 intro i v s Q E e h;rw [FQ] at e;have g:i<c.length:=by
  have a:=r.length;rw [Dr] at a;have b:=(Eb.mp e).1;omega
 obtain ⟨u,f,j⟩:=Vals.get r (by rw [Eo,Ds g];rfl);rw [e] at f;cases f;cases j;have:c.getD i false=c[i]:=by simp [g]
 exact FX (this▸h)
theorem dg (g:X.calm=true):k8 X (.builtin "all") (λxs H Q=>∃ (p:Addr) (a:List Bool),xs=[.ref p]/\SqL X.K H p (a.map V.bl)/\Q (.bl (a.all id)) H):=by
 intro pins s σ H xs us Q I r h;obtain ⟨p,a,rfl,w,q⟩:=h;obtain ⟨u,rfl,l⟩:=P8 r;cases l;obtain ⟨c,d,pl,hz⟩:=I.list w;have t:=I.ok.hd g;have m:p<s.heap.objs.size:=by
  obtain ⟨o,v,_⟩:=pl.isList;exact Dv v
 have j:c.length=a.length:=by rw [<- d.length,Dr]
 refine call_all_walk (Gx pl.isList ⟨s.heap.objs.size,[s.heap.objs.size,p],[s.heap.objs.size],c.toArray.size,_,_,λi=>a.getD i false,rfl,Walks.list (A:=X.A.in1) (t) _ _ (Dw m) c.toArray,⟨?_,?_⟩,dC d,λh' x k=>?_⟩)
 ·exact ⟨_,Du _ rfl,rfl,rfl⟩
 ·exact pl.isList.push _
 ·have e:(List.range c.toArray.size).all (λi=>a.getD i false)=a.all id:=by
   rw [Dy,j];exact jy a
  rw [e];refine ⟨.bl (a.all id),H,I.kept λb o f=>?_,rfl,q⟩;have n:=Dv f;exact k b o (by simp;exact Dw n) (Dq _ f)
variable {cl:Nat->Addr} {xe:Addr->Hp->Prop}
def aG:List D->Option (List Bool)
 | []=>some []
 | .bl b :: ds=>(aG ds).map (b :: ·)
 | _=>none
theorem qC {K:PySem.W.Frag} {μ:Mp} {H:Hp}:∀ {ds:List D} {vs:List V} {a:List Bool},aG ds=some a->RDs K μ H ds vs->vs=a.map V.bl
 | [],_,a,e,r=>by cases r;cases e;rfl
 | d :: ds,_,a,e,r=>by
  cases r with
  | cons h t=>
   cases d <;> try (simp [aG] at e;done)
   case bl b=>
    simp only [aG] at e;cases c:aG ds with
    | none=>rw [c] at e;cases e
    | some f=>
     rw [c] at e;cases e;cases h;rw [qC c t];rfl
def xq (d:D):M D:=bind (lstOf d) λds=>match aG ds with
 | some a=>ret (.bl (a.all id))
 | none=>bad
theorem BU (c:X.calm=true):k8 X (.builtin "all") (rPs X.K cl xe (one xq)):=O3 λpins s σ H μ S d v us Q I r j b p=>by
 obtain ⟨a,xs,ds,rfl,f,g,i⟩:=u8 j b p.bind;have p:=p.ok_bind i;cases e:aG ds with
 | none=>rw [e] at p;exact p.elim
 | some h=>
  rw [e] at p;have:=qC e g;subst this;exact dg c pins s σ H _ us Q I r ⟨a,h,rfl,.inl (.inl f),p μ H (Lat.refl _ _) b _ (.bl _)⟩
def o9:List D->Option (List Int)
 | []=>some []
 | .int i :: ds=>(o9 ds).map (i :: ·)
 | _=>none
theorem R9 {K:PySem.W.Frag} {μ:Mp} {H:Hp}:∀ {ds:List D} {vs:List V} {ns:List Int},o9 ds=some ns->RDs K μ H ds vs->vs=ns.map V.int
 | [],_,ns,e,r=>by cases r;cases e;rfl
 | d :: ds,_,ns,e,r=>by
  cases r with
  | cons h t=>
   cases d <;> try (simp [o9] at e;done)
   case int i=>
    simp only [o9] at e;cases a:o9 ds with
    | none=>rw [a] at e;cases e
    | some b=>
     rw [a] at e;cases e;cases h;rw [R9 a t];rfl
def cr (d:D):M D:=match d with
 | .int i=>ret (.int (-i))
 | _=>bad
theorem nZ:UnR X (unaryOp .USub) (λx H Q=>∃ μ S d,RD X.K μ H d x/\Rep X.K cl μ S H/\Post X.K cl xe μ H (cr d S) λr _ μ' H'=>∀ v,RD X.K μ' H' r v->Q v H'):=by
 intro pins s σ H x v Q I rx ⟨μ,S,d,rd,rp,p⟩;cases rd with
 | int i=>exact yX pins s σ H _ v Q I rx ⟨i,rfl,p μ H (Lat.refl _ _) rp _ (.int _)⟩
 | _=>exact False.elim p
theorem xn (h:PE X a (tD X.K cl xe f)):PE X (.UnaryOp .USub a pos) (tD X.K cl xe λρ=>bind (f ρ) cr):=
 PE.imp (Ah nZ h) λσ H Q ⟨μ,S,ρ,c,e,p⟩=>⟨μ,S,ρ,c,e,p.bind.imp λd S1 b k l i g v j=>⟨b,S1,d,j,i,g⟩⟩
def N5 (h h':D->D->M D) (x y:D) (z:M D):M D:=bind (h x y) λd=>bind (asB d) λk=>if k=true then bind z λw=>h' y w else ret (.bl false)
theorem fE {q:TE} {i:Env->M D} {ρ:Env} {σ:L2.St} {μ:Mp} {S:Sto} {H:Hp} {x y:D} {v u:V} {Q:VK} (e:q=tD X.K cl xe i) (t:EnvOk X.K μ H ρ σ) (F:RD X.K μ H x v) (l:RD X.K μ H y u) (B:Rep X.K cl μ S H)
  (p:Post X.K cl xe μ H (N5 h h' x y (i ρ) S) λd _ μ' H'=>∀ v,RD X.K μ' H' d v->Q v H') :
  rP2 X.K cl xe h v u H λz c=>∃ k,z=.bl k/\(if k=true then q σ c λw' o=>rP2 X.K cl xe h' u w' o Q else Q (.bl false) c):=by
 subst e;refine ⟨μ,S,x,y,F,l,B,p.bind.imp λd j b c n m a z C=>?_⟩;cases C with
 | bl k=>
  refine ⟨k,rfl,?_⟩;have a:Post X.K cl xe b c ((if k=true then bind (i ρ) (λw=>h' y w) else ret (.bl false)) j) λd _ μ' H'=>∀ v,RD X.K μ' H' d v->Q v H':=a;cases k with
  | true=>
   rw [if_pos rfl] at a ⊢;exact ⟨b,j,ρ,t.later n,m,a.bind.imp λw s f o E r A w' g=>⟨f,s,y,w,(l.later n).later E,g,r,A⟩⟩
  | false=>
   rw [if_neg Ec] at a ⊢;exact a b c (Lat.refl _ _) m _ (.bl _)
 | _=>exact False.elim a
theorem vf {op a:CmpOp} {b c:Expr} (h:behindInMarks a c=false):lastMarks [op,a] [b,c]=false:=h
theorem ly {h h':D->D->M D} {a b c:Expr} {f g l:Env->M D} {pos:Pos} (r:PE X a (tD X.K cl xe f)) (A:PE X b (tD X.K cl xe g)) (q:PE X c (tD X.K cl xe l)) (o:OpR X (compareOp op) (rP2 X.K cl xe h)) (e:OpR X (compareOp op') (rP2 X.K cl xe h')) (z:behindInMarks op' c=false) :
  PE X (.Compare a [op,op'] [b,c] pos) (tD X.K cl xe λρ=>bind (f ρ) λx=>bind (g ρ) λy=>N5 h h' x y (l ρ)):=PE.imp (lK o e r A q (vf z)) λσ H Q ⟨μ,S,ρ,i,w,p⟩=>
 ⟨μ,S,ρ,i,w,p.bind.imp λx S1 d E k B n v C=>⟨d,S1,ρ,i.later k,B,n.bind.imp λy S2 μ2 F j s m u t=>fE rfl ((i.later k).later j) (C.later j) t s m⟩⟩
theorem lh {h h':D->D->M D} {a b c:Expr} {f g l:Env->M D} {pos:Pos} (t:PE X a (tD X.K cl xe f)) (G:PE X b (tD X.K cl xe g)) (s:PE X c (tD X.K cl xe l)) (q:OpR X (compareOp op) (rP2 X.K cl xe h)) (e:OpR X (compareOp op') (rP2 X.K cl xe h')) (F:behindInMarks op' c=false) :
  PT X (.Compare a [op,op'] [b,c] pos) (tBo X.K cl xe λρ=>bind (f ρ) λx=>bind (g ρ) λy=>bind (N5 h h' x y (l ρ)) asB):=PT.imp (oQ q e t G s (vf F)) λσ H Q ⟨μ,S,ρ,i,E,p⟩=>
 ⟨μ,S,ρ,i,E,p.bind.imp λx S1 d N k I o v J=>⟨d,S1,ρ,i.later k,I,o.bind.imp λy S2 μ2 P j A n u C=>fE rfl ((i.later k).later j) (J.later j) C A (n.bind.imp λz K B L O r m w rw=>lL rw r m)⟩⟩
end
def cm (ns:List Int):Nat:=(firstMet (λi=>ns.getD i 0) ns.length).length
section
variable {X:Cx} {e:Expr} {te:TE} {p p2 pos pos2:Pos} {cl:Nat->Addr} {xe:Addr->Hp->Prop}
theorem E4:∀ {ns:List Int} {us:List Value},Vals (ns.map V.int) us->IntsAre us ns
 | [],_,r=>by cases r;exact .nil
 | n :: ns,_,r=>by
  cases r with
  | cons h t=>
   obtain ⟨k,rfl⟩:=(h);exact .cons n k (E4 t)
end
end L3
namespace HT
open PySem PySem.Spec PyProof.Rows
open MeetsSeq MeetsSeq2 MeetsSeq3 SeqRoads2 SeqAt
theorem aO {c:Type} {f:Nat->c->Sem (ForInStep c)} {d:c} {Q:c->Shared->Prop} {j:Nat} (hd:wpAny M A (f j d) (λr s'=>∃ b,r=.done b/\Q b s') E s) :
  ∀ (n i:Nat),i<=j->j<i+n->(∀ m,i<=m->m<j->∀ h:ForInStep c->Shared->Prop,h (.yield d) s->wpAny M A (f m d) h E s)->wpAny M A (forIn (List.range' i n 1) d f) Q E s
 | 0,i,l,k,_=>by omega
 | n+1,i,l,k,g=>by
  rw [List.range'_succ,FU];by_cases e:i=j
  ·subst e;refine Do (Ef hd (λr s' ⟨b,e,q⟩=>?_) λ_ _ e=>e);subst e;exact Dp q
  ·refine Do (g i (Dz _) (by omega) _ ?_);exact aO hd n (i+1) (by omega) (by omega) λm a b=>g m (by omega) b
theorem tuple_indexAt (l:Addr) (items:Array Value) (n:Nat) (v:Option Addr) (q:Array (Option Value)) (x:Value) (e:Value->Bool) (j:Nat) (k:j<items.size)
  (c:e items[j]=true) (f:∀ m (i:m<items.size),m<j->e items[m]=false) :
  Meets (Builtin.«tuple.index» ⟨[.ref l,x],[]⟩)
   (λA R s=>s.heap.get? l=some { cls:=.type "tuple",dict:=v,data:=.seq items n,slots:=q }/\(∀ y,y∈items->EqAt A.in1 s y x (e y))/\R (.ok (.ret (.int j s.toks))) { s with toks:=s.toks+1 }):=by
 intro prog w A R s h;obtain ⟨z,g,d,D,B⟩:=s;obtain ⟨r,o,h⟩:=h;have u:IsTup z l items:=⟨_,r,rfl,n,rfl⟩;have t:selfAndSome "tuple.index" "index" 1 3 ⟨[.ref l,x],[]⟩=pure (.ref l,[x]):=by rfl
 unfold Builtin.«tuple.index»;rw [t];refine Do (Dp ?_);refine Do (Ig u ?_);refine Do (Dp ?_);refine Do (Dp ?_);refine Do ?_;rw [Std.Legacy.Range.forIn_eq_forIn_range'];refine aO (j:=j) ?_ _ _ (Fe _) ?_ ?_
 ·have b:=EK k;simp only [b];refine Do (o _ (Array.getElem_mem k) prog w _ _ ?_);rw [c]
  wp_walk
  exact ⟨_,rfl,Dp h⟩
 ·simp_all
 ·intro m _ i C p;have a:m<items.size:=by omega
  have b:=EK a;simp only [b];refine Do (o _ (Array.getElem_mem a) prog w _ _ ?_);rw [f m a i];exact Dp p
end HT
namespace L3
open PySem PySem.Spec PyProof.Rows L2
section
variable {X:Cx} {cl:Nat->Addr} {xe:Addr->Hp->Prop} {o e:Expr} {es:List Expr} {f:Env->M D} {fs:Env->M (List D)} {apos cpos:Pos}
theorem km (hu:X.A.units+80<cLine):MtR X "tuple.index" (λx vs H Q=>∃ y ps d j,vs=[y]/\DAt X.K H x (.tuple ps)/\DAt X.K H y d/\(d.canLay0=true/\PyData.canLayAll0 ps=true/\min (PyData.depthAll ps) d.depth<=60)/\ps.findIdx? (λz=>PyData.eqv z d)=some j/\Q (.int (j:Nat)) H):=by
 intro pins s σ H x vs v us Q I rx rv h;obtain ⟨y,ps,d,j,rfl,hx,hy,⟨c1,c2,c3⟩,hj,q⟩:=h;obtain ⟨u,rfl,ru⟩:=rv.one;obtain ⟨as,r1⟩:=hx.reads I rx;obtain ⟨bs,r2⟩:=hy.reads I ru;cases r1 with
 | tuple h1 h2 h3 h4=>
  rename_i a ob its n;obtain ⟨cls,dd,data,sl⟩:=ob;simp only at h2 h3;subst h2 h3;have em:=SeqAt.readsAll_map ps _ _ c2 h4;obtain ⟨hl,hit,hno⟩:=ER.mp hj;have hlen:its.toList.length=ps.length:=by rw [<- em,Dr]
  have hl':j<its.size:=by rw [<- Ej,hlen];exact hl
  have at_:∀ m (hm:m<its.size) (hm2:m<ps.length),SeqAt.readOf s.heap its[m]=ps[m]:=λm hm hm2=>by
   have:ps[m]?=(its.toList.map (SeqAt.readOf s.heap))[m]?:=by rw [em]
   rw [Ds hm2,Eo,EW,EK hm] at this;exact (EA this).symm
  refine Gz F.slot_tuple_index ⟨_,h1,rfl⟩ F.entry_tuple_index (F.args_tuple_index_2 _ _) (HT.tuple_indexAt _ its n dd sl u (λz=>PyData.eqv (SeqAt.readOf s.heap z) d) j hl' (by rw [at_ j hl' hl];exact hit) λm hm hmj=>?_) ⟨h1,λz hz=>?_,?_⟩
  ·have hm2:m<ps.length:=by omega
   rw [at_ m hm hm2];simpa using hno m hmj
  ·exact SeqAt.items_eqAt (A:=X.A) h4 r2 c2 c1 (by omega) z hz
  ·exact ⟨.int (j:Nat),H,I.tok _,⟨_,rfl⟩,q⟩
end
end L3
namespace HT
open PySem PySem.Spec PyProof.Rows
section
variable {prog:Program} {w:World} {A:Around} {E:Value->Shared->Prop} {s:Shared}
theorem xL {ob:Obj} {k:Nat} {T:String} {Q:List Value->Shared->Prop} (f:T = "list"\/T = "tuple") (g:s.heap.get? a=some ob) (d:ob.cls=.type T) (h:ob.data=.seq us.toArray k) (hz:us.length<=sizeLine)
  (q:Q us { s with heap:=(s.heap.push (seqObj "list" #[] 0)).update s.heap.objs.size (Obj.mapSeq (·++us.toArray)) }):wpAny (model prog w) A (collect (.ref a)) Q E s:=by
 have b:(s.heap.push (seqObj "list" #[] 0)).get? a=some ob:=Dq _ g;have c:(s.heap.push (seqObj "list" #[] 0)).get? s.heap.objs.size=some (seqObj "list" #[] 0):=Du _ rfl;refine Do (HN (Fy PyProof.Rows.entry_proto_collect' (?_:wpAny _ _ (do again (.builtin "list.__iadd__" ⟨[<- newList [],.ref a],[]⟩)) _ _ s)));refine Do (Gq (Dp ⟨Code.quiet_builtin _ (by decide +kernel),Fy PyProof.Rows.entry_list_iadd' (?_:wpAny _ _ (Builtin.List.listExtendWith (.ref s.heap.objs.size) (.ref a) (.ref s.heap.objs.size)) _ _ { s with heap:=s.heap.push (seqObj "list" #[] 0) })⟩));refine Do (GD ⟨ob,b,d⟩ ?_);rw [if_pos (by rcases f with rfl | rfl <;> simp)];refine Do (FS b h (Do (FS c rfl ?_)));rw [if_neg (by simp)];refine Do (HP c rfl (Dp ?_) (Fe _) (by rw [Array.size_append];show 0+us.toArray.size<=_;rw [Dy];omega));refine Do (IU (PyProof.Rows.get?_update_seq c _) ?_);show wpAny _ _ (pure ((#[]:Array Value)++us.toArray).toList) Q E _;have e:((#[]:Array Value)++us.toArray).toList=us:=by simp
 rw [e];exact Dp q
theorem sorted_seq {ob:Obj} {k:Nat} {T:String} {ns:List Int} {Q:Value->Shared->Prop} (f:T = "list"\/T = "tuple") (g:s.heap.get? a=some ob) (c:ob.cls=.type T) (l:ob.data=.seq us.toArray k) (h:IntsAre us ns) (d:us.length<64)
  (q:∀ (out:Array Value) (ms:List Int),IntsAre out.toList ms->ms.Perm ns->ms.Pairwise (·<=·)->Q (.ref (s.heap.objs.size+1)) { s with heap:=sortedAll s.heap us out }):wpAny (model prog w) A (call (.builtin "sorted") [.ref a]) Q E s:=by
 refine GK Ii HS HU (HV _) ?_;refine Do (Dp (Do (xL f g c l (by rw [Ew];omega) (Do (Gq ?_)))));have e:((s.heap.push (seqObj "list" #[] 0)).update s.heap.objs.size (Obj.mapSeq (·++us.toArray))).objs.size=s.heap.objs.size+1:=by
  rw [Hi,Iv]
 have b:(((s.heap.push (seqObj "list" #[] 0)).update s.heap.objs.size (Obj.mapSeq (·++us.toArray))).push (seqObj "list" us.toArray 0)).get? (s.heap.objs.size+1)=some (seqObj "list" us.toArray 0):=e▸Du _ rfl;rw [e];refine Do (Ep (EO HB ⟨_,b,rfl⟩ Ht (HC b h d λout ms m i j=>⟨_,rfl,Dp ⟨_,rfl,q out ms m i j⟩⟩) (HD _)))
end
end HT
namespace L3
open PySem PySem.Spec PyProof.Rows L2
def fz (x:Int):List Int->List Int
 | []=>[x]
 | y :: ys=>if x<=y then x :: y :: ys else y :: fz x ys
def srt:List Int->List Int
 | []=>[]
 | x :: xs=>fz x (srt xs)
theorem aa (x:Int):∀ l:List Int,(fz x l).Perm (x :: l)
 | []=>.refl _
 | y :: ys=>by
  unfold fz;split
  ·exact .refl _
  ·exact ((aa x ys).cons y).trans (.swap x y ys)
theorem j6:∀ l:List Int,(srt l).Perm l
 | []=>.refl _
 | x :: xs=>(aa x (srt xs)).trans ((j6 xs).cons x)
theorem ll (x:Int):∀ l:List Int,l.Pairwise (·<=·)->(fz x l).Pairwise (·<=·)
 | [],_=>by simp [fz]
 | y :: ys,h=>by
  unfold fz;rw [FD] at h;split
  ·rename_i c;rw [FD];refine ⟨λz hz=>?_,FD.mpr h⟩;rcases Ea.mp hz with e | e
   ·omega
   ·have:=h.1 z e;omega
  ·rename_i c;rw [FD];refine ⟨λz hz=>?_,ll x ys h.2⟩;rcases Ea.mp ((aa x ys).mem_iff.mp hz) with e | e
   ·omega
   ·exact h.1 z e
theorem cS:∀ l:List Int,(srt l).Pairwise (·<=·)
 | []=>.nil
 | x :: xs=>ll x _ (cS xs)
theorem fT:∀ {a b:List Int},a.Perm b->a.Pairwise (·<=·)->b.Pairwise (·<=·)->a=b
 | [],b,p,_,_=>by
  have:=p.length_eq;cases b with
  | nil=>rfl
  | cons _ _=>simp at this
 | x :: a,[],p,_,_=>by have:=p.length_eq;simp at this
 | x :: a,y :: b,p,ha,hb=>by
  rw [FD] at ha hb;have h1:x∈y :: b:=p.mem_iff.mp (Ei ..);have h2:y∈x :: a:=p.mem_iff.mpr (Ei ..);have e:x=y:=by
   rcases Ea.mp h1 with e | e
   ·exact e
   ·rcases Ea.mp h2 with f | f
    ·exact f.symm
    ·have:=ha.1 y f;have:=hb.1 x e;omega
  subst e;rw [fT (List.Perm.cons_inv p) ha.2 hb.2]
theorem U9:∀ {us:List Value} {ns:List Int},IntsAre us ns->Vals (ns.map V.int) us
 | _,_,.nil=>.nil
 | _,_,.cons n t h=>.cons ⟨t,rfl⟩ (U9 h)
section
variable {X:Cx} {cl:Nat->Addr} {xe:Addr->Hp->Prop}
theorem cH:k8 X (.builtin "sorted") (λxs H Q=>∃ (a:Addr) (ns:List Int),xs=[.ref a]/\(SqL X.K H a (ns.map V.int)\/SqT X.K H a (ns.map V.int))/\ns.length<64/\∀ p,H p=none->Q (.ref p) (upd H p (.lst ((srt ns).map V.int)))):=by
 intro pins s σ H xs us Q I r h;obtain ⟨a,ns,rfl,hs,D,q⟩:=h;obtain ⟨u,rfl,z⟩:=P8 r;cases z;have i:∀ (ob:Obj) (k:Nat) (T:String) (f:List Value),(T = "list"\/T = "tuple")->s.heap.get? a=some ob->ob.cls=.type T->ob.data=.seq f.toArray k->Vals (ns.map V.int) f->wpAny (model X.prog X.w) X.A (call (.builtin "sorted") [.ref a]) (EP X pins σ Q) X.xe s:=λob k T f l t m A g=>by
  have j:f.length=ns.length:=by rw [<- g.length,Dr]
  refine HT.sorted_seq l t m A (E4 g) (by omega) λout ms C x y=>?_;have e:=fT (x.trans (j6 ns).symm) y (cS ns);subst e;obtain ⟨v,w⟩:=sortedAll_at s.heap f out;have B:=I.hok.fresh (EU _);refine ⟨.ref (s.heap.objs.size+1),_,I.laid (λb ob q=>sortedAll_old q) (EU _) ?_,rfl,q _ B⟩;refine ⟨by rw [Dr,(j6 ns).length_eq,Ew];omega,out.toList,v,U9 C,?_⟩;rw [GA];exact w
 rcases hs with hs | hs
 ·obtain ⟨f,g,⟨o,n,e,c,E,d⟩,_⟩:=I.list hs;exact i o n "list" f (.inl rfl) e c d g
 ·obtain ⟨f,g,⟨o,e,c,n,d⟩,_⟩:=I.tuple hs;exact i o n "tuple" f (.inr rfl) e c d g
def P4 (d:D):M D:=bind (y4 d) λds=>match o9 ds with
 | some ns=>if ns.length<64 then ret (.lst ((srt ns).map D.int)) else bad
 | none=>bad
theorem mw:k8 X (.builtin "sorted") (rPs X.K cl xe (one P4)):=O3 λpins s σ H μ S d v us Q I r j f p=>by
 obtain ⟨a,xs,ds,rfl,i,h,g⟩:=K3 j f p.bind;have p:=p.ok_bind g;cases e:o9 ds with
 | none=>rw [e] at p;exact p.elim
 | some ns=>
  rw [e] at p;obtain ⟨hz,p⟩:=Post.guard p;have:=R9 e h;subst this;refine cH pins s σ H _ us Q I r ⟨a,ns,rfl,i,hz,λz hz=>?_⟩;obtain ⟨l,b,c⟩:=A1 f (RDs.ints (srt ns)) hz;exact p μ _ l b _ c
end
section
variable {X:Cx} {cl:Nat->Addr} {xe:Addr->Hp->Prop} {o e:Expr} {es:List Expr} {f:Env->M D} {fs:Env->M (List D)} {apos cpos:Pos} {name:Str} {T T2 id id2:String} {r r2:V->List V->Hp->VK->Prop} {α:Type}
theorem xK (G:PlainAttrs T) (l:Slot T name id) (y:typeOf (.builtin id)=pure (.type "method_descriptor")) (F:MtR X id r) (A:PlainAttrs T2) (d:Slot T2 name id2) (i:typeOf (.builtin id2)=pure (.type "method_descriptor")) (B:MtR X id2 k) (K:PE X o to) (D:PA X (e :: es) t)
  (L:y0 o=true) (hs:(e :: es).all noStar=true) (J:D1 (e :: es)=true) (b:(apos.endLine==cpos.line)=true) :
  PE X (.Call (.Attribute o name apos) (e :: es) [] cpos) (λσ H Q=>to σ H λx f=>(tyV X.K T x f/\t σ f λxs c=>r x xs c Q)\/(tyV X.K T2 x f/\t σ f λxs c=>k x xs c Q)):=by
 intro pins s σ H Q I h;have a:=hs;rw [Fb,Dt] at a;refine wpAny_Call_method_late (Z1 L) (gY hs J) b rfl (thn (K pins s σ H _ I h) λv E ⟨x,f,n,m,g⟩=>?_);rcases g with ⟨C,g⟩ | ⟨C,g⟩
 ·obtain ⟨u,p⟩:=gf n m C;refine ⟨T,id,G,l,y,u,p,?_⟩;have j:=D cpos pins E σ f _ n g;rw [c9 a.1] at j ⊢;refine GZ (by show (false||(backTo cpos (starEach es X.env)).any (·.1))=false;rw [j4 a.2] <;> rfl) (Hj ?_);exact thn j λus z ⟨vs,c,w,k,q⟩=>F pins z σ c x vs v us Q w m k q
 ·obtain ⟨u,p⟩:=gf n m C;refine ⟨T2,id2,A,d,i,u,p,?_⟩;have j:=D cpos pins E σ f _ n g;rw [c9 a.1] at j ⊢;refine GZ (by show (false||(backTo cpos (starEach es X.env)).any (·.1))=false;rw [j4 a.2] <;> rfl) (Hj ?_);exact thn j λus z ⟨vs,c,w,k,q⟩=>B pins z σ c x vs v us Q w m k q
def Looks (K:PySem.W.Frag) (cl:Nat->Addr) (xe:Addr->Hp->Prop) (T:String) (g:D->M α):Prop:=∀ (μ:Mp) (S:Sto) (H:Hp) (x:D) (v:V) (G:α->Sto->Mp->Hp->Prop),RD K μ H x v->Rep K cl μ S H->Post K cl xe μ H (g x S) G->tyV K T v H/\∃ a,g x S=.ok a S
def wX (K:PySem.W.Frag) (cl:Nat->Addr) (xe:Addr->Hp->Prop) (r:V->List V->Hp->VK->Prop) (op:D->List D->M D):Prop:=∀ (μ:Mp) (S:Sto) (H:Hp) (x:D) (v:V) (ds:List D) (vs:List V) (Q:VK),RD K μ H x v->RDs K μ H ds vs->Rep K cl μ S H->Post K cl xe μ H (op x ds S) (λd _ μ' H'=>∀ w,RD K μ' H' d w->Q w H')->r v vs H Q
theorem jJ (B:PlainAttrs T) (c:Slot T name id) (i:typeOf (.builtin id)=pure (.type "method_descriptor")) (s:MtR X id r) (t:Looks X.K cl xe T g) (hd:wX X.K cl xe r op) (F:PE X o (tD X.K cl xe f)) (v:PA X (e :: es) (tDs X.K cl xe fs))
  (G:y0 o=true) (hs:(e :: es).all noStar=true) (C:D1 (e :: es)=true) (E:(apos.endLine==cpos.line)=true) :
  PE X (.Call (.Attribute o name apos) (e :: es) [] cpos) (tD X.K cl xe λρ=>bind (f ρ) λx=>bind (g x) λ_=>bind (fs ρ) λds=>op x ds):=by
 have b:=hs;rw [Fb,Dt] at b;refine PE.imp (vK B c i s F v (Z1 G) (gY hs C) E (c9 b.1) (j4 b.2)) λσ H Q ⟨μ,S,ρ,l,w,p⟩=>?_;refine ⟨μ,S,ρ,l,w,p.bind.imp λx S1 d J u m h n k=>?_⟩;obtain ⟨I,a,D⟩:=t d S1 J x n _ k m h.bind;have h:=h.ok_bind D;exact ⟨I,d,S1,ρ,l.later u,m,h.bind.imp λds S2 μ2 A q y z vs j=>hd μ2 S2 A x n ds vs Q (k.later q) j y z⟩
theorem jm (hu:X.A.units+80<cLine):MtR X "list.index" (λx vs H Q=>∃ y ps d j,vs=[y]/\DAt X.K H x (.list ps)/\DAt X.K H y d/\(d.canLay0=true/\PyData.canLayAll0 ps=true/\min (PyData.depthAll ps) d.depth<=60)/\(j:Nat)<100000/\ps.findIdx? (λz=>PyData.eqv z d)=some j/\Q (.int (j:Nat)) H):=by
 intro pins s σ H x vs v us Q I rx rv h;obtain ⟨y,ps,d,j,rfl,hx,hy,⟨c1,c2,c3⟩,hjs,hj,q⟩:=h;obtain ⟨u,rfl,ru⟩:=rv.one;obtain ⟨as,r1⟩:=hx.reads I rx;obtain ⟨bs,r2⟩:=hy.reads I ru;cases r1 with
 | list h1 h2 h3 h4=>
  rename_i a ob its n as';obtain ⟨cls,dd,data,sl⟩:=ob
  (try simp only at h2 h3)
  subst h2 h3;have em:=SeqAt.readsAll_map ps _ _ c2 h4;obtain ⟨hl,hit,hno⟩:=ER.mp hj;have hlen:its.toList.length=ps.length:=by rw [<- em,Dr]
  have hl':j<its.size:=by rw [<- Ej,hlen];exact hl
  have at_:∀ m (hm:m<its.size) (hm2:m<ps.length),SeqAt.readOf s.heap its[m]=ps[m]:=λm hm hm2=>by
   have:ps[m]?=(its.toList.map (SeqAt.readOf s.heap))[m]?:=by rw [em]
   rw [Ds hm2,Eo,EW,EK hm] at this;exact (EA this).symm
  refine Gz F.slot_list_index ⟨_,h1,rfl⟩ F.entry_list_index (F.args_list_index_2 _ _) (SeqAt.list_indexAt _ its n dd sl u (λz=>PyData.eqv (SeqAt.readOf s.heap z) d) j hl' (by omega) (by rw [at_ j hl' hl];exact hit) λm hm hmj=>?_) ⟨h1,λz hz=>?_,?_⟩
  ·have hm2:m<ps.length:=by omega
   rw [at_ m hm hm2];simpa using hno m hmj
  ·exact SeqAt.items_eqAt (A:=X.A) h4 r2 c2 c1 (by omega) z hz
  ·exact ⟨.int (j:Nat),H,I.tok _,⟨_,rfl⟩,q⟩
def ixT (x d:D):M D:=λS=>match i5 64 S d,i5 64 S x with
 | some q,some (.tuple ps)=>(if q.canLay0=true/\PyData.canLayAll0 ps=true/\min (PyData.depthAll ps) q.depth<=60 then (match ps.findIdx? (λz=>PyData.eqv z q) with
  | some j=>ret (.int (j:Nat))
  | none=>bad) else bad) S
 | _,_=>.bad
def lG (x d:D):M D:=λS=>match i5 64 S d,i5 64 S x with
 | some q,some (.list ps)=>(if q.canLay0=true/\PyData.canLayAll0 ps=true/\min (PyData.depthAll ps) q.depth<=60 then (match ps.findIdx? (λz=>PyData.eqv z q) with
  | some j=>if j<100000 then ret (.int (j:Nat)) else bad
  | none=>bad) else bad) S
 | _,_=>.bad
def aB (x:D) (ds:List D):M D:=match ds with
 | [d]=>(match x with
  | .tup xs=>ixT (.tup xs) d
  | x=>lG x d)
 | _=>bad
def sqK (x:D):M Bool:=match x with
 | .tup _=>ret true
 | x=>bind (lstOf x) λ_=>ret false
theorem kK (hu:X.A.units+80<cLine) (ho:PE X o (tD X.K cl xe f)) (ha:PA X (e :: es) (tDs X.K cl xe fs)) (hb:y0 o=true) (hs:(e :: es).all noStar=true) (hf:D1 (e :: es)=true) (hl:(apos.endLine==cpos.line)=true) :
  PE X (.Call (.Attribute o "index" apos) (e :: es) [] cpos) (tD X.K cl xe λρ=>bind (f ρ) λx=>bind (sqK x) λ_=>bind (fs ρ) λds=>aB x ds):=by
 refine PE.imp (xK PySem.F.plainAttrs_tuple PySem.F.slot_tuple_index PySem.F.type_tuple_index (km hu) Gj PySem.F.slot_list_index PySem.F.type_list_index (jm hu) ho ha hb hs hf hl) λσ H Q ⟨μ,S,ρ,eo,rp,p⟩=>?_;refine ⟨μ,S,ρ,eo,rp,p.bind.imp λx S1 μ1 H1 l1 r1 p1 xv rx=>?_⟩;have finT:∀ (S2:Sto) (μ2:Mp) (H2:Hp) (d:D) (v:V),RD X.K μ2 H2 x xv->RD X.K μ2 H2 d v->Rep X.K cl μ2 S2 H2->Post X.K cl xe μ2 H2 (ixT x d S2) (λd _ μ' H'=>∀ w,RD X.K μ' H' d w->Q w H') ->
   ∃ y ps d j,[v]=[y]/\DAt X.K H2 xv (.tuple ps)/\DAt X.K H2 y d/\(d.canLay0=true/\PyData.canLayAll0 ps=true/\min (PyData.depthAll ps) d.depth<=60)/\ps.findIdx? (λz=>PyData.eqv z d)=some j/\Q (.int (j:Nat)) H2:=by
  intro S2 μ2 H2 d v rx2 rv r2 p2;simp only [ixT] at p2;cases e2:i5 64 S2 d with
  | none=>rw [e2] at p2;exact p2.elim
  | some b=>
   cases e1:i5 64 S2 x with
   | none=>rw [e2,e1] at p2;exact p2.elim
   | some a=>
    rw [e2,e1] at p2;have ha:=v3 r2 64 e1 rx2;have hb:=v3 r2 64 e2 rv;cases a with
    | tuple ps=>
     dsimp only at p2;by_cases c:b.canLay0=true/\PyData.canLayAll0 ps=true/\min (PyData.depthAll ps) b.depth<=60
     ·rw [if_pos c] at p2;cases e3:ps.findIdx? (λz=>PyData.eqv z b) with
      | none=>rw [e3] at p2;exact p2.elim
      | some j=>
       rw [e3] at p2;exact ⟨v,ps,b,j,rfl,ha,hb,c,e3,p2 μ2 H2 (Lat.refl _ _) r2 _ (.int _)⟩
     ·rw [if_neg c] at p2;exact p2.elim
    | _=>exact p2.elim
 have finL:∀ (S2:Sto) (μ2:Mp) (H2:Hp) (d:D) (v:V),RD X.K μ2 H2 x xv->RD X.K μ2 H2 d v->Rep X.K cl μ2 S2 H2->Post X.K cl xe μ2 H2 (lG x d S2) (λd _ μ' H'=>∀ w,RD X.K μ' H' d w->Q w H') ->
   ∃ y ps d j,[v]=[y]/\DAt X.K H2 xv (.list ps)/\DAt X.K H2 y d/\(d.canLay0=true/\PyData.canLayAll0 ps=true/\min (PyData.depthAll ps) d.depth<=60)/\(j:Nat)<100000/\ps.findIdx? (λz=>PyData.eqv z d)=some j/\Q (.int (j:Nat)) H2:=by
  intro S2 μ2 H2 d v rx2 rv r2 p2;simp only [lG] at p2;cases e2:i5 64 S2 d with
  | none=>rw [e2] at p2;exact p2.elim
  | some b=>
   cases e1:i5 64 S2 x with
   | none=>rw [e2,e1] at p2;exact p2.elim
   | some a=>
    rw [e2,e1] at p2;have ha:=v3 r2 64 e1 rx2;have hb:=v3 r2 64 e2 rv;cases a with
    | list ps=>
     dsimp only at p2;by_cases c:b.canLay0=true/\PyData.canLayAll0 ps=true/\min (PyData.depthAll ps) b.depth<=60
     ·rw [if_pos c] at p2;cases e3:ps.findIdx? (λz=>PyData.eqv z b) with
      | none=>rw [e3] at p2;exact p2.elim
      | some j=>
       rw [e3] at p2;obtain ⟨hj,p2⟩:=Post.guard p2;exact ⟨v,ps,b,j,rfl,ha,hb,c,hj,e3,p2 μ2 H2 (Lat.refl _ _) r2 _ (.int _)⟩
     ·rw [if_neg c] at p2;exact p2.elim
    | _=>exact p2.elim
 have L:Post X.K cl xe μ1 H1 (bind (bind (lstOf x) λ_=>ret false) (λ_=>bind (fs ρ) λds=>aB x ds) S1) (λd _ μ' H'=>∀ v,RD X.K μ' H' d v->Q v H')->(∀ d,aB x [d]=lG x d)->(tyV X.K "list" xv H1/\tDs X.K cl xe fs σ H1 λxs H2=>∃ y ps d j,xs=[y]/\DAt X.K H2 xv (.list ps)/\DAt X.K H2 y d/\(d.canLay0=true/\PyData.canLayAll0 ps=true/\min (PyData.depthAll ps) d.depth<=60)/\(j:Nat)<100000/\ps.findIdx? (λz=>PyData.eqv z d)=some j/\Q (.int (j:Nat)) H2):=λp1 hx=>by
  obtain ⟨a0,xs0,ds0,e0,h0,r0,q0⟩:=u8 rx r1 p1.bind.bind;have p1:=p1.ok_bind (show (bind (lstOf x) λ_=>ret false) S1=.ok false S1 by rw [bind];rw [q0];rfl);subst e0;refine ⟨.inl ⟨rfl,_,.inl (.inl h0)⟩,μ1,S1,ρ,eo.later l1,r1,p1.bind.imp λds S2 μ2 H2 l2 r2 p2 vs rvs=>?_⟩
  match ds,rvs with
  | [],_=>exact False.elim p2
  | _ :: _ :: _,_=>exact False.elim p2
  | [d],rvs=>
   obtain ⟨v,rfl,rv⟩:=fZ rvs;rw [hx] at p2;exact finL S2 μ2 H2 d v (rx.later l2) rv r2 p2
 cases rx with
 | tup h0 r0=>
  rename_i a0 xs0 ds0;have p1:=p1.ok_bind (rfl);refine .inl ⟨?_,μ1,S1,ρ,eo.later l1,r1,p1.bind.imp λds S2 μ2 H2 l2 r2 p2 vs rvs=>?_⟩
  ·rcases h0 with ⟨q,_,_⟩ | ⟨o,its,n,c1,c2,c3,c4,c5,c6⟩
   ·exact .inr (.inr (.inr (.inr ⟨rfl,_,q⟩)))
   ·exact .inr (.inl ⟨rfl,o,c1,c2,c6⟩)
  ·match ds,rvs with
   | [],_=>exact False.elim p2
   | _ :: _ :: _,_=>exact False.elim p2
   | [d],rvs=>
    obtain ⟨v,rfl,rv⟩:=fZ rvs;exact finT S2 μ2 H2 d v ((RD.tup h0 r0).later l2) rv r2 p2
 | _=>exact .inr (L p1 λd=>rfl)
theorem Z6:Looks X.K cl xe "list" lstOf:=λμ S H x v G b c p=>by
 obtain ⟨a,xs,ds,rfl,d,f,e⟩:=u8 b c p;exact ⟨.inl ⟨rfl,_,.inl (.inl d)⟩,ds,e⟩
end
section
variable {X:Cx} {cl:Nat->Addr} {xe:Addr->Hp->Prop} {o e:Expr} {es:List Expr} {f:Env->M D} {p p2 pos pos2:Pos} {te:TE}
def rgL (n:Nat):List Int:=(List.range n).map λ(k:Nat)=>(k:Int)
theorem tF {n:Nat} (a:acc.length=n) (h:∀ (i:Nat) (v:Value),acc[i]?=some v->∃ t,v=Value.int (i:Int) t):Vals ((rgL n).map V.int) acc:=by
 have d:∀ (k:Nat) (l:List Value) (b:Nat),l.length=k->(∀ (i:Nat) (v:Value),l[i]?=some v->∃ t,v=Value.int ((b+i:Nat):Int) t)->Vals ((List.range' b k).map λ(j:Nat)=>V.int (j:Int)) l:=by
  intro k;induction k with
  | zero=>intro l b a _;cases l with
   | nil=>exact .nil
   | cons _ _=>simp at a
  | succ k f=>
   intro l b a c;cases l with
   | nil=>simp at a
   | cons v l=>
    rw [List.range'_succ,EG];refine .cons ?_ (f l (b+1) (by simpa using a) λi w g=>?_)
    ·obtain ⟨t,e⟩:=c 0 v rfl;exact ⟨t,by rw [e];simp⟩
    ·obtain ⟨t,e⟩:=c (i+1) w (by simpa using g);exact ⟨t,by rw [e];congr 2;omega⟩
 have:=d n acc 0 a λi v c=>by
  obtain ⟨t,e⟩:=h i v c;exact ⟨t,by rw [e];simp⟩
 unfold rgL;rw [ID,List.range_eq_range'];exact this
def uV (te:TE):TE:=λσ H Q=>te σ H λx a=>∃ n:Nat,x=.int (n:Int)/\n<100000/\∀ q,a q=none->Q (.ref q) (upd a q (.lst ((rgL n).map V.int)))
theorem jf (hc:X.calm=true) (hl:Gl X "list") (ml:X.mg "list" = none) (hr:Gl X "range") (mr:X.mg "range" = none) (he:PE X e te) (hn:noStar e=true):PE X (.Call (.Name "list" p) [.Call (.Name "range" p2) [e] [] pos2] [] pos) (uV te):=by
 intro pins s σ H Q I h;have hh:X.A.handled=none:=I.ok.hd hc;refine EI (w8 I hl ml (by rfl) ?_ (by decide) (by decide));refine EN ?_ rfl rfl;show wpAny _ _ (spliced ((false,eval (.Call (.Name "range" p2) [e] [] pos2) X.env) :: backTo pos (starEach [] X.env))) _ _ s;refine Fm ?_;refine EI (w8 I hr mr boot_range ?_ (by decide) (by decide));refine EN ?_ (c9 hn) rfl;rw [c9 hn];show wpAny _ _ (spliced ((false,eval e X.env) :: backTo pos2 (starEach [] X.env))) _ _ s;refine Fm (thn (he pins s σ H _ I h) λu s1 ⟨x,H1,I1,r1,n,e1,hz,q⟩=>?_);subst e1;obtain ⟨t,rfl⟩:=r1;refine Fq (call_range_1 (Fq ?_));have rs:Builtin.Range.rangeSize 0 (n:Int) 1=(n:Int):=by rw [rangeSize_one];split <;> omega
 refine call_list_range hh (IsRange.new ..) (small_one (by omega) (by omega) (by omega) (by omega)) rs (by omega) λh' tk acc c hk hS hacc=>?_;have I2:=I1.kept (t':=s1.toks+1+1) (h':=s1.heap.push { cls:=.type "range",data:=.fields #[.int 0 s1.toks,.int (n:Int) t,.int 1 (s1.toks+1)] }) λb ob q=>Dq _ q;refine ⟨.ref _,_,Inv.laid (t':=tk) (o:=.lst ((rgL n).map V.int)) I2 hk (Dz _) ?_,rfl,q _ (I2.hok.fresh (Dz _))⟩;refine ⟨by rw [Dr];show (rgL n).length<=_;unfold rgL;rw [Dr,Fv,Ew];omega,acc.toList,c,tF (by rw [Ej];exact hacc.1) (λi v hv=>?_),?_⟩
 ·obtain ⟨t',e⟩:=hacc.2 i v (by rw [<- EW];exact hv);exact ⟨t',by rw [e];simp⟩
 ·rw [GA];exact hS
def Z2 (d:D):M D:=match d with
 | .int i=>if 0<=i/\i<100000 then ret (.lst ((rgL i.toNat).map D.int)) else bad
 | _=>bad
theorem kx (hc:X.calm=true) (hl:Gl X "list") (ml:X.mg "list" = none) (hr:Gl X "range") (mr:X.mg "range" = none) (he:PE X e (tD X.K cl xe f)) (hn:noStar e=true):PE X (.Call (.Name "list" p) [.Call (.Name "range" p2) [e] [] pos2] [] pos) (tD X.K cl xe λρ=>bind (f ρ) Z2):=
 PE.imp (jf hc hl ml hr mr he hn) λσ H Q ⟨μ,S,ρ,eo,rp,p⟩=>⟨μ,S,ρ,eo,rp,p.bind.imp λd S1 μ1 H1 l1 r1 p1 v rv=>by
  cases rv with
  | int i=>
   obtain ⟨hi,p1⟩:=Post.guard p1;refine ⟨i.toNat,by rw [Int.toNat_of_nonneg hi.1],by omega,λz hz=>?_⟩;obtain ⟨l,rp2,rd2⟩:=A1 r1 (RDs.ints (rgL i.toNat)) hz;exact p1 μ1 _ l rp2 _ rd2
  | _=>exact False.elim p1⟩
theorem aT:MtR X "list.extend" (λx vs H Q=>∃ l b xs j,x=.ref l/\vs=[.ref b]/\H l=some (.lst xs)/\(SqL X.K H b j\/SqT X.K H b j)/\xs.length+j.length<=sizeLine/\Q .non (upd H l (.lst (xs++j)))):=by
 intro pins s σ H x vs v us Q I A C h;obtain ⟨l,b,xs,j,rfl,rfl,y,m,hz,q⟩:=h;cases A;obtain ⟨u,rfl,B⟩:=C.one;cases B;obtain ⟨z,g,n,r,L,e⟩:=I.lstM y;have p:∀ (ob:Obj) (k:Nat) (T:String) (a:List Value),(T = "list"\/T = "tuple")->s.heap.get? b=some ob->ob.cls=.type T->ob.data=.seq a.toArray k->Vals j a->wpAny (model X.prog X.w) X.A (call (.builtin "list.extend") [.ref l,.ref b]) (EP X pins σ Q) X.xe s:=λob k T a J w G E f=>by
  have hsz:g.toArray.size+a.toArray.size<=sizeLine:=by rw [Dy,Dy,<- f.length];omega
  have i:¬ (!g.toArray.isEmpty&&Builtin.List.listTooLong (g.toArray.size+a.toArray.size))=true:=by
   rw [eM hsz,Bool.and_false];exact Ec
  have D:s.TypeIs (.ref l) "list":=⟨_,e,rfl⟩;refine EO F.slot_list_extend D F.entry_list_extend ?_ (F.args_list_extend_2 _ _);show wpAny _ _ (Builtin.List.listExtendWith (.ref l) (.ref b) .none) _ _ s;refine Do (GD ⟨ob,w,G⟩ ?_);rw [if_pos (by rcases J with rfl | rfl <;> simp)];refine Do (FS w E (Do (FS e rfl ?_)));rw [if_neg i];refine Do (HP e rfl (Dp ?_) (by rw [Dy];omega) (by rw [Array.size_append];omega));refine ⟨_,rfl,.non,_,I.lset y e (by simp) (r.append f) ?_,rfl,q⟩;rw [Es];omega
 rcases m with m | m
 ·obtain ⟨a,f,⟨o,k,t,c,K,d⟩,_⟩:=I.list m;exact p o k "list" a (.inl rfl) t c d f
 ·obtain ⟨a,f,⟨o,t,c,k,d⟩,_⟩:=I.tuple m;exact p o k "tuple" a (.inr rfl) t c d f
def extD (x:D) (ds:List D):M D:=match x,ds with
 | .ref n,[.tup ys]=>λS=>match S[n]? with
  | some (.lst es)=>if es.length+ys.length<=sizeLine then .ok .non (S.set n (.lst (es++ys))) else .bad
  | _=>.bad
 | .ref n,[.lst ys]=>λS=>match S[n]? with
  | some (.lst es)=>if es.length+ys.length<=sizeLine then .ok .non (S.set n (.lst (es++ys))) else .bad
  | _=>.bad
 | _,_=>bad
theorem eJ:wX X.K cl xe (λx vs H Q=>∃ l b xs zs,x=.ref l/\vs=[.ref b]/\H l=some (.lst xs)/\(SqL X.K H b zs\/SqT X.K H b zs)/\xs.length+zs.length<=sizeLine/\Q .non (upd H l (.lst (xs++zs)))) extD:=λμ S H x v ds vs Q rx rvs rp p=>by
 have gen:∀ (n:Nat) (a b:Addr) (ys:List D) (zs:List V),μ.pl[n]?=some a->(SqL X.K H b zs\/SqT X.K H b zs)->RDs X.K μ H ys zs->Post X.K cl xe μ H (match S[n]? with
   | some (.lst es)=>if es.length+ys.length<=sizeLine then R.ok D.non (S.set n (.lst (es++ys))) else .bad
   | _=>.bad) (λd _ μ' H'=>∀ w,RD X.K μ' H' d w->Q w H')->∃ l b' xs zs',V.ref a=.ref l/\[V.ref b]=[.ref b']/\H l=some (.lst xs)/\(SqL X.K H b' zs'\/SqT X.K H b' zs')/\xs.length+zs'.length<=sizeLine/\Q .non (upd H l (.lst (xs++zs'))):=λn a b ys zs e hs hr p=>by
  cases q1:S[n]? with
  | none=>rw [q1] at p;exact p.elim
  | some o=>
   rw [q1] at p;cases o with
   | lst es=>
    obtain ⟨xs,h1,h2⟩:=rp.ats n _ a q1 e;dsimp only at p;by_cases hz:es.length+ys.length<=sizeLine
    ·rw [if_pos hz] at p;have ml:=ET e;refine ⟨a,b,xs,zs,rfl,rfl,h1,hs,by rw [<- h2.length,<- hr.length];exact hz,?_⟩;have la:Lat μ H μ (upd H a (.lst (xs++zs))):=Lat.wrote ml;exact p μ _ la (rp.wrote e ⟨_,b8,(h2.append hr).later la⟩) _ .non
    ·rw [if_neg hz] at p;exact p.elim
   | dct _=>exact p.elim
   | exc _ _=>exact p.elim
 unfold extD at p;split at p
 ·rename_i n ys;cases rvs with
  | cons h t=>
   cases t;cases rx with
   | ref e=>
    cases h with
    | tup h1 h2=>
     rename_i a b zs;exact gen n a b ys zs e (.inr h1.sq) h2 p
 ·rename_i n ys;cases rvs with
  | cons h t=>
   cases t;cases rx with
   | ref e=>
    cases h with
    | lst h1 h2=>
     rename_i a b zs;exact gen n a b ys zs e (.inl h1.sq) h2 p
 ·exact p.elim
end
end L3
namespace HT
open PySem PySem.Spec PyProof.Rows
def j8 (a:Bool):Obj:={ cls:=.type "set",dict:=none,data:=.set #[] 0 (.fresh 0 0 a) }
section
variable {prog:Program} {w:World} {A:Around} {E:Value->Shared->Prop} {s:Shared}
theorem dk {t:Addr} {its:Array Value} {ns:List Int} {led:Bool} (hh:A.handled=none) (ht:s.heap.IsTuple t its) (hi:IntsAre its.toList ns) (hb:its.size+1<scanBound) (P:Fin->Shared->Prop) (E':Value->Shared->Prop)
  (h:∀ (g:Heap) (tk:Nat),g.SetOf (intKind prog w) s.heap.objs.size (λk=>(firstMet (λi=>ns.getD i 0) its.size).any (·==k)) (firstMet (λi=>ns.getD i 0) its.size).length ->
   (∀ b o,b<s.heap.objs.size->s.heap.get? b=some o->g.get? b=some o)->P (.done (.ret .none)) { s with heap:=g,toks:=tk }) :
  wpAny (model prog w) A (Builtin.«set.__init__» ⟨[.ref s.heap.objs.size,.ref t],[]⟩) P E' { s with heap:=s.heap.push (j8 led) }:=by
 have gS:(s.heap.push (j8 led)).get? s.heap.objs.size=some (j8 led):=Du _ rfl;obtain ⟨ob,eo,ec,n,ed⟩:=ht;obtain ⟨cls,dict,data,slots⟩:=ob;dsimp only at ec ed;subst ec ed;have e1:=Dq (j8 led) eo;have t1:(s.heap.push (j8 led)).IsTuple t its:=⟨_,e1,rfl,n,rfl⟩;have lt:=Dv eo;have q1:=F.sub_tuple_set;have q2:=F.sub_tuple_frozenset;have q3:(Value.type "tuple" == Value.type "dict")=false:=by decide
 unfold Builtin.«set.__init__» noKeywords Builtin.Frozenset.updateFrom;generalize hp:pyIter=pI
 wp_walk
 subst hp;refine FC t1 (Do (HN ?_));have ne:t≠(s.heap.push (j8 led)).objs.size:=by rw [EL];exact Dw (El lt)
 have nS:s.heap.objs.size∉[(s.heap.push (j8 led)).objs.size,t]:=by
  rw [EL];simp only [Ea,Fo,Hm,not_or];exact ⟨Dw (Ek _),FW lt⟩
 have val:∀ (i:Nat) (v:Value),its[i]?=some v->∃ tk,v=.int ((λi=>ns.getD i 0) i) tk:=λi v hv=>IntsAre.int_at hi i v (by rw [EW];exact hv);have h3:A.in1.handled=none:=by simp [hh]
 refine codeAny_set_update_loopS ((Walks.tuple h3 _ t ne its).toS) s.heap.objs.size nS (λi=>ns.getD i 0) val hb (its.size-0) 0 _ (by omega) (Fe _) ⟨⟨_,Du _ rfl,rfl,rfl⟩,t1.push _⟩ ?_ ?_
 ·exact SetOf_congr ((setObjOf_fresh (knd:=intKind prog w) led).setOf (Dq _ gS) (by unfold scanBound;omega)) (λ_=>rfl) rfl
 ·rintro ⟨g,gn,dr,tk,os⟩ mv hS;have z1:gn=s.gens:=mv.gens;have z2:dr=s.drawn:=mv.drawn;have z3:os=s.os:=mv.os;subst z1 z2 z3;refine Dp ?_;show wpAny _ _ (ret Value.none) _ _ _;refine Dp (h g tk hS λb o hb e=>mv.heap b o ?_ (Dq _ (Dq _ e)));simp only [Ea,Fo,Hm,not_or];exact ⟨Dw hb,by rw [EL];exact Dw (El hb)⟩
theorem call_set_tup (p:A.handled=none) (q:s.heap.IsTuple t its) (l:IntsAre its.toList ns) (m:its.size+1<scanBound)
  (h:∀ (g:Heap) (e:Nat),g.SetOf (intKind prog w) s.heap.objs.size (λk=>(firstMet (λi=>ns.getD i 0) its.size).any (·==k)) (firstMet (λi=>ns.getD i 0) its.size).length ->
   (∀ b o,b<s.heap.objs.size->s.heap.get? b=some o->g.get? b=some o)->Q (.ref s.heap.objs.size) { s with heap:=g,toks:=e }):wpAny (model prog w) A (call (.type "set") [.ref t]) Q E s:=by
 obtain ⟨c,u,F⟩:=PySem.F.called_set.mro;have m2:=PySem.F.called_set.made;have v:=PySem.F.called_set.sub;refine Gc (GS ?_);refine Dp ⟨Code.quiet_builtin _ (by decide +kernel),Fy Iw ?_⟩;rw [Around.under_plain (weight_type_call_type "set" [.ref t] []) rfl];have y:=PySem.F.called_set.notType;have B:=PySem.F.called_set.canCreate;have x:=PySem.F.typeCall_set_1 (.ref t)
 repeat (any_goals (first | assumption | wp_step))
 refine Ff (code_set_new_1 (.ref t) (E:=E) (Q₁:=λr z=>∃ d:Bool,r=.ref s.heap.objs.size/\z={ s with heap:=s.heap.push (j8 d) }) λd=>⟨d,rfl,rfl⟩) λr z a=>?_
 match r,a with
 | .error _,a=>exact a
 | .ok .next,a=>exact a.elim
 | .ok .brk,a=>exact a.elim
 | .ok .cont,a=>exact a.elim
 | .ok (.ret r),a=>
  obtain ⟨d,rfl,rfl⟩:=a;have n:Shared.TypeIs { s with heap:=s.heap.push (j8 d) } (.ref s.heap.objs.size) "set":=⟨_,Du _ rfl,rfl⟩;have D:=PySem.F.called_set.init.lookup;have C:=PySem.F.called_set.init.bind (.ref s.heap.objs.size)
  repeat (any_goals (first | assumption | wp_step))
  refine Ff (FZ (R:=wants (λr z=>r=.none/\∃ g e,z={ s with heap:=g,toks:=e }/\g.SetOf (intKind prog w) s.heap.objs.size (λk=>(firstMet (λi=>ns.getD i 0) its.size).any (·==k)) (firstMet (λi=>ns.getD i 0) its.size).length /\
   (∀ b o,b<s.heap.objs.size->s.heap.get? b=some o->g.get? b=some o)) E) PySem.F.called_set.init.plain PySem.F.entry_set_init (check_set_init_1 n ?_)) λr z a=>?_
  ·exact dk (by simp [p]) q l m _ _ λg e f j=>⟨rfl,g,e,rfl,f,j⟩
  ·match r,a with
   | .error _,a=>exact a
   | .ok .next,a=>exact a.elim
   | .ok .brk,a=>exact a.elim
   | .ok .cont,a=>exact a.elim
   | .ok (.ret r),a=>
    obtain ⟨rfl,g,e,rfl,f,j⟩:=a
    repeat (any_goals (first | assumption | wp_step))
    exact h _ _ f j
end
end HT
namespace L3
open PySem PySem.Spec PyProof.Rows L2
section
variable {X:Cx} {e:Expr} {te:TE} {p p2 pos pos2:Pos} {cl:Nat->Addr} {xe:Addr->Hp->Prop}
def oh (K:PySem.W.Frag) (te:TE):TE:=λσ H Q=>te σ H λx H1=>∃ a ns,x=.ref a/\(SqL K H1 a (ns.map V.int)\/SqT K H1 a (ns.map V.int))/\ns.length<4000/\Q (.int (cm ns:Nat)) H1
theorem fw (hc:X.calm=true) (hl:Gl X "len") (ml:X.mg "len" = none) (hs:Gl X "set") (ms:X.mg "set" = none) (he:PE X e te) (hn:noStar e=true):PE X (.Call (.Name "len" p) [.Call (.Name "set" p2) [e] [] pos2] [] pos) (oh X.K te):=by
 intro pins s σ H Q I h;have hh:X.A.handled=none:=I.ok.hd hc;refine EI (w8 I hl ml PySem.boot_len ?_ (by decide) (by decide));refine FA ?_ rfl rfl;show wpAny _ _ (spliced ((false,eval (.Call (.Name "set" p2) [e] [] pos2) X.env) :: backTo pos (starEach [] X.env))) _ _ s;refine Fm ?_;refine EI (w8 I hs ms (by rfl) ?_ (by decide) (by decide));refine EN ?_ (c9 hn) rfl;rw [c9 hn];show wpAny _ _ (spliced ((false,eval e X.env) :: backTo pos2 (starEach [] X.env))) _ _ s;refine Fm (thn (he pins s σ H _ I h) λu s1 ⟨x,H1,I1,r1,a,ns,e1,hq,hz,q⟩=>?_);subst e1;cases r1;refine Fq ?_;have fin:∀ (its:List Value) (h':Heap) (tk:Nat),its.length=ns.length->h'.SetOf (intKind X.prog X.w) s1.heap.objs.size (λk'=>(firstMet (λi=>ns.getD i 0) its.toArray.size).any (·==k')) (firstMet (λi=>ns.getD i 0) its.toArray.size).length ->
   (∀ b o,b<s1.heap.objs.size->s1.heap.get? b=some o->h'.get? b=some o)->wpAny (model X.prog X.w) X.A (spliced (backTo pos (starEach [] X.env))) (λvs s2=>wpAny (model X.prog X.w) X.A (call (.builtin "len") (.ref s1.heap.objs.size :: vs)) (EP X pins σ Q) X.xe s2) X.xe { s1 with heap:=h',toks:=tk }:=λits h' tk hlen hS hk=>by
  refine Fq ?_;obtain ⟨o,es,ep,t,ho,hex,hd,_,_,hsc,hf,hsz2⟩:=hS;have hsc':es.size<4096:=hsc;refine PySem.call_len_set ho hex hd hf (by omega) ?_;have e5:its.toArray.size=ns.length:=by rw [Dy,hlen]
  rw [e5] at hsz2;have e6:es.size=cm ns:=hsz2;rw [e6];exact ⟨.int (cm ns:Nat),H1,I1.kept (t':=tk+1+1) λb ob eb=>hk b ob (Dv eb) eb,⟨_,rfl⟩,q⟩
 rcases hq with hq | hq
 ·obtain ⟨its,r',pl,hsz⟩:=I1.list hq;have hlen:its.length=ns.length:=by rw [<- r'.length,Dr]
  exact call_set_list hh pl.isList (E4 r') (by rw [Dy,hlen];show ns.length+1<4096;omega) λh' tk hS hk=>fin its h' tk hlen hS hk
 ·obtain ⟨its,r',⟨ob,o1,o2,n,o3⟩,hsz⟩:=I1.tuple hq;have hlen:its.length=ns.length:=by rw [<- r'.length,Dr]
  exact HT.call_set_tup hh ⟨ob,o1,o2,n,o3⟩ (E4 r') (by rw [Dy,hlen];show ns.length+1<4096;omega) λh' tk hS hk=>fin its h' tk hlen hS hk
def dB (d:D):M D:=bind (y4 d) λds=>match o9 ds with
 | some ns=>if ns.length<4000 then ret (.int (cm ns:Nat)) else bad
 | none=>bad
theorem ff (u:X.calm=true) (t:Gl X "len") (s:X.mg "len" = none) (hs:Gl X "set") (ms:X.mg "set" = none) (n:PE X e (tD X.K cl xe f)) (m:noStar e=true):PE X (.Call (.Name "len" p) [.Call (.Name "set" p2) [e] [] pos2] [] pos) (tD X.K cl xe λρ=>bind (f ρ) dB):=
 PE.imp (fw u t s hs ms n m) λσ H Q ⟨μ,S,ρ,q,k,p⟩=>⟨μ,S,ρ,q,k,p.bind.imp λd S1 g j w h b v o=>by
  obtain ⟨a,xs,ds,rfl,r,l,i⟩:=K3 o h b.bind;have b:=b.ok_bind i;cases c:o9 ds with
  | none=>rw [c] at b;exact b.elim
  | some ns=>
   rw [c] at b;obtain ⟨hz,b⟩:=Post.guard b;have:=R9 c l;subst this;exact ⟨a,ns,rfl,r,hz,b g j (Lat.refl _ _) h _ (.int _)⟩⟩
end
end L3
namespace HT
open PySem PySem.Spec PyProof.Rows
def Rise (xs:Array Nat):Prop:=xs.toList.Pairwise (· < ·)
theorem Rise.lt {xs:Array Nat} (h:Rise xs) {i j:Nat} (hij:i<j) (hj:j<xs.size):xs[i]<xs[j]:=by
 have:=List.pairwise_iff_getElem.mp h i j (by simp;omega) (by simpa using hj) hij;simpa using this
theorem aZ {xs:Array Nat} {j:Nat} (h:Rise xs):∀ (fuel lo hi:Nat),hi-lo<=fuel->lo<=hi->hi<=xs.size->(∀ i (z:i<xs.size),i<lo->xs[i]<j)->(∀ i (z:i<xs.size),hi<=i->j<=xs[i]) ->
  SetTable.below.go xs j fuel lo hi<=xs.size/\(∀ i (z:i<xs.size),i<SetTable.below.go xs j fuel lo hi->xs[i]<j)/\∀ i (z:i<xs.size),SetTable.below.go xs j fuel lo hi<=i->j<=xs[i]
 | 0,lo,hi,f,le,le2,a,b=>by
  have e:lo=hi:=by omega
  subst e;exact ⟨le2,a,b⟩
 | fuel+1,lo,hi,f,le,le2,a,b=>by
  unfold SetTable.below.go;by_cases c:lo<hi
  ·rw [if_pos c];have hm:(lo+hi) / 2<xs.size:=by omega
   have em:xs.getD ((lo+hi) / 2) j=xs[(lo+hi) / 2]:=by simp [Array.getD,hm]
   dsimp only;rw [em];by_cases d:xs[(lo+hi) / 2]<j
   ·rw [if_pos d];refine aZ h fuel _ _ (by omega) (by omega) le2 (λi z w=>?_) b;rcases IE i ((lo+hi) / 2) with u | u
    ·exact Nat.lt_trans (h.lt u hm) d
    ·have:i=(lo+hi) / 2:=by omega
     subst this;exact d
   ·rw [if_neg d];refine aZ h fuel _ _ (by omega) (by omega) (by omega) a λi z w=>?_;rcases IE ((lo+hi) / 2) i with u | u
    ·have:=h.lt u z;omega
    ·have:i=(lo+hi) / 2:=by omega
     subst this;omega
  ·rw [if_neg c];have e:lo=hi:=by omega
   subst e;exact ⟨le2,a,b⟩
theorem ao (h:Rise xs) (j:Nat):SetTable.below xs j<=xs.size/\(∀ i (z:i<xs.size),i<SetTable.below xs j->xs[i]<j)/\∀ i (z:i<xs.size),SetTable.below xs j<=i->j<=xs[i]:=
 aZ h xs.size 0 xs.size (by omega) (Fe _) (Dz _) (λi _ w=>absurd w (Nat.not_lt_zero _)) λi z w=>by omega
theorem gu (h:Rise xs) {i:Nat} (hi:i<xs.size):SetTable.below xs (xs[i]+1)=i+1:=by
 obtain ⟨a,b,c⟩:=ao h (xs[i]+1);generalize SetTable.below xs (xs[i]+1)=k at a b c;rcases Nat.lt_trichotomy k (i+1) with u | u | u
 ·grind
 ·exact u
 ·have z:i+1<xs.size:=by omega
  have:=b (i+1) z u;have:xs[i]<xs[i+1]:=h.lt (Ek i) z;omega
theorem fb (h:Rise xs):SetTable.below xs 0=0:=by
 obtain ⟨a,b,c⟩:=ao h 0;rcases Nat.eq_zero_or_pos (SetTable.below xs 0) with u | u
 ·exact u
 ·have:=b 0 (by omega) u;omega
theorem dO {xs:Array Nat} (h:Rise xs) {j:Nat} (n:xs[SetTable.below xs j]?≠some j):Rise (SetTable.insertAt xs (SetTable.below xs j) j):=by
 obtain ⟨a,b,c⟩:=ao h j;unfold Rise;rw [SetTable.toList_insertAt,List.pairwise_append,FD];refine ⟨List.Pairwise.sublist (List.take_sublist _ _) h,⟨λy hy=>?_,List.Pairwise.sublist (List.drop_sublist _ _) h⟩,λx hx y hy=>?_⟩
 ·obtain ⟨k,hk,rfl⟩:=GC.mp hy;rw [Hf,Ej] at hk;have hz:SetTable.below xs j+k<xs.size:=by omega
  rw [List.getElem_drop,Ho];have h1:=c _ hz (Nat.le_add_right _ _);rcases Nat.eq_zero_or_pos k with rfl | kp
  ·rcases Nat.lt_or_eq_of_le h1 with u | u
   ·exact u
   ·refine absurd ?_ n;rw [EK (by omega)];exact congrArg some u.symm
  ·have z0:SetTable.below xs j<xs.size:=by omega
   have:=c _ z0 (Dz _);have:=h.lt (show SetTable.below xs j<SetTable.below xs j+k by omega) hz;omega
 ·have hxj:x<j:=by
   obtain ⟨k,hk,rfl⟩:=GC.mp hx;rw [Fn,Ej] at hk;rw [List.getElem_take,Ho];exact b _ (by omega) (by omega)
  rcases Ea.mp hy with rfl | hy
  ·exact hxj
  ·obtain ⟨k,hk,rfl⟩:=GC.mp hy;rw [Hf,Ej] at hk;rw [List.getElem_drop,Ho];have:=c _ (show SetTable.below xs j+k<xs.size by omega) (Nat.le_add_right _ _);omega
structure TbHt (t:SetTable):Prop where
 nd:t.dummies=#[]
 up:t.plain=true->Rise t.place
theorem dN (j:Nat):SetTable.has #[] j=false:=by simp [SetTable.has]
theorem eX {t:SetTable} (h:t.dummies=#[]) (f:Nat->Int) (x:Int):∀ (n:Nat) (p:SetTable.Probe) (j:Nat) (d:Option Nat),p.dummy=none->SetTable.probe.go t f x n p=some (.empty j d)->d=none/\t.slot j=.empty
 | 0,p,j,d,_,e=>by unfold SetTable.probe.go at e;cases e
 | n+1,p,j,d,pd,e=>by
  unfold SetTable.probe.go at e;have ad:∀ q:SetTable.Probe,(t.advance q).dummy=q.dummy:=λq=>by
   unfold SetTable.advance;split <;> rfl
  cases hs:t.slot p.j with
  | empty=>
   rw [hs] at e;simp only [Ia,SetTable.Met.empty.injEq] at e;obtain ⟨rfl,rfl⟩:=e;exact ⟨pd,hs⟩
  | dummy=>
   unfold SetTable.slot at hs;rw [h] at hs;dsimp only at hs;split at hs
   ·cases hs
   ·rw [dN] at hs;simp at hs
  | live i=>
   rw [hs] at e;dsimp only at e;split at e
   ·cases e
   ·exact eX h f x n _ j d ((ad p).trans pd) e
theorem sK {t:SetTable} (h:t.dummies=#[]) {x:Int} {j:Nat} {b:Bool} (e:t.freeSlot x=some (j,b)):t.slot j=.empty:=by
 unfold SetTable.freeSlot SetTable.probe at e;split at e
 ·rename_i c d a;obtain ⟨rfl,q⟩:=eX h _ _ _ _ _ _ rfl a;simp at e;rw [<- e.1];exact q
 ·cases e
theorem uU {t:SetTable} {j:Nat} (h:t.slot j=.empty):t.place[SetTable.below t.place j]?≠some j:=λe=>by
 unfold SetTable.slot at h;dsimp only at h;rw [e] at h;simp at h
theorem TbHt.stand (t:SetTable) (n:Nat):TbHt (t.standIn n):=⟨rfl,λh=>by cases h⟩
theorem TbHt.put (h:TbHt t) {j:Nat} (e:t.slot j=.empty):TbHt (t.put j).1:=by
 refine ⟨?_,λp=>?_⟩
 ·unfold SetTable.put;rw [h.nd,dN];rfl
 ·exact dO (h.up p) (uU e)
theorem TbHt.lay (h:TbHt t) (es:Array (Int×Value)) (x:Int) (v:Value):TbHt (layNew t es x v).2.1/\(layNew t es x v).2.1.led=t.led:=by
 unfold layNew;split
 ·rename_i a wd e;have b:=h.put (sK h.nd e);dsimp only;unfold SetTable.orStandIn;split
  ·exact ⟨b,rfl⟩
  ·exact ⟨.stand _ _,rfl⟩
 ·exact ⟨.stand _ _,rfl⟩
theorem gA (n:Nat) (f:Nat->Option (Nat×Nat)) (hf:∀ j p,f j=some p->p.1=j):(((List.range n).filterMap f).map (·.1)).Pairwise (· < ·):=by
 rw [Ib];refine List.Pairwise.filterMap f (R:=λa b=>a<b) (λa b hab x hx y hy=>?_) List.pairwise_lt_range;rw [hf a x hx,hf b y hy];exact hab
theorem TbHt.relay (h:TbHt t) (es:Array (Int×Value)) (m:Nat):TbHt (relayAll t es m).2.1/\(relayAll t es m).2.1.led=t.led:=by
 unfold relayAll;split
 ·rename_i t' a e;dsimp only;unfold SetTable.relaid SetTable.laid at e;simp only [Option.bind_eq_bind,EF,Option.pure_def,Ia,IT] at e;obtain ⟨b,_,rfl,_⟩:=e;split
  ·refine ⟨⟨rfl,λ_=>?_⟩,rfl⟩;refine gA _ _ λj p q=>?_;rw [Gk] at q;obtain ⟨_,_,rfl⟩:=q;rfl
  ·exact ⟨.stand _ _,rfl⟩
 ·exact ⟨.stand _ _,rfl⟩
theorem TbHt.unplain (h:TbHt t):TbHt { t with plain:=false }:=⟨h.nd,λz=>by cases z⟩
theorem TbHt.fresh (f m:Nat) (l:Bool):TbHt (SetTable.fresh f m l):=⟨rfl,λ_=>by unfold Rise SetTable.fresh;exact .nil⟩
section
variable {prog:Program} {w:World} {K:Type} [DecidableEq K] {knd:KeyKind prog w K} {A:Around} {E:Value->Shared->Prop} {s:Shared}
def k5 (w:World):Bool:=w.params.followText "set-order"
def jc (knd:KeyKind prog w K) (o:Obj) (S:K->Bool) (n:Nat) (es:Array (Int×Value)) (a:Nat) (t:SetTable):Prop:=
 o.ExactSet/\o.data=.set es a t/\ElemsOf knd es.toList/\(∀ k,S k=true↔∃ e∈es.toList,knd.is k e.2=true)/\es.size<scanBound/\t.fits es.size=true/\es.size=n/\TbHt t/\t.led=!k5 w
def SetL (knd:KeyKind prog w K) (h:Heap) (a:Addr) (S:K->Bool) (n:Nat):Prop:=∃ o es b t,h.get? a=some o/\jc knd o S n es b t
theorem SetL.cg {n b:Nat} (x:SetL knd h a S n) (e:∀ k,S k=S' k) (f:n=b):SetL knd h a S' b:=by
 have:=funext e;grind
theorem SetL.mv {a:Addr} {S:K->Bool} {n:Nat} (x:SetL knd h a S n) (e:∀ o,h.get? a=some o->h'.get? a=some o):SetL knd h' a S n:=
 let ⟨o,es,b,t,c,r⟩:=x;⟨o,es,b,t,e o c,r⟩
theorem dU {h:Heap} {a:Addr} {o:Obj} {es:Array (Int×Value)} {c:Nat} {t:SetTable} (d:h.get? a=some o) (b:o.ExactSet) (hd:o.data=.set es c t) {es':Array (Int×Value)} {t':SetTable} {S':K->Bool}
  (r:ElemsOf knd es'.toList/\(∀ k,S' k=true↔∃ e∈es'.toList,knd.is k e.2=true)/\es'.size<scanBound/\t'.fits es'.size=true/\TbHt t'/\t'.led=!k5 w) :
  ∃ o',(h.update a (Obj.putSet es' t')).get? a=some o'/\jc knd o' S' es'.size es' (c+1) t':=by
 obtain ⟨g,_⟩:=SetOf_store d b hd r.1 r.2.1 r.2.2.1 r.2.2.2.1;exact ⟨_,g,b,rfl,r.1,r.2.1,r.2.2.1,r.2.2.2.1,rfl,r.2.2.2.2⟩
theorem bS {a:Addr} {o:Obj} {es:Array (Int×Value)} {ep:Nat} {t:SetTable} (ho:s.heap.get? a=some o) (hex:o.ExactSet) (hd:o.data=.set es ep t) {g:Bool->Sem Unit}
  (hg:∀ (b:Bool) (u:Shared) (R:Unit->Shared->Prop),R () u->wpAny (model prog w) A (g b) R E u) {es1:Array (Int×Value)} {t2:SetTable} {S':K->Bool}
  (r:ElemsOf knd es1.toList/\(∀ k,S' k=true↔∃ e∈es1.toList,knd.is k e.2=true)/\es1.size<scanBound/\t2.fits es1.size=true/\TbHt t2/\t2.led=!k5 w) {wd:Bool} {R:Option Bool->Shared->Prop}
  (q:∀ h',Heap.SameBut a s.heap h'->SetL knd h' a S' es1.size->R (some true) { s with heap:=h' }) :
  wpAny (model prog w) A (storeSet a es1 t2 >>= λ_=>if (!wd&&t2.tooFull)=true then (g (relayAll t2 es1 (SetTable.grown es1.size)).2.2 >>= λ_=>storeSet a (relayAll t2 es1 (SetTable.grown es1.size)).1 (relayAll t2 es1 (SetTable.grown es1.size)).2.1 >>= λ_=>pure (some true)) else pure (some true)) R E s:=by
 refine Do (wpAny_storeSet_of ho hd ?_ (fits_of_scanBound r.2.2.1));obtain ⟨o1,ho1,x1⟩:=dU (S':=S') ho hex hd r;have b1:=EX s.heap a (Obj.putSet es1 t2);split
 ·have p:=relayAll_perm t2 es1 (SetTable.grown es1.size);have f:=relayAll_fits t2 es1 (SetTable.grown es1.size);have tb:=r.2.2.2.2.1.relay es1 (SetTable.grown es1.size);generalize relayAll t2 es1 (SetTable.grown es1.size)=Z at p f tb ⊢;obtain ⟨es2,t3,gv⟩:=Z;dsimp only at p f tb ⊢;have sz:es2.size=es1.size:=by
   have:=p.length_eq;rwa [Ej,Ej] at this
  have z2:es2.size<scanBound:=sz▸r.2.2.1;refine Do (hg _ _ _ (Do (wpAny_storeSet_of ho1 x1.2.1 ?_ (fits_of_scanBound z2))));obtain ⟨o2,ho2,x2⟩:=dU (S':=S') ho1 x1.1 x1.2.1 (es':=es2) (t':=t3) ⟨r.1.perm p,λk=>(r.2.1 k).trans ⟨λ⟨e,he,z⟩=>⟨e,p.mem_iff.mpr he,z⟩,λ⟨e,he,z⟩=>⟨e,p.mem_iff.mp he,z⟩⟩,z2,f,tb.1,tb.2.trans r.2.2.2.2.2⟩;exact Dp (q _ (b1.trans (EX _ a _)) (SetL.cg ⟨o2,_,_,_,ho2,x2⟩ (λ_=>rfl) sz))
 ·exact Dp (q _ b1 ⟨o1,_,_,_,ho1,x1⟩)
theorem wN {k:K} {x:Value} {Q:Bool->Shared->Prop} (G:knd.is k x=true) (D:x.scannable=true) (X:SetL knd s.heap a S n) (I:n+1<scanBound)
  (q:∀ h',Heap.SameBut a s.heap h'->SetL knd h' a (λm=>S m||decide (m=k)) (if S k then n else n+1)->Q (!S k) { s with heap:=h' }):wpAny (model prog w) A (setAddHashed a x (knd.hash k)) Q E s:=by
 obtain ⟨o,es,W,t,i,h,hd,c,r,H,F,O,J,T⟩:=X;refine Ep (Do (Ga i hd F ?_));dsimp only;rw [byScan_of D H c,if_pos rfl];refine Do (Do (Ge (Do (wpAny_setScan_of G i hd F c ?_))));cases M:List.findIdx? (λe=>knd.is k e.2) es.toList with
 | some j=>
  obtain ⟨hj,B,_⟩:=ER.mp M;have g:=(r k).mpr ⟨es.toList[j],Em hj,B⟩;refine Dp (Dp ?_);have z:=q s.heap (Heap.SameBut.refl a s.heap) (SetL.cg ⟨o,es,W,t,i,h,hd,c,r,H,F,O,J,T⟩ (λm=>by
   by_cases e:m=k
   ·subst e;rw [g];rfl
   ·simp [e]) (by rw [if_pos g]))
  rw [g] at z;exact z
 | none=>
  have Z:S k=false:=by
   cases V:S k with
   | false=>rfl
   | true=>
    obtain ⟨e,Y,B⟩:=(r k).mp V;have:=HW.mp M e Y;rw [B] at this;cases this
  have gw:∀ (b:Bool) (u:Shared) (R:Unit->Shared->Prop),R () u->wpAny (model prog w) A (match b with | true=>rule "set.scan.the-table-gave-way" | false=>pure ()) R E u:=λb u R z=>by
   cases b
   ·exact Dp z
   ·exact Ge z
  have p:=layNew_perm t es (knd.hash k) x;have f:=layNew_fits t es (knd.hash k) x;have l:=J.lay es (knd.hash k) x;generalize layNew t es (knd.hash k) x=L at p f l ⊢;obtain ⟨C,t1,wd,U⟩:=L;dsimp only at p f l ⊢;rw [Ic] at p;have v:C.size=n+1:=by
   have:=p.length_eq;rw [Es,Ej,Ej,O] at this;exact this
  have d:=λh' z y=>by
   have:=q h' z;rw [Z] at this;exact this (SetL.cg y (λ_=>rfl) v)
  have N:=(c.push G D).perm p;have P:=mem_push_iff G r p;refine Do (gw _ _ _ ?_);split
  ·rw [hashByValue_scannable 8 D];refine Do (Dp ?_);refine bS i h hd (λb u R z=>by cases b <;> first | exact Dp z | exact Ge z) ⟨N,P,by rw [v];exact I,?_,?_,?_⟩ λh' z y=>Dp (d h' z y)
   ·split
    ·exact f
    ·exact SetTable.fits_plain_off f
   ·split
    ·exact l.1
    ·exact l.1.unplain
   ·grind
  ·refine Do (Dp ?_);rw [if_pos rfl];exact bS i h hd (λb u R z=>by cases b <;> first | exact Dp z | exact Ge z) ⟨N,P,by rw [v];exact I,f,l.1,l.2.trans T⟩ λh' z y=>Dp (d h' z y)
end
section
variable {K:Type} [DecidableEq K]
def metKHt (f:Nat->K):Nat->List K
 | 0=>[]
 | i+1=>if f i∈metKHt f i then metKHt f i else metKHt f i++[f i]
theorem fY (f:Nat->K) (i:Nat):metKHt f (i+1)=if f i∈metKHt f i then metKHt f i else metKHt f i++[f i]:=rfl
theorem jA (f:Nat->K):∀ i,(metKHt f i).length<=i
 | 0=>Dz _
 | i+1=>by
  have:=jA f i;unfold metKHt;split
  ·omega
  ·rw [Es];show _+1<=_;omega
theorem metK_nd (f:Nat->K):∀ i,(metKHt f i).Nodup
 | 0=>.nil
 | i+1=>by
  have:=metK_nd f i;unfold metKHt;split
  ·exact this
  ·rename_i c;rw [List.nodup_append];exact ⟨this,by simp,λa ha b hb e=>c (by rw [EJ] at hb;rw [<- hb,<- e];exact ha)⟩
theorem metK_mem (f:Nat->K) (k:K):∀ i,k∈metKHt f i↔∃ j,j<i/\f j=k
 | 0=>by simp [metKHt]
 | i+1=>by
  have ih:=metK_mem f k i;have e:k∈metKHt f (i+1)↔(k∈metKHt f i\/k=f i):=by
   rw [fY];split
   ·rename_i c;exact ⟨.inl,λz=>z.elim id λz=>z▸c⟩
   ·rw [FG,EJ]
  rw [e,ih];constructor
  ·rintro (⟨j,a,b⟩ | rfl)
   ·exact ⟨j,by omega,b⟩
   ·exact ⟨i,by omega,rfl⟩
  ·rintro ⟨j,a,b⟩;rcases IE j i with u | u
   ·exact .inl ⟨j,u,b⟩
   ·have:j=i:=by omega
    subst this;exact .inr b.symm
end
section
variable {prog:Program} {w:World} {K:Type} [DecidableEq K] {knd:KeyKind prog w K} {A:Around} {R:Result->Shared->Prop} {I:Addr} {fp wr:List Addr} {G:Array GenState->Array GenState->Prop} {n:Nat} {P:Nat->Value->Prop} {St:Nat->Shared->Prop}
def N0 (l:List K) (k:K):Bool:=decide (k∈l)
theorem wJ (W:WalksS prog w A.in1 I fp wr G n P St) (B:Addr) (nB:B∉fp) (f:Nat->K) (hf:∀ i v,P i v->knd.is (f i) v=true/\v.scannable=true) (hb:n+1<scanBound) :
  ∀ (k i:Nat) (s:Shared),n-i=k->i<=n->St i s->SetL knd s.heap B (N0 (metKHt f i)) (metKHt f i).length ->
   (∀ z,Moved (B :: wr) G s z->SetL knd z.heap B (N0 (metKHt f n)) (metKHt f n).length->R (.ok (.ret .none)) z)->codeAny (model prog w) A (.builtin "set.update.loop" ⟨[.ref B,.ref I],[]⟩) R s:=by
 have nw:B∉wr:=λh=>nB (W.sub _ h);have sb:∀ b∈wr,b∈B :: wr:=λb hb=>Ed _ hb;intro k;induction k with
 | zero=>
  intro i s e1 e2 st hS q;obtain rfl:i=n:=by omega
  refine Fy GM ?_;rw [Gb FJ _];show wpAny _ A.in1 (pyNext (.ref I) >>= _) _ _ s;refine Do (W.done s _ _ st λz m=>?_);show wpAny _ A.in1 (ret Value.none) _ _ z;exact Dp (q z (m.mono sb) (hS.mv λo=>m.heap B o nw))
 | succ k ih=>
  intro i s e1 e2 st hS q;have lt:i<n:=by omega
  refine Fy GM ?_;rw [Gb FJ _];show wpAny _ A.in1 (pyNext (.ref I) >>= _) _ _ s;refine Do (W.item i s _ _ lt st λv z hP st2 m=>?_);obtain ⟨h1,h2⟩:=hf i v hP;have hS2:=hS.mv λo=>m.heap B o nw;show wpAny _ A.in1 (holding [v] (setAdd B v) >>= _) _ _ z;unfold setAdd;refine Do (Ep (Ep (Do (knd.pyHash h1 ?_))));refine wN (s:={ z with toks:=z.toks+1 }) h1 h2 hS2 (by have:=jA f i;omega) λg sm hS3=>?_;have hS4:SetL knd g B (N0 (metKHt f (i+1))) (metKHt f (i+1)).length:=hS3.cg (λk'=>by
   rw [fY];unfold N0;by_cases c:f i∈metKHt f i
   ·rw [if_pos c];by_cases d:k'=f i
    ·subst d;simp [c]
    ·simp [d]
   ·rw [if_neg c];simp only [FG,EJ,Bool.decide_or]) (by
   rw [fY];unfold N0;by_cases c:f i∈metKHt f i
   ·rw [if_pos (by simpa using c),if_pos c]
   ·rw [if_neg (by simpa using c),if_neg c,Es];rfl)
  refine Dp ⟨Ij FJ _,ih (i+1) _ (by omega) lt (W.frame _ z _ _ st2 (EU _) λb hb o e=>?_) hS4 λz2 m2 hS5=>?_⟩
  ·rw [sm.2 b (λh:b=B=>nB (h▸hb))];exact e
  ·refine q z2 (Moved.trans W.gtrans ((m.mono sb).then_heap (EU _) λb o hb e=>?_) m2) hS5;rw [sm.2 b (λh:b=B=>hb (h▸Ei))];exact e
end
section
variable {prog:Program} {w:World} {K:Type} [DecidableEq K] {knd:KeyKind prog w K} {A:Around} {E:Value->Shared->Prop} {s:Shared}
def J7 (knd:KeyKind prog w K) (f:Nat->K) (n:Nat) (s:Shared) (g:Heap):Prop:=SetL knd g s.heap.objs.size (N0 (metKHt f n)) (metKHt f n).length/\∀ b o,b<s.heap.objs.size->s.heap.get? b=some o->g.get? b=some o
theorem gq (h:Heap):SetL knd (h.push (j8 (!k5 w))) h.objs.size (N0 (metKHt (K:=K) f 0)) 0:=
 ⟨_,#[],0,_,Du _ rfl,⟨rfl,rfl,rfl⟩,rfl,λe a=>by simp at a,λk=>by simp [N0,metKHt],by decide,rfl,rfl,TbHt.fresh _ _ _,rfl⟩
theorem ti {a:Addr} {c:Array Value} (f:Nat->K) (Z:A.handled=none) (u:s.heap.IsTuple a c\/s.heap.IsList a c) (hf:∀ i v,c[i]?=some v->knd.is (f i) v=true/\v.scannable=true) (G:c.size+1<scanBound) (P:Fin->Shared->Prop) (Q:Value->Shared->Prop)
  (h:∀ (g:Heap) (d:Nat),J7 knd f c.size s g->P (.done (.ret .none)) { s with heap:=g,toks:=d }) :
  wpAny (model prog w) A (Builtin.«set.__init__» ⟨[.ref s.heap.objs.size,.ref a],[]⟩) P Q { s with heap:=s.heap.push (j8 (!k5 w)) }:=by
 have gS:(s.heap.push (j8 (!k5 w))).get? s.heap.objs.size=some (j8 (!k5 w)):=Du _ rfl;have E:∀ (k:Obj) (L M:List Addr) (N:Nat->Heap->Prop) (W:Walks prog w A.in1 (s.heap.objs.size+1) L M c.size (λi v=>c[i]?=some v) N),M=[s.heap.objs.size+1]->s.heap.objs.size∉L->N 0 ((s.heap.push (j8 (!k5 w))).push k)->codeAny (model prog w) A (.builtin "set.update.loop" ⟨[.ref s.heap.objs.size,.ref (s.heap.objs.size+1)],[]⟩) (λr z=>∃ g d,r=.ok (.ret .none)/\z={ s with heap:=g,toks:=d }/\J7 knd f c.size s g) { s with heap:=(s.heap.push (j8 (!k5 w))).push k }:=λk L M N W ew nS st=>by
  subst ew;refine wJ (knd:=knd) W.toS s.heap.objs.size nS f hf G (c.size-0) 0 _ (by omega) (Fe _) st ?_ ?_
  ·exact (gq (knd:=knd) (f:=f) s.heap).mv λo e=>Dq _ e
  ·rintro ⟨g,gn,Y,d,X⟩ H hS;have z1:gn=s.gens:=H.gens;have z2:Y=s.drawn:=H.drawn;have z3:X=s.os:=H.os;subst z1 z2 z3;refine ⟨g,d,rfl,rfl,hS,λb o G e=>H.heap b o ?_ (Dq _ (Dq _ e))⟩;simp only [Ea,Fo,Hm,not_or];exact ⟨Dw G,Dw (El G)⟩
 have S:A.in1.handled=none:=by simp [Z]
 have I:(s.heap.push (j8 (!k5 w))).objs.size=s.heap.objs.size+1:=EL _ _;have j:∀ (k:Obj),codeAny (model prog w) A (.builtin "set.update.loop" ⟨[.ref s.heap.objs.size,.ref (s.heap.objs.size+1)],[]⟩) (λr z=>∃ g d,r=.ok (.ret .none)/\z={ s with heap:=g,toks:=d }/\J7 knd f c.size s g) { s with heap:=(s.heap.push (j8 (!k5 w))).push k } ->
   wpAny (model prog w) A (runValue (.builtin "set.update.loop" ⟨[.ref s.heap.objs.size,.ref (s.heap.objs.size+1)],[]⟩) >>= λ_=>pure ()) (λ_ z=>wpAny (model prog w) A (ret Value.none) P Q z) Q { s with heap:=(s.heap.push (j8 (!k5 w))).push k }:=λk z=>by
  refine Do (HN (Ff z λr y ⟨g,d,C,T,e3⟩=>?_));subst C T;exact Dp (Dp (h g d e3))
 rcases u with u | u
 ·obtain ⟨ob,x,q,n,D⟩:=u;obtain ⟨J,m,t,l⟩:=ob;dsimp only at q D;subst q D;have C:=Dq (j8 (!k5 w)) x;have p:(s.heap.push (j8 (!k5 w))).IsTuple a c:=⟨_,C,rfl,n,rfl⟩;have B:=Dv x;have V:=F.sub_tuple_set;have U:=F.sub_tuple_frozenset;have q3:(Value.type "tuple" == Value.type "dict")=false:=by decide
  unfold Builtin.«set.__init__» noKeywords Builtin.Frozenset.updateFrom;generalize R:pyIter=pI
  wp_walk
  subst R;refine FC p ?_;show wpAny _ _ (runValue (.builtin "set.update.loop" ⟨[.ref s.heap.objs.size,.ref (s.heap.push (j8 (!k5 w))).objs.size],[]⟩) >>= λ_=>pure ()) _ _ { s with heap:=(s.heap.push (j8 (!k5 w))).push _ };rw [I];have O:a≠s.heap.objs.size+1:=Dw (El B);refine j _ (E _ _ _ _ (Walks.tuple S _ a O c) rfl ?_ ⟨⟨_,I▸Du _ rfl,rfl,rfl⟩,p.push _⟩);simp only [Ea,Fo,Hm,not_or];exact ⟨Dw (Ek _),FW B⟩
 ·obtain ⟨ob,x,q,n,D⟩:=u;obtain ⟨J,m,t,l⟩:=ob;dsimp only at q D;subst q D;have C:=Dq (j8 (!k5 w)) x;have p:(s.heap.push (j8 (!k5 w))).IsList a c:=⟨_,C,rfl,n,rfl⟩;have B:=Dv x;have V:=PySem.F.sub_list_set;have U:=PySem.F.sub_list_frozenset;have q3:(Value.type "list" == Value.type "dict")=false:=by decide
  unfold Builtin.«set.__init__» noKeywords Builtin.Frozenset.updateFrom;generalize R:pyIter=pI
  wp_walk
  subst R;refine Gx p ?_;show wpAny _ _ (runValue (.builtin "set.update.loop" ⟨[.ref s.heap.objs.size,.ref (s.heap.push (j8 (!k5 w))).objs.size],[]⟩) >>= λ_=>pure ()) _ _ { s with heap:=(s.heap.push (j8 (!k5 w))).push _ };rw [I];have O:a≠s.heap.objs.size+1:=Dw (El B);refine j _ (E _ _ _ _ (Walks.list S _ a O c) rfl ?_ ⟨⟨_,I▸Du _ rfl,rfl,rfl⟩,p.push _⟩);simp only [Ea,Fo,Hm,not_or];exact ⟨Dw (Ek _),FW B⟩
theorem yU (a:Value) {Q:Value->Shared->Prop} (h:Q (.ref s.heap.objs.size) { s with heap:=s.heap.push (j8 (!k5 w)) }):codeAny (model prog w) A (.call (.builtin "set.__new__") ⟨[.type "set",a],[]⟩) (wants Q E) s:=by
 refine GS ?_;show wpAny _ A.in1 (checkBuiltinCall "set.__new__" ⟨[.type "set",a],[]⟩ >>= λ_=>again (.builtin "set.__new__" ⟨[.type "set",a],[]⟩)) _ _ s;refine Do (Hk (PySem.F.newCall_set_1 a) (Dp ⟨Ij PySem.F.plain_set_new _,Fy PySem.F.entry_set_new ?_⟩));rw [Gb PySem.F.plain_set_new _];unfold Builtin.«set.__new__» Builtin.Frozenset.newClass;have q:=sub_set_self;obtain ⟨e,g,d,c,b⟩:=s;dsimp only
 wp_walk
 refine GG (Dp ?_);dsimp only;simp only [newObj];exact Do (IN (Dp (Dp h)))
theorem callLHt {a:Addr} {d:Array Value} (f:Nat->K) {Q:Value->Shared->Prop} (o:A.handled=none) (l:s.heap.IsTuple a d\/s.heap.IsList a d) (m:∀ i v,d[i]?=some v->knd.is (f i) v=true/\v.scannable=true) (k:d.size+1<scanBound)
  (h:∀ (g:Heap) (e:Nat),J7 knd f d.size s g->Q (.ref s.heap.objs.size) { s with heap:=g,toks:=e }):wpAny (model prog w) A (call (.type "set") [.ref a]) Q E s:=by
 obtain ⟨c,y,u⟩:=PySem.F.called_set.mro;have m2:=PySem.F.called_set.made;have B:=PySem.F.called_set.sub;refine Gc (GS ?_);show wpAny _ _ (callAny (.type "set") _) _ _ _;refine Dp ⟨Code.quiet_builtin _ (by decide +kernel),Fy Iw ?_⟩;rw [Around.under_plain (weight_type_call_type "set" [.ref a] []) rfl];have q:=PySem.F.called_set.notType;have C:=PySem.F.called_set.canCreate;have t:=PySem.F.typeCall_set_1 (.ref a)
 repeat (any_goals (first | assumption | wp_step))
 refine Ff (yU (.ref a) (E:=E) (Q:=λr z=>r=.ref s.heap.objs.size/\z={ s with heap:=s.heap.push (j8 (!k5 w)) }) ⟨rfl,rfl⟩) λr z b=>?_
 match r,b with
 | .error _,b=>exact b
 | .ok .next,b=>exact b.elim
 | .ok .brk,b=>exact b.elim
 | .ok .cont,b=>exact b.elim
 | .ok (.ret r),b=>
  obtain ⟨rfl,rfl⟩:=b;have n:Shared.TypeIs { s with heap:=s.heap.push (j8 (!k5 w)) } (.ref s.heap.objs.size) "set":=⟨_,Du _ rfl,rfl⟩;have p:=PySem.F.called_set.init.lookup;have x:=PySem.F.called_set.init.bind (.ref s.heap.objs.size)
  repeat (any_goals (first | assumption | wp_step))
  refine Ff (FZ (R:=wants (λr z=>r=.none/\∃ g e,z={ s with heap:=g,toks:=e }/\J7 knd f d.size s g) E) PySem.F.called_set.init.plain PySem.F.entry_set_init (check_set_init_1 n ?_)) λr z b=>?_
  ·exact ti f (by simp [o]) l m k _ _ λg e j=>⟨rfl,g,e,rfl,j⟩
  ·match r,b with
   | .error _,b=>exact b
   | .ok .next,b=>exact b.elim
   | .ok .brk,b=>exact b.elim
   | .ok .cont,b=>exact b.elim
   | .ok (.ret r),b=>
    obtain ⟨rfl,g,e,rfl,j⟩:=b
    repeat (any_goals (first | assumption | wp_step))
    exact h _ _ j
end
theorem si_slot:Slot "set_iterator" "__next__" "set_iterator.__next__":=by
 refine .of (owner:="set_iterator") (n:="__next__") ?_ (by decide +kernel) (by decide +kernel) (by decide +kernel) ?_ ?_
 ·rw [typeLookup_type,builtinLookup_eq_fast];kernel_rfl
 ·first | exact .inl (by decide +kernel) | exact .inr (by decide +kernel)
 ·rw [IP];kernel_rfl
theorem S8:entryFor table "set_iterator.__next__" = some Builtin.«set_iterator.__next__»:=entryFor_of_tree (by kernel_rfl)
theorem dW:Manifest.owners.lookup (String.ofList ['r','o','t','a','r','e','t','i','_','t','e','s'].reverse)=some Manifest.sig_set_iterator:=by kernel_rfl
theorem X8 (a:Value):argsOk "set_iterator.__next__" ⟨[a],[]⟩:=by
 unfold argsOk;rw [signature?_of (n:=['_','_','t','x','e','n','_','_']) (by kernel_rfl) dW];kernel_rfl
theorem mN:entryFor table "set.__iter__" = some Builtin.«frozenset.__iter__»:=entryFor_alias (id':="frozenset.__iter__") (by kernel_rfl) rfl (by decide +kernel) (by kernel_rfl)
def SIt (h:Heap) (I a:Addr) (first:Value) (i n b:Nat):Prop:=∃ o,h.get? I=some o/\o.cls=.type "set_iterator"/\o.data=.fields #[first,.int i 0,.ref a,.int n 0,.int b 0]
theorem SIt.ty {s:Shared} {I a:Addr} {first:Value} {i n b:Nat} (x:SIt s.heap I a first i n b):s.TypeIs (.ref I) "set_iterator":=let ⟨o,d,c,_⟩:=x;⟨o,d,c⟩
section
variable {prog:Program} {w:World} {A:Around} {E:Value->Shared->Prop} {s:Shared}
theorem gh {f g i n c:Nat} {x:Value} {Q:Option Value->Shared->Prop} (b:SIt s.heap I a (.int (f:Nat) 0) i n c)
  (p:s.heap.get? a=some o) (hd:o.data=.set es c t) (q:t.fits es.size=true) (l:es.size=n)
  (hs:∀ (B:Around) (R:Option (Value×Nat)->Shared->Prop) (E:Value->Shared->Prop),R (some (x,g)) s->wpAny (model prog w) B (setNext a f i c) R E s)
  (r:∀ h',SIt h' I a (.int (g:Nat) 0) (i+1) n c->Heap.SameBut I s.heap h'->Q (some x) { s with heap:=h' }):wpAny (model prog w) A (pyNext (.ref I)) Q E s:=by
 obtain ⟨u,h,m,d⟩:=id b;refine Do (Gp (EY b.ty si_slot (EO si_slot b.ty S8 ?_ (X8 _))));refine Do (Dp (Do (HQ h d ?_)));refine Do (Gg p hd q ?_);rw [if_neg (by rw [l];simp)];refine Do (hs _ _ _ ?_);refine Do (Fu h d (by simp) ?_);have e:=Obj.data_mapFields d (·.setIfInBounds 0 (rawInt g));have k:=EB (Obj.mapFields (·.setIfInBounds 0 (rawInt g))) h (Obj.isFreed_of_fields e);refine Do (Fu k e (by simp) ?_);have j:=Obj.data_mapFields e (·.setIfInBounds 1 (rawInt ((i:Int)+1)));refine Dp ⟨_,rfl,Dp (r _ ⟨_,EB _ k (Obj.isFreed_of_fields j),?_,?_⟩ ((EX ..).trans (EX ..)))⟩
 ·exact (Obj.cls_mapFields ..).trans ((Obj.cls_mapFields ..).trans m)
 ·rw [j];simp [rawInt]
theorem bj {F:Value->Shared->Prop} (b:A.handled=none) (d:s.heap.get? I=some o) (a:o.data=.fields vs) (c:k<vs.size)
  (q:∀ (e:Addr) (h':Heap),Heap.ExtBut I s.heap h'->Shared.TypeIs { s with heap:=h' } (.ref e) "StopIteration"->F (.ref e) { s with heap:=h' }) :
  wpAny (model prog w) A (setField (.ref I) k u >>= λ_=>(newExc (.type "StopIteration") [] >>= λe=>raiseNew e:Sem Fin)) P F s:=by
 refine Do (Fu d a c (Do ?_));refine Do (Ez ?_ (by size_fits));refine Do (Hk (by first | rfl | (simp;rfl)) (Ez ?_ (by size_fits)));refine Do (wpAny_handled ?_);rw [b];refine Do (Dp (wpAny_throw ?_));exact q _ _ (((EX ..).extBut.push _).push _) ⟨_,Du _ rfl,rfl⟩
theorem kN {f i n c:Nat} {Q:Option Value->Shared->Prop} (l:A.handled=none) (b:SIt s.heap I a (.int (f:Nat) 0) i n c)
  (j:s.heap.get? a=some o) (hd:o.data=.set es c t) (m:t.fits es.size=true) (h:es.size=n)
  (hs:∀ (B:Around) (R:Option (Value×Nat)->Shared->Prop) (E:Value->Shared->Prop),R none s->wpAny (model prog w) B (setNext a f i c) R E s)
  (p:∀ h',Heap.ExtBut I s.heap h'->Q none { s with heap:=h' }):wpAny (model prog w) A (pyNext (.ref I)) Q E s:=by
 obtain ⟨q,g,r,d⟩:=id b;refine Do (Gp (EY b.ty si_slot (EO si_slot b.ty S8 ?_ (X8 _))));refine Do (Dp (Do (HQ g d ?_)));refine Do (Gg j hd m ?_);rw [if_neg (by rw [h];simp)];refine Do (hs _ _ _ ?_);refine bj (by simp [l]) g d (by simp) λe h' x k=>?_;exact Do (Ix k isSubtype_stop (Dp (p _ x)))
theorem gx {es:Array (Int×Value)} {t:SetTable} {ps:List Nat} {c i n f p:Nat} {z:Int} {x:Value} {Q:Option Value->Shared->Prop} (b:SIt s.heap I a (.ref tp) i n f)
  (h:s.heap.get? a=some o) (hd:o.data=.set es f t) (l:t.fits es.size=true) (r:es.size=n) (v:s.heap.get? tp=some ot) (e:ot.data=.seq (ps.map λ(k:Nat)=>rawInt (k:Int)).toArray c)
  (q:ps[i]?=some p) (u:es[p]?=some (z,x))
  (B:∀ h',SIt h' I a (.ref tp) (i+1) n f->Heap.SameBut I s.heap h'->Q (some x) { s with heap:=h' }):wpAny (model prog w) A (pyNext (.ref I)) Q E s:=by
 obtain ⟨C,g,y,d⟩:=id b;refine Do (Gp (EY b.ty si_slot (EO si_slot b.ty S8 ?_ (X8 _))));refine Do (Dp (Do (HQ g d ?_)));refine Do (Gg h hd l ?_);rw [if_neg (by rw [r];simp)];refine Do (HL v e ?_);have m:(ps.map λ(k:Nat)=>rawInt (k:Int)).toArray[((i:Int).toNat:Nat)]?=some (rawInt (p:Int)):=by
  rw [Fg,FQ,Eo,q];rfl
 dsimp only;rw [m];refine Do (Do (Ga h hd l ?_));dsimp only;rw [if_neg (by simp),Fg,u];refine Dp ?_;refine Do (Fu g d (by simp) ?_);have j:=Obj.data_mapFields d (·.setIfInBounds 1 (rawInt ((i:Int)+1)));refine Dp ⟨_,rfl,Dp (B _ ⟨_,EB _ g (Obj.isFreed_of_fields j),?_,?_⟩ (EX ..))⟩
 ·exact (Obj.cls_mapFields ..).trans y
 ·rw [j];simp [rawInt]
theorem jn {es:Array (Int×Value)} {t:SetTable} {ps:List Nat} {c i n l:Nat} {Q:Option Value->Shared->Prop} (y:A.handled=none) (d:SIt s.heap I a (.ref tp) i n l)
  (v:s.heap.get? a=some o) (hd:o.data=.set es l t) (F:t.fits es.size=true) (D:es.size=n) (p:s.heap.get? tp=some ot) (h:ot.data=.seq (ps.map λ(k:Nat)=>rawInt (k:Int)).toArray c)
  (C:ps[i]?=none)
  (z:∀ h',Heap.ExtBut I s.heap h'->Q none { s with heap:=h' }):wpAny (model prog w) A (pyNext (.ref I)) Q E s:=by
 obtain ⟨H,f,G,g⟩:=id d;refine Do (Gp (EY d.ty si_slot (EO si_slot d.ty S8 ?_ (X8 _))));refine Do (Dp (Do (HQ f g ?_)));refine Do (Gg v hd F ?_);rw [if_neg (by rw [D];simp)];refine Do (HL p h ?_);have u:(ps.map λ(k:Nat)=>rawInt (k:Int)).toArray[((i:Int).toNat:Nat)]?=none:=by
  rw [Fg,FQ,Eo,C];rfl
 dsimp only;rw [u];refine Do (Fu f g (by simp) ?_);have j:=Obj.data_mapFields g (·.setIfInBounds 0 (rawInt 0));have B:=EB (Obj.mapFields (·.setIfInBounds 0 (rawInt 0))) f (Obj.isFreed_of_fields j);refine bj (by simp [y]) B j (by simp) λe h' x r=>?_;exact Do (Ix r isSubtype_stop (Dp (z _ λb ob m q=>x b ob m ((EX s.heap I _).extBut b ob m q))))
end
theorem jE:Slot "set_iterator" "__iter__" "set_iterator.__iter__":=by
 refine .of (owner:="set_iterator") (n:="__iter__") ?_ (by decide +kernel) (by decide +kernel) (by decide +kernel) ?_ ?_
 ·rw [typeLookup_type,builtinLookup_eq_fast];kernel_rfl
 ·first | exact .inl (by decide +kernel) | exact .inr (by decide +kernel)
 ·rw [IP];kernel_rfl
theorem pF:entryFor table "set_iterator.__iter__" = some Builtin.«dict_keyiterator.__iter__»:=entryFor_alias (id':="dict_keyiterator.__iter__") (by kernel_rfl) rfl (by decide +kernel) (by kernel_rfl)
theorem rK (a:Value):argsOk "set_iterator.__iter__" ⟨[a],[]⟩:=by
 unfold argsOk;rw [signature?_of (n:=['_','_','r','e','t','i','_','_']) (by kernel_rfl) dW];kernel_rfl
theorem V0 {a:Type}:∀ (l:List a) (i:Nat) (h:i<l.length),(l[i] :: l.eraseIdx i).Perm l
 | [],i,h=>by cases h
 | x :: l,0,h=>.refl _
 | x :: l,i+1,h=>by
  have z:i<l.length:=Nat.lt_of_succ_lt_succ h;exact (List.Perm.swap x l[i] (l.eraseIdx i)).trans ((V0 l i z).cons x)
theorem ip (f:Nat->Nat):∀ (n k:Nat) (l:List α) (out:Array α),n=l.length->(pickOrder.go f n k l out).toList.Perm (out.toList++l)
 | 0,k,l,out,e=>by
  have:l=[]:=GX.mp e.symm;subst this;unfold pickOrder.go;simp
 | n+1,k,l,out,e=>by
  unfold pickOrder.go;have z:f k % l.length<l.length:=Nat.mod_lt _ (by omega);rw [Ds z];refine (ip f n (k+1) _ _ (by rw [List.length_eraseIdx];split <;> omega)).trans ?_;rw [Ic,HZ];refine List.Perm.append_left _ ?_;exact V0 l _ z
theorem kh {α:Type} (f:Nat->Nat) (xs:Array α):(pickOrder f xs).toList.Perm xs.toList:=by
 have:=ip f xs.size 0 xs.toList #[] (by simp);unfold pickOrder;simpa using this
section
variable {prog:Program} {w:World} {A:Around} {E:Value->Shared->Prop} {s:Shared}
theorem BR {n:Nat} {Q:Nat->Shared->Prop} (a:n≠0) (q:∀ k d,k<n->Q k { s with drawn:=d }):wpAny (model prog w) A (choose src n) Q E s:=
 λ_ _ _=>⟨a,q _ _ (Nat.mod_lt _ (Nat.pos_of_ne_zero a))⟩
theorem bf:∀ (n:Nat) (l:List α) (s:Shared) (Q:List α->Shared->Prop),n=l.length->(∀ ys d,ys.Perm l->Q ys { s with drawn:=d })->wpAny (model prog w) A (drawOrder n l) Q E s
 | 0,l,s,Q,e,q=>by
  have:l=[]:=GX.mp e.symm;subst this;exact Dp (q [] s.drawn (.refl _))
 | n+1,[],s,Q,e,q=>by cases e
 | n+1,x :: l,s,Q,e,q=>by
  refine Do (BR (by simp) λk d a=>?_);rw [Ds a];refine Do (bf n _ _ _ (by rw [List.length_eraseIdx,if_pos a];simp at e ⊢;omega) λys b p=>Dp ?_);exact q _ b ((p.cons _).trans (V0 (x :: l) k a))
variable {a:Addr} {o:Obj} {es:Array (Int×Value)} {t:SetTable} {ep:Nat}
theorem text_atHt (a:k5 w=true):wpAny (model prog w) A setsByText (λb z=>b=true/\s=z) E s:=Do (GG (Dp ⟨a,rfl⟩))
theorem text_noHt (a:k5 w=false):wpAny (model prog w) A setsByText (λb z=>b=false/\s=z) E s:=Do (GG (Dp ⟨a,rfl⟩))
theorem jK {f i:Nat} {R:Option (Value×Nat)->Shared->Prop} (h:k5 w=true) (g:s.heap.get? a=some o) (hd:o.data=.set es ep t) (j:t.fits es.size=true)
  (q:R (((pickOrder (w.params.setOrder a ep) es)[i]?).map λe=>(e.2,f)) s):wpAny (model prog w) A (setNext a f i ep) R E s:=by
 refine Do (Ga g hd j (Do (Ef (text_atHt h) (λb z ⟨c,d⟩=>?_) λ_ _ x=>x)));subst c d;rw [if_pos rfl];rw [if_neg (by simp)];refine Do (Do (Ga g hd j (Do (Ef (text_atHt h) (λb z ⟨c,d⟩=>?_) λ_ _ x=>x))));subst c d;rw [if_pos rfl];exact Do (GG (Dp (Dp q)))
theorem nz {R:Option (Value×Nat)->Shared->Prop} (d:k5 w=false) (c:s.heap.get? a=some o) (hd:o.data=.set es ep t) (h:t.fits es.size=true) (k:t.led=true) (g:(!t.plain&&decide (es.size > 1))=false)
  (q:R (match es[SetTable.below t.place f]?,t.place[SetTable.below t.place f]? with | some (_,x),some j=>some (x,j+1) | _,_=>none) s):wpAny (model prog w) A (setNext a f i ep) R E s:=by
 refine Do (Ga c hd h (Do (Ef (text_noHt d) (λb z ⟨e,l⟩=>?_) λ_ _ x=>x)));subst e l;rw [if_neg Ec];show wpAny _ _ (if (!t.plain&&decide (es.size > 1))=true then _ else _) _ _ _;rw [g,if_neg Ec];refine Do (?_:wpAny _ _ (if (!t.led&&!es.isEmpty)=true then _ else _) _ _ _);rw [k,if_neg (by simp)];exact Dp (Dp q)
end
section
variable {prog:Program} {w:World} {A:Around} {E:Value->Shared->Prop} {s:Shared} {K:Type} [DecidableEq K] {knd:KeyKind prog w K} {S:K->Bool} {n:Nat}
variable {a:Addr} {o:Obj} {es:Array (Int×Value)} {t:SetTable} {ep:Nat}
theorem SIt.mv {I a:Addr} {first:Value} {i n b:Nat} (x:SIt h I a first i n b) (e:∀ o,h.get? I=some o->h'.get? I=some o):SIt h' I a first i n b:=let ⟨o,c,r⟩:=x;⟨o,e o c,r⟩
theorem hV {I a:Addr} {first:Value} {i n b:Nat} {Q:Value->Shared->Prop} (x:SIt s.heap I a first i n b) (q:Q (.ref I) s):wpAny (model prog w) A (pyIter (.ref I)) Q E s:=by
 refine wpAny_pyIter_slot x.ty jE (EO jE x.ty pF ?_ (rK _));exact Dp ⟨_,rfl,"set_iterator",_,x.ty,si_slot.lookup,q⟩
def mU (t:SetTable):Nat->Nat
 | 0=>0
 | i+1=>t.place.getD i 0+1
theorem gV (l:A.handled=none) {I:Addr} (m:a≠I) (x:jc knd o S n es ep t) (f:Nat->Nat) (vs:List Value) (u:vs.length=n)
  (p:∀ i (B:Around) (s:Shared) (R:Option (Value×Nat)->Shared->Prop) (E:Value->Shared->Prop) v,s.heap.get? a=some o->vs[i]?=some v->R (some (v,f (i+1))) s->wpAny (model prog w) B (setNext a (f i) i ep) R E s)
  (k:∀ (B:Around) (s:Shared) (R:Option (Value×Nat)->Shared->Prop) (E:Value->Shared->Prop),s.heap.get? a=some o->R none s->wpAny (model prog w) B (setNext a (f n) n ep) R E s) :
  Walks prog w A I [I,a] [I] n (λi v=>vs[i]?=some v) (λi h=>SIt h I a (.int (f i:Nat) 0) i n ep/\h.get? a=some o) where
 sub:=λb d=>by simp at d;simp [d]
 frame:=λi h h' st g=>⟨st.1.mv λo e=>g I (by simp) o e,g a (by simp) _ st.2⟩
 item:=λi s Q E r st q=>by
  have e:vs[i]?=some vs[i]:=Ds (by omega);refine gh st.1 st.2 x.2.1 x.2.2.2.2.2.1 x.2.2.2.2.2.2.1 (λB R E z=>p i B s R E _ st.2 e z) λh' y j=>q _ h' s.toks e ⟨y,?_⟩ λb ob d z=>j.extBut b ob (λc=>d (by simp [c])) z;exact j.extBut _ _ m st.2
 done:=λs Q E st q=>kN l st.1 st.2 x.2.1 x.2.2.2.2.2.1 x.2.2.2.2.2.2.1 (λB R E z=>k B s R E st.2 z) λh' y=>q h' s.toks λb ob d z=>y b ob (λc=>d (by simp [c])) z
 self:=λ_ _ _ _ st q=>hV st.1 q
theorem gE (G:A.handled=none) {I g:Addr} (F:a≠I) (B:g≠I) (x:jc knd o S n es ep t) {ot:Obj} {c:Nat} (ps:List Nat) (f:ot.data=.seq (ps.map λ(k:Nat)=>rawInt (k:Int)).toArray c) (j:ps.Perm (List.range n)) :
  Walks prog w A I [I,a,g] [I] n (λi v=>(ps.map λp=>(es.toList.map (·.2)).getD p .none)[i]?=some v) (λi h=>SIt h I a (.ref g) i n ep/\h.get? a=some o/\h.get? g=some ot) where
 sub:=λb d=>by simp at d;simp [d]
 frame:=λi h h' st l=>⟨st.1.mv λo e=>l I (by simp) o e,l a (by simp) _ st.2.1,l g (by simp) _ st.2.2⟩
 item:=λi s Q E H st q=>by
  have C:ps.length=n:=by rw [j.length_eq,Fv]
  have u:=x.2.2.2.2.2.2.1;have e:ps[i]?=some (ps[i]'(by omega)):=Ds (by omega);have r:ps[i]'(by omega)<es.size:=by
   have:ps[i]'(by omega)∈List.range n:=j.mem_iff.mp (Em _);rw [u];exact Fp.mp this
  generalize ps[i]'(by omega)=p at e r;have D:=EK r;refine gx st.1 st.2.1 x.2.1 x.2.2.2.2.2.1 u st.2.2 f e D λh' y m=>q _ h' s.toks ?_ ⟨y,m.extBut _ _ F st.2.1,m.extBut _ _ B st.2.2⟩ λb ob d z=>m.extBut b ob (λc=>d (by simp [c])) z;rw [Eo,e];simp [r]
 done:=λs Q E st q=>by
  have C:ps.length=n:=by rw [j.length_eq,Fv]
  exact jn G st.1 st.2.1 x.2.1 x.2.2.2.2.2.1 x.2.2.2.2.2.2.1 st.2.2 f (Et (by omega)) λh' y=>q h' s.toks λb ob d z=>y b ob (λc=>d (by simp [c])) z
 self:=λ_ _ _ _ st q=>hV st.1 q
structure Itd (prog:Program) (w:World) (a:Addr) (es:Array (Int×Value)) (s z:Shared) (I:Addr):Prop where
 keep:∀ b ob,s.heap.get? b=some ob->z.heap.get? b=some ob
 rest:z={ s with heap:=z.heap,drawn:=z.drawn }
 new:s.heap.objs.size<=I
 walk:∃ (vs:List Value) (fp:List Addr) (St:Nat->Heap->Prop),vs.Perm (es.toList.map (·.2))/\(∀ B:Around,B.handled=none->Walks prog w B I fp [I] es.size (λi v=>vs[i]?=some v) St)/\St 0 z.heap/\∀ b∈fp,b=a\/(s.heap.objs.size<=b/\b<z.heap.objs.size)
theorem tH {Q:Value->Shared->Prop} (ho:s.heap.get? a=some o) (x:jc knd o S n es ep t) (q:∀ I z,Itd prog w a es s z I->Q (.ref I) z):wpAny (model prog w) A (pyIter (.ref a)) Q E s:=by
 have ty:s.TypeIs (.ref a) "set":=⟨o,ho,x.1.1⟩;have lt:=Dv ho;obtain ⟨x1,x2,x3,x4,x5,x6,x7,x8,x9⟩:=id x;refine wpAny_pyIter_slot ty PySem.F.slot_set_iter (EO PySem.F.slot_set_iter ty mN ?_ (PySem.F.args_set_iter_1 _));unfold Builtin.«frozenset.__iter__» Builtin.Frozenset.slot0 slotArgs;simp only [List.isEmpty_nil,Bool.not_true,EV,↓reduceIte,LawfulMonad.bind_assoc,List.length_nil,Gw];unfold Builtin.Frozenset.addrOf Builtin.Frozenset.sizeOf setDrawn;refine Do (Dp ?_);dsimp only;refine Do (Dp ?_);refine Do (Do (Gg ho x2 x6 (Dp ?_)));refine Do (Do (Ga ho x2 x6 ?_));have ne:a≠s.heap.objs.size:=Dw lt;have small:es.size<4096:=x5;have int_:∀ (f:Nat->Nat) (vs:List Value),f 0=0->vs.Perm (es.toList.map (·.2)) ->
   (∀ i (B:Around) (s:Shared) (R:Option (Value×Nat)->Shared->Prop) (E:Value->Shared->Prop) v,s.heap.get? a=some o->vs[i]?=some v->R (some (v,f (i+1))) s->wpAny (model prog w) B (setNext a (f i) i ep) R E s) ->
   (∀ (B:Around) (s:Shared) (R:Option (Value×Nat)->Shared->Prop) (E:Value->Shared->Prop),s.heap.get? a=some o->R none s->wpAny (model prog w) B (setNext a (f n) n ep) R E s) ->
   wpAny (model prog w) A.in1 (setEpoch a >>= λk=>newFields "set_iterator" [rawInt 0,rawInt 0,.ref a,rawInt es.size,rawInt k] >>= λv=>ret v) (λfin z=>∃ v,fin=Fin.done (Flow.ret v)/\∃ T r,z.TypeIs v T/\typeLookup (Value.type T) (Str.ofString "__next__")=pure (some r)/\Q v z) E s:=λf vs f0 p h1 h2=>by
  have hn:vs.length=n:=by rw [p.length_eq,Dr,Ej,x7]
  refine Do (wpAny_setEpoch_of ho x2 x6 (Do (Ez (Dp ⟨_,rfl,"set_iterator",_,⟨_,Du _ rfl,rfl⟩,si_slot.lookup,q _ _ ?_⟩) (by size_fits))));refine ⟨λb ob e=>Dq _ e,rfl,Dz _,vs,[s.heap.objs.size,a],_,p,λB hB=>x7▸gV hB ne x f vs hn h1 h2,⟨⟨_,Du _ rfl,rfl,?_⟩,Dq _ ho⟩,λb hb=>?_⟩
  ·rcases Ea.mp hb with rfl | hb
   ·exact .inr ⟨Dz _,by show _<(Heap.push _ _).objs.size;rw [EL];exact Ek _⟩
   ·exact .inl (EJ.mp hb)
  ·rw [f0];rfl
 cases hb:k5 w with
 | true=>
  refine Do (Ef (text_atHt hb) (λb z ⟨e1,e2⟩=>?_) λ_ _ y=>y);subst e1 e2;refine Dp ?_;have p:=kh (w.params.setOrder a ep) es;refine int_ (λ_=>0) ((pickOrder (w.params.setOrder a ep) es).toList.map (·.2)) rfl (p.map _) (λi B s R E v ho hv r=>jK hb ho x2 x6 ?_) λB s R E ho r=>jK hb ho x2 x6 ?_
  ·rw [Eo,EW,Gk] at hv;obtain ⟨e,h1,h2⟩:=hv;rw [h1];show R (some (e.2,0)) s;rw [h2];exact r
  ·have:(pickOrder (w.params.setOrder a ep) es)[n]?=none:=by
    have:=p.length_eq;rw [Ej,Ej,x7] at this;exact Hc (by omega)
   rw [this];exact r
 | false=>
  refine Do (Ef (text_noHt hb) (λb z ⟨e1,e2⟩=>?_) λ_ _ y=>y);subst e1 e2;refine Dp ?_;cases hd:(!t.plain&&decide (es.size > 1)) with
  | false=>
   show wpAny _ _ (if (!false&&(!t.plain&&decide (es.size > 1)))=true then _ else _) _ _ _;rw [hd,if_neg (by simp)];have led:t.led=true:=by rw [x9,hb];rfl
   have fit:t.place.size=es.size:=by
    have:=x6;unfold SetTable.fits at this;simp only [Dt,Gy] at this;exact this.1
   have up:Rise t.place:=by
    cases pl:t.plain with
    | true=>exact x8.up pl
    | false=>
     rw [pl] at hd;have z:t.place.size<=1:=by simp at hd;omega
     unfold Rise;have:t.place.toList.length<=1:=by simpa using z
     match t.place.toList,this with
     | [],_=>exact .nil
     | [y],_=>exact .cons (λ_ h=>by cases h) .nil
   have go:∀ i,i<=n->SetTable.below t.place (mU t i)=i:=λi hi=>by
    cases i with
    | zero=>exact fb up
    | succ i=>
     have z:i<t.place.size:=by omega
     show SetTable.below t.place (t.place.getD i 0+1)=i+1;rw [show t.place.getD i 0=t.place[i] by simp [Array.getD,z]];exact gu up z
   refine int_ (mU t) (es.toList.map (·.2)) rfl (.refl _) (λi B s R E v ho hv r=>nz hb ho x2 x6 led hd ?_) λB s R E ho r=>nz hb ho x2 x6 led hd ?_
   ·rw [Eo,EW,Gk] at hv;obtain ⟨e,h1,h2⟩:=hv;have z:i<es.size:=by
     rcases IE i es.size with u | u
     ·exact u
     ·rw [Hc u] at h1;cases h1
    have z2:i<t.place.size:=by omega
    rw [go i (by omega),h1,EK z2];obtain ⟨e1,e2⟩:=e;dsimp only at h2 ⊢;subst h2;have:mU t (i+1)=t.place[i]+1:=by show t.place.getD i 0+1=_;simp [Array.getD,z2]
    rw [this] at r;exact r
   ·rw [go n (Dz _),Hc (by omega)];exact r
  | true=>
   show wpAny _ _ (if (!false&&(!t.plain&&decide (es.size > 1)))=true then _ else _) _ _ _;rw [hd,if_pos (by simp)];refine Do (bf _ _ _ _ (by simp) λps d p=>?_);have pl:ps.length=es.size:=by rw [p.length_eq,Fv]
   refine Do (IQ (Do (wpAny_setEpoch_of (Dq _ ho) x2 x6 (Do (Ez (Dp ⟨_,rfl,"set_iterator",_,⟨_,Du _ rfl,rfl⟩,si_slot.lookup,q _ _ ?_⟩) (by size_fits))))) (by rw [Dr,pl,Ew];omega));have ez:(s.heap.push { cls:=.type "tuple",data:=.seq (ps.map λ(k:Nat)=>rawInt (k:Int)).toArray }).objs.size=s.heap.objs.size+1:=EL _ _;refine ⟨λb ob e=>Dq _ (Dq _ e),rfl,?g1,ps.map λp=>(es.toList.map (·.2)).getD p .none,[(s.heap.push { cls:=.type "tuple",data:=.seq (ps.map λ(k:Nat)=>rawInt (k:Int)).toArray }).objs.size,a,s.heap.objs.size],_,?g2,λB hB=>x7▸gE hB ?g3 ?g4 x (ot:={ cls:=.type "tuple",data:=.seq (ps.map λ(k:Nat)=>rawInt (k:Int)).toArray }) ps rfl (x7▸p),⟨⟨_,Du _ rfl,rfl,?g5⟩,?g6,?g7⟩,λb hb=>?g8⟩
   case g1=>
    rw [ez];exact EU _
   case g2=>
    refine (p.map _).trans ?_;have:(List.range es.size).map (λp=>(es.toList.map (·.2)).getD p .none)=es.toList.map (·.2):=by
     refine Iu (by simp) λi h1 h2=>?_;simp at h1 h2;simp [h1]
    rw [this]
   case g3=>
    rw [ez];exact Dw (El lt)
   case g4=>
    rw [ez];exact Dw (Ek _)
   case g5=>
    rfl
   case g6=>
    exact Dq _ (Dq _ ho)
   case g7=>
    exact Dq _ (Du _ rfl)
   case g8=>
    have e2:((s.heap.push { cls:=.type "tuple",data:=.seq (ps.map λ(k:Nat)=>rawInt (k:Int)).toArray }).push { cls:=.type "set_iterator",data:=.fields [Value.ref s.heap.objs.size,rawInt 0,Value.ref a,rawInt ↑es.size,rawInt ↑ep].toArray }).objs.size=s.heap.objs.size+1+1:=(EL _ _).trans (congrArg (· + 1) ez);rcases Ea.mp hb with rfl | hb
    ·exact .inr ⟨by rw [ez];exact EU _,by show _<(Heap.push _ _).objs.size;rw [e2,ez];exact Ek _⟩
    ·rcases Ea.mp hb with rfl | hb
     ·exact .inl rfl
     ·rw [EJ.mp hb];exact .inr ⟨Dz _,by show _<(Heap.push _ _).objs.size;rw [e2];exact El (Ek _)⟩
end
section
variable {prog:Program} {w:World} {A:Around} {E:Value->Shared->Prop} {s:Shared} {K:Type} [DecidableEq K] {knd:KeyKind prog w K} {S:K->Bool} {n:Nat}
variable {a:Addr} {o:Obj} {es:Array (Int×Value)} {t:SetTable} {ep:Nat}
theorem fq {Q:List Value->Shared->Prop} (hh:A.handled=none) (ho:s.heap.get? a=some o) (x:jc knd o S n es ep t)
  (q:∀ z vs,(∀ b ob,s.heap.get? b=some ob->z.heap.get? b=some ob)->z={ s with heap:=z.heap,drawn:=z.drawn,toks:=z.toks }->vs.Perm (es.toList.map (·.2))->s.heap.objs.size<z.heap.objs.size->Q vs z):wpAny (model prog w) A (collect (.ref a)) Q E s:=by
 have lt:=Dv ho;have small:es.size<4096:=x.2.2.2.2.1;unfold collect;refine Do (HN (Fy PySem.F.entry_proto_collect ?_));rw [Gb PySem.F.plain_proto_collect _];refine Do (m:=newList []) (Ez (Dp ⟨Ij Iy _,Fy PySem.F.entry_list_iadd ?_⟩));rw [Gb Iy _];have ho1:=Dq ({ cls:=.type "list",data:=.seq ([]:List Value).toArray }:Obj) ho;have ty:Shared.TypeIs { s with heap:=s.heap.push { cls:=.type "list",data:=.seq ([]:List Value).toArray } } (.ref a) "set":=⟨o,ho1,x.1.1⟩;have hL:(s.heap.push { cls:=.type "list",data:=.seq ([]:List Value).toArray }).get? s.heap.objs.size=some { cls:=.type "list",data:=.seq ([]:List Value).toArray }:=Du _ rfl;have hz:(s.heap.push { cls:=.type "list",data:=.seq ([]:List Value).toArray }).objs.size=s.heap.objs.size+1:=EL _ _;show wpAny _ A.in1 (Builtin.List.listExtendWith (.ref s.heap.objs.size) (.ref a) (.ref s.heap.objs.size)) _ _ _;unfold Builtin.List.listExtendWith;have e1:Builtin.List.listSameRef (.ref s.heap.objs.size) (.ref a)=false:=by
  have:s.heap.objs.size≠a:=FW lt;simp [Builtin.List.listSameRef,this]
 refine Do (GD ty ?_);rw [if_neg (by rw [e1];decide)];refine Do (tH ho1 x λI z d=>Do (Ep ?_));have ty2:z.TypeIs (.ref a) "set":=⟨o,d.keep _ _ ho1,x.1.1⟩;unfold Builtin.List.listLengthHint;refine Do (IK ty2 PySem.F.slot_set_len.lookup ?_)
 wp_delta
 refine Do (Ix (b:=true) ty2 (by rw [IP];kernel_rfl) ?_);show wpAny _ A.in1 (typeOf (Value.ref a) >>= _) _ _ _;refine Do (GD ty2 (Dp ?_));rw [if_pos (by decide)];refine Do (Ge ?_);obtain ⟨vs,fp,St,p,W,st,fo⟩:=d.walk;have hL2:=d.keep _ _ hL;refine Do ?_;show wpAny _ A.in1 (updateSeq s.heap.objs.size (·.push .none) >>= λ_=>updateSeq s.heap.objs.size (·.pop)) _ _ _;refine Do (wpAny_updateSeq hL2 rfl ?_);have hL3:=EB (Obj.mapSeq (·.push Value.none)) hL2 rfl;refine wpAny_updateSeq (hz:=by seq_fits) hL3 rfl ?_;have hL4:=EB (Obj.mapSeq (·.pop)) hL3 rfl;have nS:s.heap.objs.size∉fp:=λhm=>by
  rcases fo _ hm with u | u
  ·exact absurd u (FW lt)
  ·have:=u.1;rw [show ({ s with heap:=s.heap.push { cls:=.type "list",data:=.seq ([]:List Value).toArray } }:Shared).heap.objs.size=s.heap.objs.size+1 from hz] at this;omega
 have oth:∀ b ob,b≠s.heap.objs.size->z.heap.get? b=some ob->((z.heap.update s.heap.objs.size (Obj.mapSeq (·.push Value.none))).update s.heap.objs.size (Obj.mapSeq (·.pop))).get? b=some ob:=
  λb ob hb e=>(Fs _ _ (Ne.symm hb)).trans ((Fs _ _ (Ne.symm hb)).trans e)
 have W1:=W A.in1 hh;refine Dp ⟨Ij PySem.F.plain_extend_loop _,codeAny_extend_loopS W1.toS (by rw [Ew];omega) _ nS _ es.size 0 _ _ _ rfl (Fe _) (W1.frame 0 _ _ st λb hb ob e=>oth b ob (λh=>nS (h▸hb)) e) hL4 (ItemsOf.nil _) λy acc c m hL5 hacc=>?_⟩;show wpAny _ A (load s.heap.objs.size >>= _) _ _ y;refine Do (IU hL5 (Dp (q y acc.toList (λb ob e=>?_) ?_ ?_ (Dv hL5))))
 ·have lb:=Dv e;refine m.heap b ob (λhb=>?_) (oth b ob (Dw lb) (d.keep b ob (Dq _ e)));rcases Ea.mp hb with h | h
  ·exact absurd lb (h▸FN _)
  ·have:=d.new;rw [<- EJ.mp h,show ({ s with heap:=s.heap.push { cls:=.type "list",data:=.seq ([]:List Value).toArray } }:Shared).heap.objs.size=s.heap.objs.size+1 from hz] at this;exact absurd (Eg lb (Nat.le_of_succ_le this)) (FN _)
 ·have g1:y.gens=z.gens:=m.gens;have g2:y.os=z.os:=m.os;have r:=d.rest;have r1:z.gens=s.gens:=by rw [r]
  have r2:z.os=s.os:=by rw [r]
  obtain ⟨yh,yg,yd,yt,yo⟩:=y;dsimp only at g1 g2;subst g1 g2;rw [r1,r2]
 ·have:acc.toList=vs:=by
   have ln:vs.length=es.size:=by rw [p.length_eq,Dr,Ej]
   refine Iu (by rw [Ej,hacc.1,ln]) λi h1 h2=>?_;have:vs[i]?=some acc.toList[i]:=hacc.2 i acc.toList[i] (by rw [<- EW];exact Ds h1);rw [Ds h2,Ia] at this;exact this.symm
  rw [this];exact p
end
section
variable {prog:Program} {w:World} {A:Around} {E:Value->Shared->Prop} {s:Shared} {S:Int->Bool} {n:Nat} {a:Addr}
theorem Z0 {l:List (Int×Value)} (h:ElemsOf (intKind prog w) l):∃ ks,IntsAre (l.map (·.2)) ks/\∀ k,k∈ks↔∃ e∈l,(intKind prog w).is k e.2=true:=by
 induction l with
 | nil=>exact ⟨[],.nil,λk=>by simp⟩
 | cons e l ih=>
  obtain ⟨ks,h1,h2⟩:=ih h.tail;obtain ⟨⟨k,hk,_⟩,_⟩:=h.head;obtain ⟨t,ht⟩:=Value.isInt_shape hk;refine ⟨k :: ks,?_,λj=>?_⟩
  ·rw [EG,ht];exact .cons k t h1
  ·rw [Ea,h2];have:(intKind prog w).is j e.2=true↔j=k:=by
    rw [KeyKind.is_eq_decide hk j,Eh]
   constructor
   ·rintro (u | ⟨e',u,v⟩)
    ·exact ⟨e,Ei,this.mpr u⟩
    ·exact ⟨e',Ed _ u,v⟩
   ·rintro ⟨e',u,v⟩;rcases Ea.mp u with rfl | u
    ·exact .inl (this.mp v)
    ·exact .inr ⟨e',u,v⟩
theorem lB:∀ {us vs:List Value} {ks:List Int},us.Perm vs->IntsAre vs ks->∃ js,IntsAre us js/\js.Perm ks:=λ{us vs ks} p=>by
 induction p generalizing ks with
 | nil=>exact λh=>⟨ks,h,.refl _⟩
 | cons x _ ih=>
  intro h;cases h with
  | cons n t h=>
   obtain ⟨js,a,b⟩:=ih h;exact ⟨n :: js,.cons n t a,b.cons n⟩
 | swap x y l=>
  intro h;cases h with
  | cons n t h=>
   cases h with
   | cons m u h=>exact ⟨_,.cons m u (.cons n t h),.swap _ _ _⟩
 | trans _ _ i1 i2=>
  intro h;obtain ⟨js,a,b⟩:=i2 h;obtain ⟨ms,c,d⟩:=i1 a;exact ⟨ms,c,d.trans b⟩
theorem dJ:∀ {l m:List Int},l.Nodup->(∀ x∈l,x∈m)->l.length=m.length->l.Perm m
 | [],m,_,_,e=>by
  have:m=[]:=GX.mp e.symm;subst this;exact .refl _
 | x :: l,m,a,b,e=>by
  have d:=b x Ei;rw [Go] at a;have f:=dJ a.2 (λy c=>(List.mem_erase_of_ne (λh:y=x=>a.1 (h▸c))).mpr (b y (Ed _ c))) (by
   rw [Ik d];simp at e;omega)
  exact (f.cons x).trans (List.perm_cons_erase d).symm
theorem sortLHt (v:A.handled=none) (F:SetL (intKind prog w) s.heap a (N0 ns) ns.length) (r:ns.Nodup) (D:ns.length<64)
  (q:∀ (z:Shared) (p:Addr) (out:Array Value) (ms:List Int) (c:Nat),(∀ b ob,s.heap.get? b=some ob->z.heap.get? b=some ob)->z={ s with heap:=z.heap,drawn:=z.drawn,toks:=z.toks }->s.heap.objs.size<=p->z.heap.get? p=some (seqObj "list" out c)->IntsAre out.toList ms->ms.Perm ns->ms.Pairwise (·<=·)->Q (.ref p) z) :
  wpAny (model prog w) A (call (.builtin "sorted") [.ref a]) Q E s:=by
 obtain ⟨o,es,J,t,l,x⟩:=F;obtain ⟨u,i,k2⟩:=Z0 x.2.2.1;have j:u.length=ns.length:=by
  rw [<- IntsAre.length i,Dr,Ej];exact x.2.2.2.2.2.2.1
 have m:=dJ r (λy C=>(k2 y).mpr ((x.2.2.2.1 y).mp (by simpa [N0] using C))) j.symm;refine GK Ii HS HU (HV _) ?_;refine Do (Dp (Do (fq (by simp [v]) l x λz vs f rs p I=>Do (Gq ?_ (by rw [p.length_eq,Dr,Ej,Ew];have z:es.size<4096:=x.2.2.2.2.1;omega)))));obtain ⟨js,k,g⟩:=lB p i;have K:vs.length=ns.length:=by rw [IntsAre.length k,g.length_eq,j]
 have d:(z.heap.push (seqObj "list" vs.toArray 0)).get? z.heap.objs.size=some (seqObj "list" vs.toArray 0):=Du _ rfl;refine Do (Ep (EO HB ⟨_,d,rfl⟩ Ht (HC d k (by omega) λout ms H n G=>⟨_,rfl,Dp ⟨_,rfl,?_⟩⟩) (HD _)));obtain ⟨c,B⟩:=sortedHeap_at d;refine q _ _ out ms c (λb ob e=>?_) ?_ (FV I) B H (n.trans (g.trans m.symm)) G
 ·have h:=Dv (f b ob e);rw [sortedHeap_old (Dw h) (by rw [Iv];exact El h)];exact Dq _ (f b ob e)
 ·grind
end
end HT
namespace L2
open PySem PySem.Spec PyProof.Rows
theorem ba:∀ {cs:List Addr} {us:List Value},Vals (cs.map V.ref) us->us=cs.map Value.ref
 | [],_,h=>by cases h;rfl
 | c :: cs,_,h=>by
  cases h with
  | cons r t=>
   have e:=ba t;subst e;cases (r);rfl
theorem aQ:k8 X (.builtin "isinstance") (λxs H Q=>∃ f x C d a,∃ (cs:List Addr) (b:Bool),xs=[.ref x,.ref a]/\XC X.K C/\H x=some (M8 f x C d)/\(∀ d',d=some d'->∃ fs,H d'=some (G1 d' fs))/\H a=some (.tup (cs.map V.ref))/\PySem.W.kitAny X.K (.ref C) (cs.map Value.ref)=some b/\Q (.bl b) H):=by
 intro pins s σ H xs us Q I r h;obtain ⟨f,x,C,d,a,cs,b,rfl,M,g,hd,v,j,q⟩:=h;obtain ⟨u,F,rfl,D,c⟩:=jU r;cases (D);cases (c);have J:∃ ox od,PySem.W.InstAt s.heap x ox C od:=by
  cases d with
  | none=>obtain ⟨ox,J⟩:=(I.isX g).inst0;exact ⟨ox,_,J⟩
  | some d'=>
   obtain ⟨fs,k⟩:=hd d' rfl;obtain ⟨mA,i,_⟩:=I.isD k;obtain ⟨od,e,_⟩:=L8 i;obtain ⟨ox,J⟩:=(I.isX g).inst1 e;exact ⟨ox,_,J⟩
 obtain ⟨_,p,A,o,t,y,n,hs,l⟩:=I.hok a _ v;have B:=ba A;subst B;obtain ⟨E,od,m,w⟩:=o;cases (y);cases (hs);exact PySem.W.kia_tup (AX M.xc) I.kIn J t j (λz=>nomatch z) λG=>⟨.bl b,H,I.tok _,rfl,q⟩
end L2
namespace L3
open PySem PySem.Spec PyProof.Rows L2
inductive NamesC (X:Cx) (cl:Nat->Addr):List Expr->List Nat->Prop where
 | nil:NamesC X cl [] []
 | cons {x:Str} {p:Pos} {c:Nat} {es:List Expr} {cs:List Nat}:Gl X x->X.mg x=some (.ref (cl c))->(x==("__debug__" : Str))=false->NamesC X cl es cs->NamesC X cl (.Name x p :: es) (c :: cs)
section
variable {X:Cx} {cl:Nat->Addr} {xe:Addr->Hp->Prop} {a:Expr} {f:Env->M D} {pos p q:Pos}
theorem mP {es:List Expr} {cs:List Nat} (h:NamesC X cl es cs):PA X es λ_ H Q=>Q (cs.map λc=>V.ref (cl c)) H:=by
 induction h with
 | nil=>exact B6
 | @cons x p c es cs h1 h2 h3 _ ih=>exact j0 (te:=tC (.ref (cl c))) (t:=λ_ H Q=>Q (cs.map λc=>V.ref (cl c)) H) (ci h1 h2 rfl h3) ih rfl
theorem iS {K:PySem.W.Frag} {t:Value} {g:Nat->Value} {s:Nat->Bool}:∀ {cs:List Nat},(∀ c∈cs,PySem.W.kitOne K t (g c)=some (s c))->PySem.W.kitAny K t (cs.map g)=some (cs.any s)
 | [],_=>rfl
 | c :: cs,h=>by
  have a:=h c (by simp);show (match PySem.W.kitOne K t (g c) with
   | some true=>some true
   | some false=>PySem.W.kitAny K t (cs.map g)
   | none=>none)=_
  rw [a,GP];cases s c with
  | true=>rfl
  | false=>exact iS λc b=>h c (by simp [b])
theorem kt {cs:List Nat} {k:Nat} {sub:Nat->Nat->Bool} (hk:∀ c0∈cs,∀ c,XC X.K (cl c)->PySem.W.kitOne X.K (.ref (cl c)) (.ref (cl c0))=some (sub c c0)) (hl:cs.length<=1000) (h:PE X a (tD X.K cl xe f)) (hg:Gl X "isinstance") (hm:X.mg "isinstance" = none) (hn:NamesC X cl ys cs) (hs:noStar a=true) :
  PE X (.Call (.Name "isinstance" p) [a,.Tuple ys k q] [] pos) (tD X.K cl xe λρ=>bind (f ρ) λd=>B0 (λc=>cs.any λc0=>sub c c0) d):=by
 have key:k8 X (.builtin "isinstance") (λvs H Q=>∃ μ S d v tp,vs=[v,.ref tp]/\H tp=some (.tup (cs.map λc=>V.ref (cl c)))/\RD X.K μ H d v/\Rep X.K cl μ S H/\Post X.K cl xe μ H (B0 (λc=>cs.any λc0=>sub c c0) d S) λr _ μ' H'=>∀ v,RD X.K μ' H' r v->Q v H'):=by
  intro pins s σ H xs us Q I r ⟨μ,S,d,v,tp,ev,et,rd,rp,P⟩;subst ev;unfold B0 at P;cases rd with
  | ref h=>
   rename_i n b;simp only at P;cases q1:S[n]? with
   | none=>rw [q1] at P;exact P.elim
   | some o=>
    rw [q1] at P;cases o with
    | exc c fs=>
     have q:=P μ H (Lat.refl _ _) rp _ (.bl _);obtain ⟨xc,gs,r2,fr,h2⟩:=rp.ats n _ b q1 h;have kk:=iS λc0 hc=>hk c0 hc c xc;have et':H tp=some (.tup ((cs.map cl).map V.ref)):=by rw [ID];exact et
     have kk':PySem.W.kitAny X.K (.ref (cl c)) ((cs.map cl).map Value.ref)=some (cs.any λc0=>sub c c0):=by rw [ID];exact kk
     rcases h2 with ⟨z,e2⟩ | ⟨d,n1,n2,e2,e3⟩
     ·exact aQ pins s σ H _ us Q I r ⟨fr,b,cl c,none,tp,cs.map cl,_,rfl,xc,e2,λ_ z=>(nomatch z),et',kk',q⟩
     ·exact aQ pins s σ H _ us Q I r ⟨fr,b,cl c,some d,tp,cs.map cl,_,rfl,xc,e2,λd' z=>by cases z;exact ⟨gs,e3⟩,et',kk',q⟩
    | lst _=>exact P.elim
    | dct _=>exact P.elim
  | _=>exact False.elim P
 refine PE.imp (P5 key hg hm (by rfl) (j0 h (j0 (nr (mP hn)) B6 (c9 rfl)) (c9 hs)) (by decide) (by decide) (c9 hs) (j4 rfl)) λσ H Q ⟨μ,S,ρ,eo,rp,P⟩=>?_;refine ⟨μ,S,ρ,eo,rp,P.bind.imp λd S1 μ1 H1 l1 r1 p1 v rv=>⟨by rw [Dr];rw [Ew];omega,λz hz=>?_⟩⟩;have l:=Lat.laid (μ:=μ1) (o:=.tup (cs.map λc=>V.ref (cl c))) hz;exact ⟨μ1,S1,d,v,z,rfl,b8,rv.later l,r1.laid hz,p1.later l⟩
end
def M7:List Int->Int
 | []=>0
 | x :: xs=>x+M7 xs
theorem eF:∀ (xs ys:List Int),M7 (xs++ys)=M7 xs+M7 ys
 | [],ys=>by show M7 ys=0+M7 ys;omega
 | x :: xs,ys=>by show x+M7 (xs++ys)=x+M7 xs+M7 ys;rw [eF xs ys];omega
theorem jZ (ns:List Int):∀ j,j<=ns.length->preSum (λi=>ns.getD i 0) j=M7 (ns.take j)
 | 0,_=>by simp [preSum,M7]
 | j+1,h=>by
  have a:j<ns.length:=by omega
  rw [Eu a,eF,<- jZ ns j (by omega)];show preSum _ j+ns.getD j 0=preSum _ j+(ns[j]+0);simp [a]
section
variable {X:Cx} {cl:Nat->Addr} {xe:Addr->Hp->Prop}
theorem jQ {σ:L2.St} {H:Hp} {Q:VK} {ns:List Int} {t':Nat} {o:Obj} (I:L2.Inv X pins σ H s) (q:Q (.int (M7 ns)) H) {m:Nat} (d:m=ns.length)
  (h:Moved [s.heap.objs.size] (λa b=>b=a) { s with heap:=s.heap.push o } s'):EP X pins σ Q (.int (preSum (λi=>ns.getD i 0) m) t') s':=by
 have e:preSum (λi=>ns.getD i 0) m=M7 ns:=by rw [d,jZ ns ns.length (Dz _),FO]
 rw [e];obtain ⟨k,g,f,j,n⟩:=h;have es:s'={ s with heap:=s'.heap,toks:=s'.toks }:=by
  cases s';cases s;subst g f j;rfl
 rw [es];refine ⟨.int (M7 ns),H,I.kept λb o c=>?_,⟨_,rfl⟩,q⟩;have l:=Dv c;exact k b o (by simp;exact Dw l) (Dq _ c)
theorem dt {ns:List Int} {its:List Value} (r':Vals (ns.map V.int) its):∀ (i:Nat) (v:Value),its.toArray[i]?=some v->∃ t,v=Value.int (ns.getD i 0) t:=by
 intro i v hP;rw [FQ] at hP;have hl:its.length=ns.length:=by rw [<- r'.length,Dr]
 have hi:i<ns.length:=by
  have b:=(Eb.mp hP).1;omega
 obtain ⟨u,e1,rv⟩:=Vals.get r' (i:=i) (x:=V.int ns[i]) (by rw [Eo,Ds hi];rfl);rw [e1] at hP;cases hP;obtain ⟨t,rfl⟩:=rv;exact ⟨t,by simp [hi]⟩
theorem mT {s:Shared} {p:Addr} {o:Obj} (d:p<s.heap.objs.size) (c:o.isFreed=false:=by rfl):∀ b∈[s.heap.objs.size,p],b<(s.heap.push o).objs.size:=by
 intro b a;rcases Ea.mp a with rfl | a
 ·simp_all
 ·rw [EJ.mp a];exact Nat.lt_trans d (Dv (Du _ c))
theorem di (l:X.calm=true):k8 X (.builtin "sum") (λxs H Q=>∃ (p:Addr) (ns:List Int),xs=[.ref p]/\(SqL X.K H p (ns.map V.int)\/SqT X.K H p (ns.map V.int))/\Q (.int (M7 ns)) H):=by
 intro pins s σ H xs us Q I r h;obtain ⟨p,ns,rfl,d,q⟩:=h;obtain ⟨u,rfl,k⟩:=P8 r;cases k;have j:=I.ok.hd l;rcases d with d | d
 ·obtain ⟨a,b,pl,hz⟩:=I.list d;have c:p<s.heap.objs.size:=by
   obtain ⟨o,e,_⟩:=pl.isList;exact Dv e
  have f:a.toArray.size=ns.length:=by rw [Dy,<- b.length,Dr]
  exact call_sum_walkAnyS (Gx pl.isList ⟨s.heap.objs.size,[s.heap.objs.size,p],[s.heap.objs.size],_,a.toArray.size,_,_,λi=>ns.getD i 0,rfl,(Walks.list (A:=X.A.in1) (j) _ _ (Dw c) a.toArray).toS,⟨⟨_,Du _ rfl,rfl,rfl⟩,pl.isList.push _⟩,mT c,dt b,λs' t' m=>jQ I q f m⟩)
 ·obtain ⟨a,b,⟨o,e,g,n,hd⟩,hz⟩:=I.tuple d;have pl:s.heap.IsTuple p a.toArray:=⟨o,e,g,n,hd⟩;have c:=Dv e;have f:a.toArray.size=ns.length:=by rw [Dy,<- b.length,Dr]
  exact call_sum_walkAnyS (FC pl ⟨s.heap.objs.size,[s.heap.objs.size,p],[s.heap.objs.size],_,a.toArray.size,_,_,λi=>ns.getD i 0,rfl,(Walks.tuple (A:=X.A.in1) (j) _ _ (Dw c) a.toArray).toS,⟨⟨_,Du _ rfl,rfl,rfl⟩,pl.push _⟩,mT c,dt b,λs' t' m=>jQ I q f m⟩)
def oS (d:D):M D:=bind (y4 d) λds=>match o9 ds with
 | some ns=>ret (.int (M7 ns))
 | none=>bad
theorem zT (g:X.calm=true):k8 X (.builtin "sum") (rPs X.K cl xe (one oS)):=O3 λpins s σ H μ S d v us Q I r h b p=>by
 obtain ⟨a,xs,ds,rfl,i,f,c⟩:=K3 h b p.bind;have p:=p.ok_bind c;cases e:o9 ds with
 | none=>rw [e] at p;exact p.elim
 | some ns=>
  rw [e] at p;have:=R9 e f;subst this;exact di g pins s σ H _ us Q I r ⟨a,ns,rfl,i,p μ H (Lat.refl _ _) b _ (.int _)⟩
end
def CXr (P:Program) (w:World) (K:PySem.W.Frag):List PySem.Env->Hp->Shared->XK->Value->Shared->Prop:=λb H s E e s'=>
 ∃ a C d c H',e=.ref a/\s'.os=s.os/\AllBare s'.gens/\Un (frs b) [] H H' s.heap s'.heap/\HOk P w H' s'.heap/\Fx K H' a C d c/\E e none H'
abbrev CXd (P:Program) (w:World) (K:PySem.W.Frag):CXT:=⟨CXr P w K,false⟩
section
variable {K:PySem.W.Frag} {cl:Nat->Addr} {xe xe':Addr->Hp->Prop} {α β:Type} {μ:Mp} {H H':Hp} {S:Sto} {a C:Addr} {d tb:Option Addr} {P:Program} {w:World} {h:Heap}
theorem Post.ximp {G:α->Sto->Mp->Hp->Prop} (p:Post K cl xe μ H r G) (k:∀ n S μ' H' a,r=.exn n S->Lat μ H μ' H'->Rep K cl μ' S H'->μ'.pl[n]?=some a->xe a H'->xe' a H'):Post K cl xe' μ H r G:=by
 cases r with
 | ok a S=>exact p
 | exn n S=>exact λμ' H' a l r e=>k n S μ' H' a rfl l r e (p μ' H' a l r e)
 | bad=>exact p
def nx (m:M α):M α:=λS=>match m S with
 | .exn _ _=>.bad
 | r=>r
theorem Post.nx {G:α->Sto->Mp->Hp->Prop} (p:Post K cl xe μ H (nx m S) G):Post K cl xe' μ H (m S) G:=by
 unfold L3.nx at p;cases e:m S with
 | ok a S1=>rw [e] at p;exact p
 | exn n S1=>rw [e] at p;exact p.elim
 | bad=>rw [e] at p;exact p
theorem lO (f:HOk P w H h) (o:OAt K cl μ H a (.exc c fs)) (e:H a=some (M8 tb a C d)) (j:∀ T,tb=some T->T≠a/\H T=some (TbO T)):C=cl c/\Fx K H a C d tb:=by
 obtain ⟨k,gs,q,p,o⟩:=o;obtain ⟨vs,l,_⟩:=(f a _ e).1;rcases o with ⟨z,g⟩ | ⟨d',n,r,g,m⟩
 ·obtain ⟨i,b,_⟩:=(f a _ g).1;rw [l] at b;cases b;exact ⟨rfl,k,e,λd' z=>(nomatch z),j⟩
 ·obtain ⟨i,b,_⟩:=(f a _ g).1;rw [l] at b;cases b;exact ⟨rfl,k,e,λs z=>by cases z;exact ⟨n,gs,m⟩,j⟩
theorem Rep.mv {n:Nat} (r:Rep K cl μ S H) (hk:HOk P w H h) (e:μ.pl[n]?=some a) (fx:H a=some (M8 tb a C d)) (m:Mv H a C d H'):Lat μ H μ H'/\Rep K cl μ S H':=by
 have am:=ET e;have l:Lat μ H μ H':=⟨λ_ _ h=>h,λb o q nb=>m.1 b o (λz=>nb (z▸am)) q,λ_ h=>.inl h,rfl⟩;refine ⟨l,r.len,r.nd,λi o b e1 e2=>?_,λb mb=>let ⟨h1,u,h2⟩:=r.res b mb;⟨h1,u,l.oth _ _ h2 h1⟩,r.tb.mv λa u e n1 n2=>⟨l.oth _ _ e n1,n1,n2⟩⟩;have ho:=r.ats i o b e1 e2;by_cases hb:b=a
 ·subst hb;cases o with
  | lst ds=>obtain ⟨xs,q,_⟩:=ho;rw [fx] at q;simp [M8] at q
  | dct kvs=>obtain ⟨xs,q,_⟩:=ho;rw [fx] at q;simp [M8] at q
  | exc c fs=>
   obtain ⟨xc,gs,q,fr,o⟩:=ho;obtain ⟨tb',m2⟩:=m.2;obtain ⟨vs,q1,_⟩:=(hk b _ fx).1;rcases o with ⟨z,e2⟩ | ⟨d',h1,h2,e2,e3⟩
   ·obtain ⟨vs2,q2,_⟩:=(hk b _ e2).1;rw [q1] at q2;cases q2;exact ⟨xc,gs,Paired.mono (λ_ _ ⟨z,w⟩=>⟨z,w.later l⟩) q,tb',.inl ⟨z,m2⟩⟩
   ·obtain ⟨vs2,q2,_⟩:=(hk b _ e2).1;rw [q1] at q2;cases q2;exact ⟨xc,gs,Paired.mono (λ_ _ ⟨z,w⟩=>⟨z,w.later l⟩) q,tb',.inr ⟨d',h1,h2,m2,m.1 d' _ h1 e3⟩⟩
 ·obtain ⟨u,q⟩:=ho.some;exact ho.later l (by rw [q];exact m.1 b u hb q)
end
def xOf (X:Cx) (a:Addr) (H:Hp):Prop:=∀ (pins:List (Addr×Obj)) (σ:L2.St) (s:Shared) (C:Addr) (d b:Option Addr),L2.Inv X pins σ H s->Fx X.K H a C d b->X.xe (.ref a) s
def vB (X:Cx) (pins:List (Addr×Obj)) (σ:L2.St) (F:Addr->Hp->Prop) (c:Value) (s:Shared):Prop:=∃ a H C d b,c=.ref a/\L2.Inv X pins σ H s/\Fx X.K H a C d b/\F a H
def PX (X:Cx) (cl:Nat->Addr) (e:Expr) (f:Env->M D):Prop:=∀ (pins:List (Addr×Obj)) (s:Shared) (σ:L2.St) (H:Hp) (Q:VK) (F:Addr->Hp->Prop),L2.Inv X pins σ H s->tD X.K cl F f σ H Q ->
 wpAny (model X.prog X.w) X.A (eval e X.env) (EP X pins σ Q) (vB X pins σ F) s
def spX (K:PySem.W.Frag) (cl:Nat->Addr) (n:Nat) (a:List D->M D):Sp:=λvs H Q E=>vs.length=n/\∃ μ S ds,RDs K μ H ds vs/\Rep K cl μ S H/\Post K cl (gG E) μ H (a ds S) λd _ μ' H'=>∀ v,RD K μ' H' d v->Q v H'
section
variable {X:Cx} {cl:Nat->Addr} {e:Expr} {es:List Expr} {f:Env->M D} {pos p:Pos}
theorem PX.of (h:PE X.nox e (tD X.K cl x0 f)):PX X cl e λρ=>nx (f ρ):=λpins s σ H Q F I ⟨μ,S,ρ,a,b,p⟩=>
 Ef (h pins s σ H Q (I.wish _) ⟨μ,S,ρ,a,b,p.nx⟩) (λ_ _ ⟨v,H',c,r,q⟩=>⟨v,H',c.unwish,r,q⟩) λ_ _ z=>False.elim z
theorem rY {k n:Nat} {a:Addr} {fd:FuncData} {ps:List Str} {x:Str} {fs:Env->M (List D)} {run:List D->M D} (hn:ps.length=n) (F:FnOk X.prog X.w X.K X.mg X.base (CXd X.prog X.w X.K) k a fd ps (spX X.K cl n run)) (hr:Room false k X.A) (hg:Gl X x) (hm:X.mg x=some (.ref a)) (hk:PySem.W.keepIn X.K (.ref a)=true) (hb:Binds X.K fd ps [])
  (ha:PA X.nox (e :: es) (tDs X.K cl x0 fs)) (hdb:(x==("__debug__" : Str))=false) (hs:(e :: es).all noStar=true) :
  PX X cl (.Call (.Name x p) (e :: es) [] pos) λρ=>bind (nx (fs ρ)) λds=>if ds.length=n then run ds else bad:=by
 rw [Fb,Dt] at hs;intro pins s σ H Q F0 I ⟨μ,S,ρ,eo,rp,p⟩;refine EI (F4 I hg hm ?_ hdb);refine GT I.ok.mod.kin hk (Ef (ha pos pins s σ H (λvs H1=>∃ μ1 S1 ds,RDs X.K μ1 H1 ds vs/\Rep X.K cl μ1 S1 H1/\Post X.K cl F0 μ1 H1 ((if ds.length=n then run ds else bad) S1) λd _ μ' H'=>∀ v,RD X.K μ' H' d v->Q v H') (I.wish _) ⟨μ,S,ρ,eo,rp,p.bind.nx.imp λds S1 μ1 H1 l1 r1 p1 vs rvs=>⟨μ1,S1,ds,rvs,r1,p1⟩⟩)
  (λus s1 ⟨vs,H1,I1,r,μ1,S1,ds,rvs,r1,p1⟩=>⟨I1.unwish.kIn,?_⟩) λ_ _ z=>False.elim z) (c9 hs.1) (j4 hs.2)
 have I1:=I1.unwish;by_cases hd:ds.length=n
 ·rw [if_pos hd] at p1;have hl:us.length=ps.length:=by rw [<- r.length,<- rvs.length,hd,hn]
  have hb2:=hb s1 us I1.kIn (by rw [EH];exact hl);rw [EH] at hb2;refine Gc (Ff (F.run X.A X.stack s1 H1 ⟨us,[]⟩ us vs Q (λev _ H=>∀ a,ev=.ref a->F0 a H) hr I1.env0 hb2 r ⟨by rw [<- rvs.length];exact hd,μ1,S1,ds,rvs,r1,p1.ximp λ_ _ _ _ a _ _ _ _ h a' z=>by cases z;exact h⟩) λres s' hq=>?_);cases res with
  | error ev=>
   obtain ⟨a',C,d,tb,H',he,os,bare,un,hok,fx,q⟩:=hq;exact ⟨a',H',C,d,tb,he,I1.call' os un hok bare (λb z=>absurd z (by simp)),fx,q a' he⟩
  | ok fl=>
   cases fl with
   | ret u=>exact I1.after hq
   | next=>exact False.elim hq
   | brk=>exact False.elim hq
   | cont=>exact False.elim hq
 ·rw [if_neg hd] at p1;exact p1.elim
def A7 (d:D):M Fl:=match d with
 | .ref n=>λS=>match S[n]? with
  | some (.exc _ _)=>.exn n S
  | _=>.bad
 | _=>bad
theorem nA (hc:X.calm=true) (h:PE X e (tDf X.K cl (xOf X) f)):PS X (.Raise (some e) none pos) (sD X.K cl (xOf X) λρ=>bind (f ρ) A7):=by
 intro pins s σ H D I ⟨μ,S,ρ,eo,rp,p⟩;refine Do (EZ (bn (K:=X.K) (I.ok.hd hc) (Do (Ef (h pins s σ H (λv H1=>∃ (x C:Addr) (d:Option Addr) (μ1:Mp) (S1:Sto) (n c:Nat) (fs:List (Str×L3.D)),v=.ref x/\XC X.K C/\H1 x=some (N6 x C d)/\Rep X.K cl μ1 S1 H1/\S1[n]?=some (O.exc c fs)/\μ1.pl[n]?=some x/\xOf X x H1) I ⟨μ,S,ρ,eo,rp,p.bind.imp λd S1 μ1 H1 l1 r1 p1 v rv fr=>?_⟩)
  (λu s1 ⟨v,H1,I1,ru,x,C,d,μ1,S1,n,c,fs,ev,xc,ex,r1,e1,e2,xo⟩=>Do (EZ (Dp ?_))) λ_ _ z=>z))))
 ·cases rv with
  | ref hp=>
   rename_i n a;obtain ⟨x,C,d,ev,xc,ex⟩:=fr;cases ev;simp only [A7] at p1;cases q:S1[n]? with
   | none=>rw [q] at p1;exact p1.elim
   | some o=>
    rw [q] at p1;cases o with
    | exc c fs=>exact ⟨_,C,d,μ1,S1,n,c,fs,rfl,xc,ex,r1,q,hp,p1 μ1 H1 _ (Lat.refl _ _) r1 hp⟩
    | lst _=>exact p1.elim
    | dct _=>exact p1.elim
  | _=>exact False.elim p1
 ·subst ev;obtain rfl:u=Value.ref x:=ru;have fx:=(lO I1.hok (r1.ats n _ x e1 e2) ex λT z=>(nomatch z)).2;exact ⟨x,C,d,rfl,I1.kIn,xc,I1.isX ex,xo pins σ s1 C d none I1 fx⟩
end
section
variable {K:PySem.W.Frag} {cl:Nat->Addr} {xe xe':Addr->Hp->Prop} {α:Type} {μ:Mp} {H:Hp}
theorem Post.up {G:α->Sto->Mp->Hp->Prop} (p:Post K cl xe μ H r G) (k:∀ a H',xe a H'->xe' a H'):Post K cl xe' μ H r G:=p.ximp λ_ _ _ H' a _ _ _ _ h=>k a H' h
theorem Post.x0 {G:α->Sto->Mp->Hp->Prop} (p:Post K cl (gG E0) μ H r G):Post K cl xe μ H r G:=p.up λ_ _ z=>False.elim z
end
abbrev x0:Addr->Hp->Prop:=gG E0
section
variable {X:Cx} {cl:Nat->Addr} {xe:Addr->Hp->Prop} {e tg:Expr} {es:List Expr}
theorem PE.x0 (h:PE X e (tD X.K cl xe f)):PE X e (tD X.K cl x0 f):=PE.imp h λσ H Q ⟨μ,S,ρ,a,b,p⟩=>⟨μ,S,ρ,a,b,p.x0⟩
theorem PTL.x0 (h:PTL X es (tBo X.K cl xe f)):PTL X es (tBo X.K cl x0 f):=λpins s σ H Q I ⟨μ,S,ρ,a,b,p⟩=>h pins s σ H Q I ⟨μ,S,ρ,a,b,p.x0⟩
theorem PA.x0 (h:PA X es (tDs X.K cl xe f)):PA X es (tDs X.K cl x0 f):=PA.imp h λσ H Q ⟨μ,S,ρ,a,b,p⟩=>⟨μ,S,ρ,a,b,p.x0⟩
theorem PI.x0 (h:PI X tg e (tIt X.K cl xe f)):PI X tg e (tIt X.K cl x0 f):=PI.imp h λσ H Q ⟨μ,S,ρ,a,b,p⟩=>⟨μ,S,ρ,a,b,p.x0⟩
theorem PSs.x0 (h:PSs X sts (sD X.K cl xe f)):PSs X sts (sD X.K cl x0 f):=PSs.imp h λD σ H ⟨μ,S,ρ,a,b,p⟩=>⟨μ,S,ρ,a,b,p.x0⟩
theorem cZ (h:PE X e (jD X.K cl x0 fs)):PE X e (tD X.K cl xe λρ=>bind (nx (fs ρ)) λds=>ret (.lst ds)):=PE.imp h λσ H Q ⟨μ,S,ρ,f,j,p⟩=>
 ⟨μ,S,ρ,f,j,p.bind.nx.imp λds S1 b d l g i c ys k a=>i.ret b d (Lat.refl _ _) g _ (.lst k a)⟩
theorem vO:A8 (CXd X.prog X.w X.K) X (λl _ H=>∀ a,l=.ref a->xOf X a H):=λpins σ H s e s' I ⟨a,C,d,i,H',k,g,c,j,f,h,q⟩=>by
 subst k;exact q a rfl pins σ s' C d i (I.call' g j f c λb z=>absurd z (by simp)) h
theorem mL {a:Addr} {fd:FuncData} {ps:List Str} {x:Str} {p pos:Pos} {fs:Env->M (List D)} {b:List D->M D} (F:FnOk X.prog X.w X.K X.mg X.base (CXd X.prog X.w X.K) k a fd ps (spX X.K cl n b)) (l:Room false k X.A) (j:Gl X x) (o:X.mg x=some (.ref a)) (i:PySem.W.keepIn X.K (.ref a)=true) (t:Binds X.K fd ps [])
  (s:PA X (e :: es) (tDs X.K cl (xOf X) fs)) (g:(x==("__debug__" : Str))=false) (hs:(e :: es).all noStar=true) :
  PE X (.Call (.Name x p) (e :: es) [] pos) (tD X.K cl (xOf X) λρ=>bind (fs ρ) λds=>if ds.length=n then b ds else bad):=by
 rw [Fb,Dt] at hs;exact PE.imp (iJ F l j o i t .nil vO s g (c9 hs.1) (j4 hs.2)) λσ H Q ⟨μ,S,ρ,m,r,p⟩=>
  ⟨μ,S,ρ,m,r,p.bind.imp λds S1 f u w q d vs c=>by
   by_cases hd:ds.length=n
   ·rw [if_pos hd] at d;exact ⟨by rw [EH,<- c.length];exact hd,f,S1,ds,by rw [EH];exact c,q,d.up λa H' h v z=>by cases z;exact h⟩
   ·rw [if_neg hd] at d;exact d.elim⟩
theorem kq {b:List D->M D} (F:FnOk X.prog X.w X.K X.mg X.base (CXd X.prog X.w X.K) k a fd ps (spX X.K cl 0 b)) (f:Room false k X.A) (e:Gl X x) (g:X.mg x=some (.ref a)) (d:PySem.W.keepIn X.K (.ref a)=true) (j:Binds X.K fd ps [])
  (c:(x==("__debug__" : Str))=false):PE X (.Call (.Name x p) [] [] pos) (tD X.K cl (xOf X) λρ=>b []):=PE.imp (qE F f e g d j .nil vO c) λσ H Q ⟨μ,S,ρ,l,i,p⟩=>⟨rfl,μ,S,[],.nil,i,p.up λa H' h m z=>by cases z;exact h⟩
end
inductive G where
 | val (d:D) | fn (i n:Nat) | err (c:Nat) (fs:List Str) | dct (kvs:List (Str×D))
structure Gm where
 gl:List (Str×G)
 sub:Nat->Nat->Bool
 flds:List Str
 qs:List Nat:=[]
structure Lc where
 N:List Str
 sc:Scope
 fr:Bool
 mu:List Str
def quiet (a:Lc):Bool:=a.mu.contains ("~" : Str)
structure Ev where
 e:Lc->Expr->Env->M D
 t:Lc->Expr->Env->M Bool
 s:Lc->Stmt->Env->M Fl
 i:Lc->Expr->Expr->Env->M (Src×Nat)
structure EvK where
 e:Lc->Expr->Env->∀ {α:Type},(D->M α)->M α
 t:Lc->Expr->Env->∀ {α:Type},(Bool->M α)->M α
 s:Lc->Stmt->Env->∀ {α:Type},(Fl->M α)->M α
 i:Lc->Expr->Expr->Env->∀ {α:Type},(Src×Nat->M α)->M α
structure EqK (r:Ev) (q:EvK):Prop where
 e:∀ lc e ρ {α:Type} (k:D->M α),q.e lc e ρ k=bind (r.e lc e ρ) k
 t:∀ lc e ρ {α:Type} (k:Bool->M α),q.t lc e ρ k=bind (r.t lc e ρ) k
 s:∀ lc e ρ {α:Type} (k:Fl->M α),q.s lc e ρ k=bind (r.s lc e ρ) k
 i:∀ lc g e ρ {α:Type} (k:Src×Nat->M α),q.i lc g e ρ k=bind (r.i lc g e ρ) k
theorem aI (k:α->M β):bind bad k=bad:=rfl
theorem m9 {c:Prop} [Decidable c] (a b:M α) (k:α->M β):bind (if c then a else b) k=if c then bind a k else bind b k:=by split <;> rfl
theorem D3 (m:M α):bind m ret=m:=by
 funext S;unfold bind ret;cases m S <;> rfl
def f8:List Str->Str->Option Nat
 | [],_=>none
 | y :: ys,x=>if y=x then some 0 else (f8 ys x).map (· + 1)
theorem u6:∀ {N:List Str} {x:Str} {i:Nat},f8 N x=some i->N[i]?=some x
 | [],_,_,e=>by cases e
 | y :: ys,x,i,e=>by
  unfold f8 at e;split at e
  ·rename_i h;cases e;simp [h]
  ·cases q:f8 ys x with
   | none=>rw [q] at e;cases e
   | some j=>rw [q] at e;cases e;simpa using u6 q
def pq (a:Scope) (x:Str):Bool:=decide (a.names.lookup x=some .local)||decide (a.names.lookup x=some .cell)||decide (a.names.lookup x=some .free)
def bE (a:Scope) (x:Str):Bool:=decide (a.names.lookup x=some .local)||decide (a.names.lookup x=some .cell)
def glB (a:Scope) (x:Str):Bool:=decide (a.names.lookup x=some .globalImplicit)
def o8 (x:Str):Bool:=!(x==("__debug__" : Str))&&!(x==("__classdict__" : Str))&&!(x==("__name__" : Str))
theorem tX (h:pq sc x=true):Vis sc x:=by
 simpa [pq,Vis,or_assoc] using h
theorem F7 (h:bE sc x=true):L2.Loc sc x:=by
 simpa [bE,L2.Loc] using h
theorem p4 (h:o8 x=true):(x==("__debug__" : Str))=false/\(x==("__classdict__" : Str))=false/\x ≠ "__name__":=by
 simpa [o8,and_assoc] using h
structure Tx where
 P:Program
 w:World
 K:PySem.W.Frag
 mg:Str->Option Value
 base:Heap
 cl:Nat->Addr
def bnames:List Str:=["len","tuple","list","repr","isinstance","range","int","bool","str","dict","ValueError","all","any","sum","max","min","sorted","set","enumerate","abs","zip"]
abbrev CXq (q:Bool):CXT:=⟨λ_ _ _ _ _ _=>False,q⟩
theorem AV:A8 (CXq q) X E0:=λ_ _ _ _ _ _ _ h=>False.elim h
structure FnX (T:Tx) (k i n:Nat) (x:Str) (run:List D->M D):Prop where
 ex:∃ (a:Addr) (fd:FuncData) (ps:List Str),ps.length=n/\FnOk T.P T.w T.K T.mg T.base (CXd T.P T.w T.K) k a fd ps (spX T.K T.cl n run)/\T.mg x=some (.ref a)/\PySem.W.keepIn T.K (.ref a)=true/\Binds T.K fd ps []
structure FnAt (T:Tx) (k i n:Nat) (x:Str) (run:List D->M D):Prop where
 ex:∃ (a:Addr) (fd:FuncData) (ps:List Str),ps.length=n/\FnOk T.P T.w T.K T.mg T.base (CXq true) k a fd ps (spD T.K T.cl n run)/\T.mg x=some (.ref a)/\PySem.W.keepIn T.K (.ref a)=true/\Binds T.K fd ps []
structure ErrAt (T:Tx) (x:Str) (c:Nat) (fs:List Str):Prop where
 xc:XC T.K (T.cl c)
 mg_:T.mg x=some (.ref (T.cl c))
 ex:∃ (f:Addr) (fd:FuncData) (ps:List Str),PySem.W.findIn T.K (.ref (T.cl c)) "__init__" = some (some (.ref f))/\PySem.W.isFn T.K (.ref f)=true/\Binds T.K fd ps [] /\
  match fs with
  | []=>FnOk T.P T.w T.K T.mg T.base CX0 2 f fd ps (Hn.spHE T.K)
  | [g]=>FnOk T.P T.w T.K T.mg T.base CX0 2 f fd ps (Hn.sp1 T.K g)
  | [g,g2]=>FnOk T.P T.w T.K T.mg T.base CX0 2 f fd ps (Hn.sp2 T.K g g2)
  | _=>False
def nu (T:Tx) (x:Str) (b:List (Str×D)):Prop:=∃ (a:Addr) (es:Array DictEntry) (n:Nat),T.mg x=some (.ref a)/\T.K.lookup a=some ⟨.type "dict",none,.dict es n,#[]⟩/\PySem.W.KeysLit T.w.params es.toList/\∀ k d,b.lookup k=some d->∃ u v,PySem.W.nsIn T.K a k=some (some u)/\RelV v u/\∀ μ H,RD T.K μ H d v
structure TxOk (T:Tx) (Γ:Gm) (k:Nat) (C:Nat->List D->M D):Prop where
 blt:∀ x∈bnames,Γ.gl.lookup x=none->T.mg x=none
 val:∀ x d,Γ.gl.lookup x=some (.val d)->∃ u v,T.mg x=some u/\RelV v u/\∀ μ H,RD T.K μ H d v
 fn:∀ x i n,Γ.gl.lookup x=some (.fn i n)->i∉Γ.qs->FnX T k i n x (C i)
 fnq:∀ x i n,Γ.gl.lookup x=some (.fn i n)->i∈Γ.qs->FnAt T k i n x (C i)
 err:∀ x c fs,Γ.gl.lookup x=some (.err c fs)->ErrAt T x c fs/\(∀ g∈fs,y9 T.K (T.cl c) g)
 sub:∀ x c c0 fs,Γ.gl.lookup x=some (.err c0 fs)->XC T.K (T.cl c)->PySem.W.kitOne T.K (.ref (T.cl c)) (.ref (T.cl c0))=some (Γ.sub c c0)
 subV:∀ c,XC T.K (T.cl c)->PySem.W.kitOne T.K (.ref (T.cl c)) (.type "ValueError")=some true
 subT:∀ c,XC T.K (T.cl c)->∀ t∈tys,PySem.W.kitOne T.K (.ref (T.cl c)) (.type t)=some false
 fld:∀ g∈Γ.flds,∀ c,XC T.K (T.cl c)->y9 T.K (T.cl c) g
 dct:∀ x kvs,Γ.gl.lookup x=some (.dct kvs)->nu T x kvs
 k3:3<=k
structure CxOk (T:Tx) (k:Nat) (lc:Lc) (X:Cx):Prop where
 prog:X.prog=T.P
 w:X.w=T.w
 K:X.K=T.K
 mg:X.mg=T.mg
 base:X.base=T.base
 N:X.N=lc.N
 nd:lc.N.Nodup
 sc:X.env.scope=lc.sc
 calm:quiet lc=false->X.calm=true
 room:Room (quiet lc) k X.A
 po:PassesOwn (model X.prog X.w) X.A X.env X.xe
 fn:X.fn=λ_=>lc.fr
 kd:lc.sc.kind=.function
 own:lc.fr=true->quiet lc=false->X.stack=X.env :: X.outer/\X.env.frame=some X.env.locals
 code:lc.fr=true->lc.mu.contains ("lam" : Str)=true->∃ c,X.env.code=.ref c/\PySem.W.codeHdIn T.K c (T.cl 1000000)=true/\uK T.K T.cl/\X.env.qual ++ "<lambda>" = hF T.K (T.cl 1000000)
structure EvOk (T:Tx) (k:Nat) (r:Ev):Prop where
 e:∀ lc X,CxOk T k lc X->∀ e,PE X e (tD T.K T.cl (xOf X) (r.e lc e))
 t:∀ lc X,CxOk T k lc X->∀ e,PT X e (tBo T.K T.cl (xOf X) (r.t lc e))
 s:∀ lc X,CxOk T k lc X->lc.fr=true->∀ st,PS X st (sD T.K T.cl (xOf X) (r.s lc st))
 i:∀ lc X,CxOk T k lc X->∀ g e,PI X g e (tIt T.K T.cl (xOf X) (r.i lc g e))
section
variable {T:Tx} {k:Nat} {r:Ev} {Γ:Gm} {C:Nat->List D->M D} {lc:Lc} {X:Cx} {pos:Pos}
theorem EvOk.ex (R:EvOk T k r) (h:CxOk T k lc X) (e:Expr):PE X e (tD X.K T.cl (xOf X) (r.e lc e)):=by rw [h.K];exact R.e lc X h e
theorem EvOk.tx (R:EvOk T k r) (h:CxOk T k lc X) (e:Expr):PT X e (tBo X.K T.cl (xOf X) (r.t lc e)):=by rw [h.K];exact R.t lc X h e
theorem EvOk.ix (R:EvOk T k r) (h:CxOk T k lc X) (g e:Expr):PI X g e (tIt X.K T.cl (xOf X) (r.i lc g e)):=by rw [h.K];exact R.i lc X h g e
theorem EvOk.sx (R:EvOk T k r) (h:CxOk T k lc X) (a:lc.fr=true) (st:Stmt):PS X st (sD X.K T.cl (xOf X) (r.s lc st)):=by rw [h.K];exact R.s lc X h a st
theorem CxOk.u64 (h:CxOk T k lc X):X.A.units+64<cLine:=h.room.units
theorem CxOk.u80 (h:CxOk T k lc X):X.A.units+80<cLine:=by have:=h.room.un;omega
theorem CxOk.u1 (h:CxOk T k lc X):X.A.units+1<cLine:=yx h.room
theorem CxOk.gl (h:CxOk T k lc X) {x:Str} (a:glB lc.sc x=true):Gl X x:=by
 show X.env.kindOf x=_;unfold PySem.Env.kindOf;rw [h.sc];exact Fi a
theorem TxOk.none (a:TxOk T Γ k C) (h:CxOk T k lc X) {x:Str} (b:x∈bnames) (e:Γ.gl.lookup x=none):X.mg x=none:=by rw [h.mg];exact a.blt x b e
theorem CxOk.nd' (h:CxOk T k lc X):X.N.Nodup:=by rw [h.N];exact h.nd
theorem CxOk.fn1 (h:CxOk T k lc X) (a:lc.fr=true) {x:Str}:X.fn x=true:=by rw [h.fn];exact a
theorem CxOk.room0 (h:CxOk T k lc X) (a:quiet lc=false):Room false k X.A:=by have:=h.room;rw [a] at this;exact this
theorem CxOk.nox (h:CxOk T k lc X):CxOk T k lc X.nox:=⟨h.prog,h.w,h.K,h.mg,h.base,h.N,h.nd,h.sc,h.calm,h.room,PassesOwn.never,h.fn,h.kd,h.own,h.code⟩
end
abbrev Cf:=Nat->List D->M D
structure RuE:Type 1 where
 is:Gm->Lc->Expr->Bool
 run:Ev->Gm->Cf->Lc->Expr->Env->M D
 ok:∀ {T:Tx} {k:Nat} {r:Ev} {Γ:Gm} {C:Cf} {lc:Lc} {X:Cx} (e:Expr),EvOk T k r->TxOk T Γ k C->CxOk T k lc X->is Γ lc e=true->PE X e (tD X.K T.cl (xOf X) (run r Γ C lc e))
 runK:EvK->Gm->Cf->Lc->Expr->Env->∀ {α:Type},(D->M α)->M α
 eq:∀ {r:Ev} {q:EvK} {Γ:Gm} {C:Cf} {lc:Lc} (e:Expr) (ρ:Env) {α:Type} (k:D->M α),EqK r q->runK q Γ C lc e ρ k=bind (run r Γ C lc e ρ) k
structure RuT:Type 1 where
 is:Gm->Lc->Expr->Bool
 run:Ev->Gm->Cf->Lc->Expr->Env->M Bool
 ok:∀ {T:Tx} {k:Nat} {r:Ev} {Γ:Gm} {C:Cf} {lc:Lc} {X:Cx} (e:Expr),EvOk T k r->TxOk T Γ k C->CxOk T k lc X->is Γ lc e=true->PT X e (tBo X.K T.cl (xOf X) (run r Γ C lc e))
 runK:EvK->Gm->Cf->Lc->Expr->Env->∀ {α:Type},(Bool->M α)->M α
 eq:∀ {r:Ev} {q:EvK} {Γ:Gm} {C:Cf} {lc:Lc} (e:Expr) (ρ:Env) {α:Type} (k:Bool->M α),EqK r q->runK q Γ C lc e ρ k=bind (run r Γ C lc e ρ) k
structure RuS:Type 1 where
 is:Gm->Lc->Stmt->Bool
 run:Ev->Gm->Cf->Lc->Stmt->Env->M Fl
 ok:∀ {T:Tx} {k:Nat} {r:Ev} {Γ:Gm} {C:Cf} {lc:Lc} {X:Cx} (e:Stmt),EvOk T k r->TxOk T Γ k C->CxOk T k lc X->lc.fr=true->is Γ lc e=true->PS X e (sD X.K T.cl (xOf X) (run r Γ C lc e))
 runK:EvK->Gm->Cf->Lc->Stmt->Env->∀ {α:Type},(Fl->M α)->M α
 eq:∀ {r:Ev} {q:EvK} {Γ:Gm} {C:Cf} {lc:Lc} (e:Stmt) (ρ:Env) {α:Type} (k:Fl->M α),EqK r q->runK q Γ C lc e ρ k=bind (run r Γ C lc e ρ) k
structure RuI:Type 1 where
 is:Gm->Lc->Expr->Expr->Bool
 run:Ev->Gm->Cf->Lc->Expr->Env->M (Src×Nat)
 ok:∀ {T:Tx} {k:Nat} {r:Ev} {Γ:Gm} {C:Cf} {lc:Lc} {X:Cx} (g e:Expr),EvOk T k r->TxOk T Γ k C->CxOk T k lc X->is Γ lc g e=true->PI X g e (tIt X.K T.cl (xOf X) (run r Γ C lc e))
 runK:EvK->Gm->Cf->Lc->Expr->Env->∀ {α:Type},(Src×Nat->M α)->M α
 eq:∀ {r:Ev} {q:EvK} {Γ:Gm} {C:Cf} {lc:Lc} (e:Expr) (ρ:Env) {α:Type} (k:Src×Nat->M α),EqK r q->runK q Γ C lc e ρ k=bind (run r Γ C lc e ρ) k
structure Rules:Type 1 where
 es:List RuE
 ts:List RuT
 ss:List RuS
 is:List RuI
section
variable (Rs:Rules) (Γ:Gm) (C:Cf)
def step (r:Ev):Ev:=
 ⟨λa e=>match Rs.es.find? (λR=>R.is Γ a e) with
  | some R=>R.run r Γ C a e
  | none=>λ_=>bad,
 λa e=>match Rs.ts.find? (λR=>R.is Γ a e) with
  | some R=>R.run r Γ C a e
  | none=>λ_=>bad,
 λa e=>match Rs.ss.find? (λR=>R.is Γ a e) with
  | some R=>R.run r Γ C a e
  | none=>λ_=>bad,
 λa g e=>match Rs.is.find? (λR=>R.is Γ a g e) with
  | some R=>R.run r Γ C a e
  | none=>λ_=>bad⟩
def badEv:Ev:=⟨λ_ _ _=>bad,λ_ _ _=>bad,λ_ _ _=>bad,λ_ _ _ _=>bad⟩
def ev:Nat->Ev
 | 0=>badEv
 | n+1=>step Rs Γ C (ev n)
def vn (q:EvK):EvK:=
 ⟨λa e ρ _ k=>match Rs.es.find? (λR=>R.is Γ a e) with
  | some R=>R.runK q Γ C a e ρ k
  | none=>bad,
 λa e ρ _ k=>match Rs.ts.find? (λR=>R.is Γ a e) with
  | some R=>R.runK q Γ C a e ρ k
  | none=>bad,
 λa e ρ _ k=>match Rs.ss.find? (λR=>R.is Γ a e) with
  | some R=>R.runK q Γ C a e ρ k
  | none=>bad,
 λa g e ρ _ k=>match Rs.is.find? (λR=>R.is Γ a g e) with
  | some R=>R.runK q Γ C a e ρ k
  | none=>bad⟩
def Ch:EvK:=⟨λ_ _ _ _ _=>bad,λ_ _ _ _ _=>bad,λ_ _ _ _ _=>bad,λ_ _ _ _ _ _=>bad⟩
def evK:Nat->EvK
 | 0=>Ch
 | n+1=>vn Rs Γ C (evK n)
end
section
variable {Rs:Rules} {T:Tx} {k:Nat} {r:Ev} {q:EvK} {Γ:Gm} {C:Cf} {lc:Lc} {X:Cx}
theorem si (d:TxOk T Γ k C) (R:EvOk T k r):EvOk T k (step Rs Γ C r):=by
 refine ⟨λa X h e=>?_,λa X h e=>?_,λa X h c e=>?_,λa X h g e=>?_⟩
 ·rw [<- h.K];show PE X e (tD X.K T.cl (xOf X) (match Rs.es.find? (λR=>R.is Γ a e) with
   | some R=>R.run r Γ C a e
   | none=>λ_=>bad))
  cases c:Rs.es.find? (λR=>R.is Γ a e) with
  | none=>exact f7
  | some b=>exact b.ok e R d h (by have:=Hu c;exact this)
 ·rw [<- h.K];show PT X e (tBo X.K T.cl (xOf X) (match Rs.ts.find? (λR=>R.is Γ a e) with
   | some R=>R.run r Γ C a e
   | none=>λ_=>bad))
  cases c:Rs.ts.find? (λR=>R.is Γ a e) with
  | none=>exact gW
  | some b=>exact b.ok e R d h (by have:=Hu c;exact this)
 ·rw [<- h.K];show PS X e (sD X.K T.cl (xOf X) (match Rs.ss.find? (λR=>R.is Γ a e) with
   | some R=>R.run r Γ C a e
   | none=>λ_=>bad))
  cases f:Rs.ss.find? (λR=>R.is Γ a e) with
  | none=>exact F1
  | some b=>exact b.ok e R d h c (by have:=Hu f;exact this)
 ·rw [<- h.K];show PI X g e (tIt X.K T.cl (xOf X) (match Rs.is.find? (λR=>R.is Γ a g e) with
   | some R=>R.run r Γ C a e
   | none=>λ_=>bad))
  cases c:Rs.is.find? (λR=>R.is Γ a g e) with
  | none=>exact jT
  | some b=>exact b.ok g e R d h (by have:=Hu c;exact this)
theorem lX:EvOk T k badEv:=⟨λa X h e=>by rw [<- h.K];exact f7,λa X h e=>by rw [<- h.K];exact gW,λa X h _ st=>by rw [<- h.K];exact F1,λa X h g e=>by rw [<- h.K];exact jT⟩
theorem nH (a:TxOk T Γ k C):∀ n,EvOk T k (ev Rs Γ C n)
 | 0=>lX
 | n+1=>si a (nH a n)
theorem rN (h:EqK r q):EqK (step Rs Γ C r) (vn Rs Γ C q):=by
 refine ⟨λa e ρ _ k=>?_,λa e ρ _ k=>?_,λa e ρ _ k=>?_,λa g e ρ _ k=>?_⟩
 ·show (match Rs.es.find? (λR=>R.is Γ a e) with
   | some R=>R.runK q Γ C a e ρ k
   | none=>bad)=bind ((match Rs.es.find? (λ(R:RuE)=>R.is Γ a e) with
   | some R=>R.run r Γ C a e
   | none=>λ_=>bad) ρ) k
  cases Rs.es.find? (λR=>R.is Γ a e) with
  | none=>rfl
  | some b=>exact b.eq e ρ k h
 ·show (match Rs.ts.find? (λR=>R.is Γ a e) with
   | some R=>R.runK q Γ C a e ρ k
   | none=>bad)=bind ((match Rs.ts.find? (λ(R:RuT)=>R.is Γ a e) with
   | some R=>R.run r Γ C a e
   | none=>λ_=>bad) ρ) k
  cases Rs.ts.find? (λR=>R.is Γ a e) with
  | none=>rfl
  | some b=>exact b.eq e ρ k h
 ·show (match Rs.ss.find? (λR=>R.is Γ a e) with
   | some R=>R.runK q Γ C a e ρ k
   | none=>bad)=bind ((match Rs.ss.find? (λ(R:RuS)=>R.is Γ a e) with
   | some R=>R.run r Γ C a e
   | none=>λ_=>bad) ρ) k
  cases Rs.ss.find? (λR=>R.is Γ a e) with
  | none=>rfl
  | some b=>exact b.eq e ρ k h
 ·show (match Rs.is.find? (λR=>R.is Γ a g e) with
   | some R=>R.runK q Γ C a e ρ k
   | none=>bad)=bind ((match Rs.is.find? (λ(R:RuI)=>R.is Γ a g e) with
   | some R=>R.run r Γ C a e
   | none=>λ_=>bad) ρ) k
  cases Rs.is.find? (λR=>R.is Γ a g e) with
  | none=>rfl
  | some b=>exact b.eq e ρ k h
theorem vZ:∀ n,EqK (ev Rs Γ C n) (evK Rs Γ C n)
 | 0=>⟨λ_ _ _ _ _=>rfl,λ_ _ _ _ _=>rfl,λ_ _ _ _ _=>rfl,λ_ _ _ _ _ _=>rfl⟩
 | n+1=>rN (vZ n)
end
section
variable (r:Ev) (q:EvK) (lc:Lc)
def v5:List Expr->Env->M (List D)
 | [],_=>ret []
 | e :: es,ρ=>bind (r.e lc e ρ) λd=>bind (v5 es ρ) λds=>ret (d :: ds)
def A3 {a:Type}:List Expr->Env->(List D->M a)->M a
 | [],_,k=>k []
 | e :: es,ρ,k=>q.e lc e ρ λd=>A3 es ρ λds=>k (d :: ds)
def V4:List Stmt->Env->M Fl
 | [],ρ=>ret (.nx ρ)
 | st :: a,ρ=>Ae (r.s lc st) (V4 a) ρ
def k6 {d:Type}:List Stmt->Env->(Fl->M d)->M d
 | [],ρ,k=>k (.nx ρ)
 | st :: a,ρ,k=>q.s lc st ρ λb=>match b with
  | .nx c=>k6 a c k
  | b=>k b
end
section
variable {T:Tx} {k:Nat} {r:Ev} {q:EvK} {Γ:Gm} {C:Cf} {lc:Lc} {X:Cx} {pos:Pos}
theorem m3 (h:EqK r q):∀ (es:List Expr) (ρ:Env) {a:Type} (k:List D->M a),A3 q lc es ρ k=bind (v5 r lc es ρ) k
 | [],_,_,_=>rfl
 | e :: es,ρ,_,k=>by
  show q.e lc e ρ (λd=>A3 q lc es ρ λds=>k (d :: ds))=bind (bind (r.e lc e ρ) λd=>bind (v5 r lc es ρ) λds=>ret (d :: ds)) k;rw [h.e,bind_assoc];congr;funext d;rw [m3 h,bind_assoc];rfl
theorem aq (h:EqK r q):∀ (sts:List Stmt) (ρ:Env) {α:Type} (k:Fl->M α),k6 q lc sts ρ k=bind (V4 r lc sts ρ) k
 | [],_,_,_=>rfl
 | st :: sts,ρ,_,k=>by
  show (q.s lc st ρ λfl=>match fl with
   | .nx ρ'=>k6 q lc sts ρ' k
   | fl=>k fl)=bind (bind (r.s lc st ρ) λfl=>match fl with
   | .nx ρ'=>V4 r lc sts ρ'
   | fl=>ret fl) k
  rw [h.s,bind_assoc];congr;funext fl;cases fl with
  | nx ρ'=>exact aq h sts ρ' k
  | bk ρ'=>rfl
  | ct ρ'=>rfl
  | rt d=>rfl
theorem m4 (R:EvOk T k r) (h:CxOk T k lc X):∀ {es:List Expr},es.all noStar=true->PA X es (tDs X.K T.cl (xOf X) (v5 r lc es))
 | [],_=>tY
 | e :: es,hs=>by
  rw [Fb,Dt] at hs;exact pU (R.ex h e) (m4 R h hs.2) hs.1
theorem O1 (R:EvOk T k r) (h:CxOk T k lc X) (b:lc.fr=true):∀ {a:List Stmt},PSs X a (sD X.K T.cl (xOf X) (V4 r lc a))
 | []=>pQ
 | st :: a=>rT (R.sx h b st) (O1 R h b)
end
def yW (c:Const):M D:=match c with
 | .int i=>ret (.int i)
 | .bool b=>ret (.bl b)
 | .none=>ret .non
 | .str x=>ret (.str x)
 | _=>bad
def wD {a:Type} (c:Const) (k:D->M a):M a:=match c with
 | .int i=>k (.int i)
 | .bool b=>k (.bl b)
 | .none=>k .non
 | .str x=>k (.str x)
 | _=>bad
def wn:RuE where
 is _ _ e:=match e with
  | .Constant _ _ _=>true
  | _=>false
 run _ _ _ _ e _:=match e with
  | .Constant c _ _=>yW c
  | _=>bad
 ok e R TX h hi:=by
  cases e with
  | Constant c n p=>
   cases c <;> first
    | exact J6 nE λ_ _=>.int _
    | exact J6 Bq λ_ _=>.bl _
    | exact J6 wY λ_ _=>.non
    | exact J6 xW λ_ _=>.str _
    | exact f7
  | _=>exact f7
 runK _ _ _ _ e _ _ k:=match e with
  | .Constant c _ _=>wD c k
  | _=>bad
 eq e ρ _ k h:=by
  cases e with
  | Constant c n p=>cases c <;> rfl
  | _=>rfl
def eK (Γ:Gm) (a:Lc) (x:Str) (ρ:Env):M D:=match f8 a.N x with
 | some i=>if pq a.sc x=true then getD i ρ else bad
 | none=>if glB a.sc x=true then (match Γ.gl.lookup x with
  | some (.val d)=>ret d
  | _=>bad) else bad
def zl {a:Type} (i:Nat) (ρ:Env) (k:D->M a):M a:=match ρ[i]? with
 | some (some d)=>k d
 | _=>bad
def pb {b:Type} (Γ:Gm) (a:Lc) (x:Str) (ρ:Env) (k:D->M b):M b:=match f8 a.N x with
 | some i=>if pq a.sc x=true then zl i ρ k else bad
 | none=>if glB a.sc x=true then (match Γ.gl.lookup x with
  | some (.val d)=>k d
  | _=>bad) else bad
theorem tu {Γ:Gm} {C:Cf} {lc:Lc} {X:Cx} {pos:Pos} (TX:TxOk T Γ k C) (h:CxOk T k lc X) {x:Str} (hn:o8 x=true):PE X (.Name x pos) (tD X.K T.cl (xOf X) (eK Γ lc x)):=by
 unfold eK;obtain ⟨n1,n2,n3⟩:=p4 hn;cases e:f8 lc.N x with
 | some i=>
  by_cases hv:pq lc.sc x=true
  ·simp only [if_pos hv];exact xJ (fh (by rw [h.N];exact u6 e) (by rw [h.sc];exact tX hv) n1 n2)
  ·simp only [if_neg hv];exact f7
 | none=>
  by_cases hv:glB lc.sc x=true
  ·simp only [if_pos hv];cases e2:Γ.gl.lookup x with
   | none=>exact f7
   | some g=>
    cases g with
    | val d=>
     obtain ⟨u,v,e3,rv,rd⟩:=TX.val x d e2;exact J6 (ci (h.gl hv) (by rw [h.mg];exact e3) rv n1) λμ H=>by rw [h.K];exact rd μ H
    | fn i n=>exact f7
    | err c fs=>exact f7
    | dct kvs=>exact f7
  ·simp only [if_neg hv];exact f7
theorem uL (Γ:Gm) (a:Lc) (x:Str) (ρ:Env) {b:Type} (k:D->M b):pb Γ a x ρ k=bind (eK Γ a x ρ) k:=by
 unfold pb eK;cases f8 a.N x with
 | some i=>
  simp only [];split
  ·unfold zl getD;cases ρ[i]? with
   | none=>rfl
   | some o=>cases o <;> rfl
  ·rfl
 | none=>
  simp only [];split
  ·cases Γ.gl.lookup x with
   | none=>rfl
   | some g=>cases g <;> rfl
  ·rfl
def zI:RuE where
 is _ _ e:=match e with
  | .Name x _=>o8 x
  | _=>false
 run _ Γ _ lc e ρ:=match e with
  | .Name x _=>eK Γ lc x ρ
  | _=>bad
 ok e R TX h hi:=by
  cases e with
  | Name x p=>exact tu TX h hi
  | _=>exact f7
 runK _ Γ _ lc e ρ _ k:=match e with
  | .Name x _=>pb Γ lc x ρ k
  | _=>bad
 eq e ρ _ k h:=by
  cases e with
  | Name x p=>exact uL _ _ x ρ k
  | _=>rfl
def xf (op:Operator):D->D->M D:=match op with
 | .Add=>aj
 | .Sub=>ng
 | .Mult=>cq
 | .Mod=>Q8
 | .FloorDiv=>W4
 | .Pow=>sw
 | _=>λ_ _=>bad
def d7 (op:CmpOp):D->D->M D:=match op with
 | .Eq=>eqD false
 | .NotEq=>eqD true
 | .Lt=>oW λi j=>decide (i<j)
 | .LtE=>oW λi j=>decide (i<=j)
 | .Gt=>oW λi j=>decide (j<i)
 | .GtE=>oW λi j=>decide (j<=i)
 | .In=>inD false
 | .NotIn=>inD true
 | .Is=>isD false
 | .IsNot=>isD true
theorem wz (op:Operator):OpR X (binaryOp op) (rP2 X.K cl xe (xf op)):=by
 cases op <;> first
  | exact zX
  | exact AO
  | exact za
  | exact zx
  | exact yq
  | exact BS
  | exact λpins s σ H x y v u Q I a c ⟨μ,S,d,e,f,b,g,p⟩=>p.elim
theorem T8 (h:CxOk T k lc X) (op:CmpOp):OpR X (compareOp op) (rP2 X.K cl xe (d7 op)):=by
 cases op
 case Eq=>exact CA h.u64
 case NotEq=>exact DM h.u64
 case Lt=>exact iH Bo
 case LtE=>exact iH BV
 case Gt=>exact iH Az
 case GtE=>exact iH AY
 case In=>exact zi false h.u80
 case NotIn=>exact zi true h.u80
 case Is=>exact zN false
 case IsNot=>exact zN true
def CC:RuE where
 is _ _ e:=match e with
  | .BinOp _ _ _ _=>true
  | _=>false
 run r _ _ lc e ρ:=match e with
  | .BinOp a op b _=>bind (r.e lc a ρ) λx=>bind (r.e lc b ρ) λy=>xf op x y
  | _=>bad
 ok e R TX h hi:=by
  cases e with
  | BinOp a op b p=>exact xB (R.ex h _) (R.ex h _) (wz _)
  | _=>exact f7
 runK q _ _ lc e ρ _ k:=match e with
  | .BinOp a op b _=>q.e lc a ρ λx=>q.e lc b ρ λy=>bind (xf op x y) k
  | _=>bad
 eq e ρ _ k h:=by
  cases e with
  | BinOp a op b p=>simp only [h.e,bind_assoc]
  | _=>rfl
def CF:RuE where
 is _ _ e:=match e with
  | .UnaryOp .Not _ _=>true
  | _=>false
 run r _ _ lc e ρ:=match e with
  | .UnaryOp .Not a _=>bind (r.e lc a ρ) λd=>bind (o7 d) λk=>ret (.bl (!k))
  | _=>bad
 ok e R TX h hi:=by
  split at hi
  ·exact wv (R.ex h _)
  ·cases hi
 runK q _ _ lc e ρ _ k:=match e with
  | .UnaryOp .Not a _=>q.e lc a ρ λd=>bind (o7 d) λc=>k (.bl (!c))
  | _=>bad
 eq e ρ _ k h:=by
  split
  ·simp only [h.e,bind_assoc,i7]
  ·first
   | rfl
   | (rename_i b;split;exact (b _ _ rfl).elim;rfl)
def DP:RuE where
 is _ _ e:=match e with
  | .UnaryOp .USub _ _=>true
  | _=>false
 run r _ _ lc e ρ:=match e with
  | .UnaryOp .USub a _=>bind (r.e lc a ρ) cr
  | _=>bad
 ok e R TX h hi:=by
  split at hi
  ·exact xn (R.ex h _)
  ·cases hi
 runK q _ _ lc e ρ _ k:=match e with
  | .UnaryOp .USub a _=>q.e lc a ρ λd=>bind (cr d) k
  | _=>bad
 eq e ρ _ k h:=by
  split
  ·simp only [h.e,bind_assoc]
  ·first
   | rfl
   | (rename_i b;split;exact (b _ _ rfl).elim;rfl)
section
variable (r:Ev) (q:EvK) (lc:Lc)
def my:List Expr->Env->M D
 | [],_=>bad
 | [a],ρ=>r.e lc a ρ
 | a :: b :: es,ρ=>bind (r.e lc a ρ) λd=>bind (o7 d) λq=>if q=true then my (b :: es) ρ else ret d
def orE:List Expr->Env->M D
 | [],_=>bad
 | [a],ρ=>r.e lc a ρ
 | a :: b :: es,ρ=>bind (r.e lc a ρ) λd=>bind (o7 d) λq=>if q=true then ret d else orE (b :: es) ρ
def tz {e:Type}:List Expr->Env->(D->M e)->M e
 | [],_,_=>bad
 | [a],ρ,k=>q.e lc a ρ k
 | a :: b :: es,ρ,k=>q.e lc a ρ λd=>bind (o7 d) λc=>if c=true then tz (b :: es) ρ k else k d
def orK {e:Type}:List Expr->Env->(D->M e)->M e
 | [],_,_=>bad
 | [a],ρ,k=>q.e lc a ρ k
 | a :: b :: es,ρ,k=>q.e lc a ρ λd=>bind (o7 d) λc=>if c=true then k d else orK (b :: es) ρ k
def nD:List Expr->Env->M Bool
 | [],_=>bad
 | [a],ρ=>r.t lc a ρ
 | a :: b :: es,ρ=>bind (r.t lc a ρ) λq=>if q=true then nD (b :: es) ρ else ret false
def orB:List Expr->Env->M Bool
 | [],_=>bad
 | [a],ρ=>r.t lc a ρ
 | a :: b :: es,ρ=>bind (r.t lc a ρ) λq=>if q=true then ret true else orB (b :: es) ρ
def jL {d:Type}:List Expr->Env->(Bool->M d)->M d
 | [],_,_=>bad
 | [a],ρ,k=>q.t lc a ρ k
 | a :: b :: es,ρ,k=>q.t lc a ρ λc=>if c=true then jL (b :: es) ρ k else k false
def sG {d:Type}:List Expr->Env->(Bool->M d)->M d
 | [],_,_=>bad
 | [a],ρ,k=>q.t lc a ρ k
 | a :: b :: es,ρ,k=>q.t lc a ρ λc=>if c=true then k true else sG (b :: es) ρ k
end
section
variable {T:Tx} {k:Nat} {r:Ev} {q:EvK} {Γ:Gm} {C:Cf} {lc:Lc} {X:Cx} {pos:Pos}
theorem nI (R:EvOk T k r) (h:CxOk T k lc X):∀ {es:List Expr},PE X (.BoolOp .And es pos) (tD X.K T.cl (xOf X) (my r lc es))
 | []=>f7
 | [a]=>pE (R.ex h a)
 | a :: b :: es=>wH (R.ex h a) (nI R h)
theorem vF (R:EvOk T k r) (h:CxOk T k lc X):∀ {es:List Expr},PE X (.BoolOp .Or es pos) (tD X.K T.cl (xOf X) (orE r lc es))
 | []=>f7
 | [a]=>pE (R.ex h a)
 | a :: b :: es=>zd (R.ex h a) (vF R h)
theorem iz (R:EvOk T k r) (h:CxOk T k lc X):∀ {es:List Expr},PW X (.BoolOp .And es pos) (tBo X.K T.cl (xOf X) (nD r lc es))
 | []=>pw_bad
 | [a]=>qU (R.tx h a)
 | a :: b :: es=>vy (R.tx h a) (iz R h)
theorem mO (R:EvOk T k r) (h:CxOk T k lc X):∀ {es:List Expr},PW X (.BoolOp .Or es pos) (tBo X.K T.cl (xOf X) (orB r lc es))
 | []=>pw_bad
 | [a]=>wI (R.tx h a)
 | a :: b :: es=>zu (R.tx h a) (mO R h)
theorem lT (h:EqK r q):∀ (es:List Expr) (ρ:Env) {c:Type} (k:D->M c),tz q lc es ρ k=bind (my r lc es ρ) k
 | [],_,_,_=>rfl
 | [a],ρ,_,k=>h.e lc a ρ k
 | a :: b :: es,ρ,_,k=>by simp only [tz,my,h.e,bind_assoc,m9,lT h (b :: es),i7]
theorem vi (h:EqK r q):∀ (es:List Expr) (ρ:Env) {c:Type} (k:D->M c),orK q lc es ρ k=bind (orE r lc es ρ) k
 | [],_,_,_=>rfl
 | [a],ρ,_,k=>h.e lc a ρ k
 | a :: b :: es,ρ,_,k=>by simp only [orK,orE,h.e,bind_assoc,m9,vi h (b :: es),i7]
theorem hJ (h:EqK r q):∀ (es:List Expr) (ρ:Env) {c:Type} (k:Bool->M c),jL q lc es ρ k=bind (nD r lc es ρ) k
 | [],_,_,_=>rfl
 | [a],ρ,_,k=>h.t lc a ρ k
 | a :: b :: es,ρ,_,k=>by simp only [jL,nD,h.t,bind_assoc,m9,hJ h (b :: es),i7]
theorem nG (h:EqK r q):∀ (es:List Expr) (ρ:Env) {c:Type} (k:Bool->M c),sG q lc es ρ k=bind (orB r lc es ρ) k
 | [],_,_,_=>rfl
 | [a],ρ,_,k=>h.t lc a ρ k
 | a :: b :: es,ρ,_,k=>by simp only [sG,orB,h.t,bind_assoc,m9,nG h (b :: es),i7]
end
def zq:RuE where
 is _ _ e:=match e with
  | .BoolOp _ _ _=>true
  | _=>false
 run r _ _ lc e ρ:=match e with
  | .BoolOp .And es _=>my r lc es ρ
  | .BoolOp .Or es _=>orE r lc es ρ
  | _=>bad
 ok e R TX h hi:=by
  cases e with
  | BoolOp op es p=>cases op;exact nI R h;exact vF R h
  | _=>exact f7
 runK q _ _ lc e ρ _ k:=match e with
  | .BoolOp .And es _=>tz q lc es ρ k
  | .BoolOp .Or es _=>orK q lc es ρ k
  | _=>bad
 eq e ρ _ k h:=by
  cases e with
  | BoolOp op es p=>cases op;exact lT h es ρ k;exact vi h es ρ k
  | _=>rfl
def Cb:RuE where
 is _ _ e:=match e with
  | .Compare _ [_] [b] _=>n8 b
  | _=>false
 run r _ _ lc e ρ:=match e with
  | .Compare a [op] [b] _=>bind (r.e lc a ρ) λx=>bind (r.e lc b ρ) λy=>d7 op x y
  | _=>bad
 ok e R TX h hi:=by
  split at hi
  ·exact wg (R.ex h _) (R.ex h _) (T8 h _) (L5 hi)
  ·cases hi
 runK q _ _ lc e ρ _ k:=match e with
  | .Compare a [op] [b] _=>q.e lc a ρ λx=>q.e lc b ρ λy=>bind (d7 op x y) k
  | _=>bad
 eq e ρ _ k h:=by
  split
  ·simp only [h.e,bind_assoc]
  ·first
   | rfl
   | (rename_i c;split;exact (c _ _ _ _ rfl).elim;rfl)
def rIf:RuE where
 is _ _ e:=match e with
  | .IfExp _ _ _ _=>true
  | _=>false
 run r _ _ lc e ρ:=match e with
  | .IfExp c a b _=>bind (r.t lc c ρ) λq=>if q=true then r.e lc a ρ else r.e lc b ρ
  | _=>bad
 ok e R TX h hi:=by
  cases e with
  | IfExp c a b p=>exact zM (R.tx h _) (R.ex h _) (R.ex h _)
  | _=>exact f7
 runK q _ _ lc e ρ _ k:=match e with
  | .IfExp c a b _=>q.t lc c ρ λz=>if z=true then q.e lc a ρ k else q.e lc b ρ k
  | _=>bad
 eq e ρ _ k h:=by
  cases e with
  | IfExp c a b p=>simp only [h.e,h.t,bind_assoc,m9]
  | _=>rfl
def DA:RuE where
 is _ _ e:=match e with
  | .Tuple es _ _=>es.all noStar
  | _=>false
 run r _ _ lc e ρ:=match e with
  | .Tuple es _ _=>bind (v5 r lc es ρ) xV
  | _=>bad
 ok e R TX h hi:=by
  cases e with
  | Tuple es n p=>exact ye (m4 R h hi)
  | _=>exact f7
 runK q _ _ lc e ρ _ k:=match e with
  | .Tuple es _ _=>A3 q lc es ρ λds=>bind (xV ds) k
  | _=>bad
 eq e ρ _ k h:=by
  cases e with
  | Tuple es n p=>simp only [m3 h,bind_assoc]
  | _=>rfl
def Cg:RuE where
 is _ _ e:=match e with
  | .List es _=>es.all noStar
  | _=>false
 run r _ _ lc e ρ:=match e with
  | .List es _=>bind (v5 r lc es ρ) wK
  | _=>bad
 ok e R TX h hi:=by
  cases e with
  | List es p=>exact yK (m4 R h hi)
  | _=>exact f7
 runK q _ _ lc e ρ _ k:=match e with
  | .List es _=>A3 q lc es ρ λds=>bind (wK ds) k
  | _=>bad
 eq e ρ _ k h:=by
  cases e with
  | List es p=>simp only [m3 h,bind_assoc]
  | _=>rfl
def rIx:RuE where
 is _ _ e:=match e with
  | .Subscript _ i _=>E9 i
  | _=>false
 run r _ _ lc e ρ:=match e with
  | .Subscript a i _=>bind (r.e lc a ρ) λx=>bind (r.e lc i ρ) λy=>ixD x y
  | _=>bad
 ok e R TX h hi:=by
  cases e with
  | Subscript a i p=>exact Bl (R.ex h _) (R.ex h _) (DU h.u1) (gI hi)
  | _=>exact f7
 runK q _ _ lc e ρ _ k:=match e with
  | .Subscript a i _=>q.e lc a ρ λx=>q.e lc i ρ λy=>bind (ixD x y) k
  | _=>bad
 eq e ρ _ k h:=by
  cases e with
  | Subscript a i p=>simp only [h.e,bind_assoc]
  | _=>rfl
def fF (r:Ev) (a:Lc) (o:Option Expr) (ρ:Env):M (Option Int):=match o with
 | none=>ret none
 | some e=>bind (r.e a e ρ) kR
def iB (q:EvK) (b:Lc) {a:Type} (o:Option Expr) (ρ:Env) (k:Option Int->M a):M a:=match o with
 | none=>k none
 | some e=>q.e b e ρ λd=>bind (kR d) k
theorem sH (h:EqK r q) (o:Option Expr) (ρ:Env) {a:Type} (k:Option Int->M a):iB q lc o ρ k=bind (fF r lc o ρ) k:=by
 cases o with
 | none=>rfl
 | some e=>simp only [iB,fF,h.e,bind_assoc]
theorem jI (R:EvOk T k r) (h:CxOk T k lc X) {o:Option Expr}:PO X o (tPt X.K T.cl (xOf X) (fF r lc o)):=by
 cases o with
 | none=>exact sI
 | some e=>exact qT (R.ex h e)
def rSl:RuE where
 is _ _ e:=match e with
  | .Subscript _ (.Slice _ _ none _) _=>true
  | _=>false
 run r _ _ lc e ρ:=match e with
  | .Subscript a (.Slice lo b none _) _=>bind (r.e lc a ρ) λd=>bind (fF r lc lo ρ) λl=>bind (fF r lc b ρ) λu=>slD d l u
  | _=>bad
 ok e R TX h b:=by
  split at b
  ·exact An (R.ex h _) (jI R h) (jI R h)
  ·cases b
 runK q _ _ lc e ρ _ k:=match e with
  | .Subscript a (.Slice lo b none _) _=>q.e lc a ρ λd=>iB q lc lo ρ λl=>iB q lc b ρ λu=>bind (slD d l u) k
  | _=>bad
 eq e ρ _ k h:=by
  split
  ·simp only [h.e,sH h,bind_assoc]
  ·first
   | rfl
   | (rename_i c;split;exact (c _ _ _ _ _ rfl).elim;rfl)
def DW:RuE where
 is Γ _ e:=match e with
  | .Attribute a g _=>y0 a&&decide (g∈Γ.flds)
  | _=>false
 run r _ _ lc e ρ:=match e with
  | .Attribute a g _=>bind (r.e lc a ρ) (dM g)
  | _=>bad
 ok e R TX h hi:=by
  cases e with
  | Attribute a g p=>
   simp at hi;exact wy (λc xc=>by rw [h.K] at xc ⊢;exact TX.fld g hi.2 c xc) (R.ex h _) hi.1
  | _=>exact f7
 runK q _ _ lc e ρ _ k:=match e with
  | .Attribute a g _=>q.e lc a ρ λd=>bind (dM g d) k
  | _=>bad
 eq e ρ _ k h:=by
  cases e with
  | Attribute a g p=>simp only [h.e,bind_assoc]
  | _=>rfl
def wc:RuE where
 is _ _ e:=match e with
  | .Compare _ [_,_] [_,c] _=>n8 c
  | _=>false
 run r _ _ lc e ρ:=match e with
  | .Compare a [op,f] [b,c] _=>bind (r.e lc a ρ) λx=>bind (r.e lc b ρ) λy=>N5 (d7 op) (d7 f) x y (r.e lc c ρ)
  | _=>bad
 ok e R TX h hi:=by
  split at hi
  ·exact ly (R.ex h _) (R.ex h _) (R.ex h _) (T8 h _) (T8 h _) (L5 hi)
  ·cases hi
 runK q _ _ lc e ρ _ k:=match e with
  | .Compare a [op,f] [b,c] _=>q.e lc a ρ λx=>q.e lc b ρ λy=>bind (d7 op x y) λd=>bind (asB d) λz=>if z=true then q.e lc c ρ λw=>bind (d7 f y w) k else k (.bl false)
  | _=>bad
 eq e ρ _ k h:=by
  split
  ·simp only [h.e,N5,bind_assoc,m9,i7]
  ·first
   | rfl
   | (rename_i g;split;exact (g _ _ _ _ _ _ rfl).elim;rfl)
def xk:RuT where
 is _ _ e:=match e with
  | .UnaryOp .Not _ _=>true
  | _=>false
 run r _ _ lc e ρ:=match e with
  | .UnaryOp .Not a _=>bind (r.t lc a ρ) λq=>ret (!q)
  | _=>bad
 ok e R TX h hi:=by
  split at hi
  ·exact xy (R.tx h _)
  ·cases hi
 runK q _ _ lc e ρ _ k:=match e with
  | .UnaryOp .Not a _=>q.t lc a ρ λc=>k (!c)
  | _=>bad
 eq e ρ _ k h:=by
  split
  ·simp only [h.t,bind_assoc,i7]
  ·first
   | rfl
   | (rename_i b;split;exact (b _ _ rfl).elim;rfl)
def Aq:RuT where
 is _ _ e:=match e with
  | .BoolOp _ _ _=>true
  | _=>false
 run r _ _ lc e ρ:=match e with
  | .BoolOp .And es _=>nD r lc es ρ
  | .BoolOp .Or es _=>orB r lc es ρ
  | _=>bad
 ok e R TX h hi:=by
  cases e with
  | BoolOp op es p=>cases op;exact (iz R h).pt;exact (mO R h).pt
  | _=>exact gW
 runK q _ _ lc e ρ _ k:=match e with
  | .BoolOp .And es _=>jL q lc es ρ k
  | .BoolOp .Or es _=>sG q lc es ρ k
  | _=>bad
 eq e ρ _ k h:=by
  cases e with
  | BoolOp op es p=>cases op;exact hJ h es ρ k;exact nG h es ρ k
  | _=>rfl
def CY:RuT where
 is _ _ e:=match e with
  | .Compare _ [_] [b] _=>n8 b
  | _=>false
 run r _ _ lc e ρ:=match e with
  | .Compare a [op] [b] _=>bind (r.e lc a ρ) λx=>bind (r.e lc b ρ) λy=>bind (d7 op x y) asB
  | _=>bad
 ok e R TX h hi:=by
  split at hi
  ·exact yH (R.ex h _) (R.ex h _) (T8 h _) (L5 hi)
  ·cases hi
 runK q _ _ lc e ρ _ k:=match e with
  | .Compare a [op] [b] _=>q.e lc a ρ λx=>q.e lc b ρ λy=>bind (d7 op x y) λd=>bind (asB d) k
  | _=>bad
 eq e ρ _ k h:=by
  split
  ·simp only [h.e,bind_assoc]
  ·first
   | rfl
   | (rename_i c;split;exact (c _ _ _ _ rfl).elim;rfl)
def cI:RuT where
 is _ _ e:=match e with
  | .Compare _ [_,_] [_,c] _=>n8 c
  | _=>false
 run r _ _ lc e ρ:=match e with
  | .Compare a [op,f] [b,c] _=>bind (r.e lc a ρ) λx=>bind (r.e lc b ρ) λy=>bind (N5 (d7 op) (d7 f) x y (r.e lc c ρ)) asB
  | _=>bad
 ok e R TX h hi:=by
  split at hi
  ·exact lh (R.ex h _) (R.ex h _) (R.ex h _) (T8 h _) (T8 h _) (L5 hi)
  ·cases hi
 runK q _ _ lc e ρ _ k:=match e with
  | .Compare a [op,f] [b,c] _=>q.e lc a ρ λx=>q.e lc b ρ λy=>bind (d7 op x y) λd=>bind (asB d) λz=>if z=true then q.e lc c ρ λw=>bind (d7 f y w) λd=>bind (asB d) k else k false
  | _=>bad
 eq e ρ _ k h:=by
  split
  ·simp only [h.e,N5,bind_assoc,m9,i7];rfl
  ·first
   | rfl
   | (rename_i g;split;exact (g _ _ _ _ _ _ rfl).elim;rfl)
def yr:RuT where
 is _ _ e:=E3 e
 run r _ _ lc e ρ:=bind (r.e lc e ρ) o7
 ok e R TX h hi:=mD (R.ex h _) hi
 runK q _ _ lc e ρ _ k:=q.e lc e ρ λd=>bind (o7 d) k
 eq e ρ _ k h:=by simp only [h.e,bind_assoc]
def lZ (Γ:Gm) (x:Str) (p:Nat->Nat->Bool):Bool:=match Γ.gl.lookup x with
 | some (.fn i n)=>p i n
 | _=>false
theorem cn (h:lZ Γ x p=true):∃ i n,Γ.gl.lookup x=some (.fn i n)/\p i n=true:=by
 unfold lZ at h;grind
def rFn:RuE where
 is Γ lc e:=match e with
  | .Call (.Name x _) es [] _=>o8 x&&glB lc.sc x&&es.all noStar&&!quiet lc&&lZ Γ x λi n=>decide (es.length=n)&&decide (i∉Γ.qs)
  | _=>false
 run r Γ C lc e ρ:=match e with
  | .Call (.Name x _) es [] _=>(match Γ.gl.lookup x with
   | some (.fn i n)=>bind (v5 r lc es ρ) λds=>if ds.length=n then C i ds else bad
   | _=>bad)
  | _=>bad
 ok {T k r Γ C lc X} e R TX h hi:=by
  split at hi
  ·rename_i x p es pos;simp only [Dt,Fa] at hi;obtain ⟨⟨⟨⟨w,m⟩,c⟩,f⟩,v⟩:=hi;obtain ⟨s,E,D⟩:=p4 w;obtain ⟨i,n,l,b⟩:=cn v;simp at b;obtain ⟨a,fd,ps,B,A,y,z,u⟩:=(TX.fn x i n l b.2).ex;have F:FnOk X.prog X.w X.K X.mg X.base (CXd X.prog X.w X.K) k a fd ps (spX X.K T.cl n (C i)):=by rw [h.prog,h.w,h.K,h.mg,h.base];exact A
   have d:PySem.W.keepIn X.K (.ref a)=true:=by rw [h.K];exact z
   have j:Binds X.K fd ps []:=by rw [h.K];exact u
   have o:X.mg x=some (.ref a):=by rw [h.mg];exact y
   show PE X _ (tD X.K T.cl (xOf X) λρ=>(match Γ.gl.lookup x with
    | some (.fn i n)=>bind (v5 r lc es ρ) λds=>if ds.length=n then C i ds else bad
    | _=>bad))
   rw [l]
   match es,c,b with
   | [],_,b=>
    have:=b.1.symm;subst this;exact kq F (h.room0 f) (h.gl m) o d j s
   | e :: es,c,_=>exact mL F (h.room0 f) (h.gl m) o d j (m4 R h c) s c
  ·cases hi
 runK q Γ C lc e ρ _ k:=match e with
  | .Call (.Name x _) es [] _=>(match Γ.gl.lookup x with
   | some (.fn i n)=>A3 q lc es ρ λds=>if ds.length=n then bind (C i ds) k else bad
   | _=>bad)
  | _=>bad
 eq {r q Γ C lc} e ρ _ k h:=by
  split
  ·rename_i x p es pos;cases Γ.gl.lookup x with
   | none=>rfl
   | some g=>cases g <;> first | rfl | simp only [m3 h,bind_assoc,m9,aI]
  ·first
   | rfl
   | (rename_i t;split;exact (t _ _ _ _ rfl).elim;rfl)
def CJ:RuE where
 is Γ lc e:=match e with
  | .Call (.Name x _) (a :: es) [] _=>o8 x&&glB lc.sc x&&(a :: es).all noStar&&lZ Γ x λi n=>decide ((a :: es).length=n)&&decide (i∈Γ.qs)
  | _=>false
 run r Γ C lc e ρ:=match e with
  | .Call (.Name x _) es [] _=>(match Γ.gl.lookup x with
   | some (.fn i n)=>nx (bind (v5 r lc es ρ) λds=>if ds.length=n then C i ds else bad)
   | _=>bad)
  | _=>bad
 ok {T k r Γ C lc X} e R TX h hi:=by
  split at hi
  ·rename_i x p j es pos;simp only [Dt] at hi;obtain ⟨⟨⟨G,D⟩,m⟩,B⟩:=hi;obtain ⟨N,P,O⟩:=p4 G;obtain ⟨i,n,o,l⟩:=cn B;simp at l;obtain ⟨a,fd,ps,u,M,J,K,w⟩:=(TX.fnq x i n o l.2).ex;have d:FnOk X.prog X.w X.K X.mg X.base (CXq true) k a fd ps (spD X.K T.cl n (C i)):=by rw [h.prog,h.w,h.K,h.mg,h.base];exact M
   have F:FnOk X.prog X.w X.K X.mg X.base (CXq (quiet lc)) k a fd ps (spD X.K T.cl n (C i)):=by
    cases quiet lc with
    | true=>exact d
    | false=>exact ⟨d.len,λA b s H c us vs Q E y j f r h=>d.run A b s H c us vs Q E y.any j f r h⟩
   have v:PySem.W.keepIn X.K (.ref a)=true:=by rw [h.K];exact K
   have f:Binds X.K fd ps []:=by rw [h.K];exact w
   have I:X.mg x=some (.ref a):=by rw [h.mg];exact J
   show PE X _ (tD X.K T.cl (xOf X) λρ=>(match Γ.gl.lookup x with
    | some (.fn i n)=>nx (bind (v5 r lc (j :: es) ρ) λds=>if ds.length=n then C i ds else bad)
    | _=>bad))
   rw [o];have:=sQ (p:=p) (pos:=pos) u F h.room (h.gl D) I v f AV (PA.x0 (m4 R h m)) N m l.1;exact PE.imp this λσ H Q ⟨μ,S,ρ,L,z,p⟩=>⟨μ,S,ρ,L,z,p.nx⟩
  ·cases hi
 runK q Γ C lc e ρ _ k:=match e with
  | .Call (.Name x _) es [] _=>(match Γ.gl.lookup x with
   | some (.fn i n)=>bind (nx (A3 q lc es ρ λds=>if ds.length=n then C i ds else bad)) k
   | _=>bad)
  | _=>bad
 eq {r q Γ C lc} e ρ _ k h:=by
  split
  ·rename_i x p es pos;cases Γ.gl.lookup x with
   | none=>rfl
   | some g=>cases g <;> first | rfl | simp only [m3 h]
  ·first
   | rfl
   | (rename_i t;split;exact (t _ _ _ _ rfl).elim;rfl)
def ky (r:Ev) (Γ:Gm) (a:Lc) (x:Str) (es:List Expr) (ρ:Env):M D:=match Γ.gl.lookup x with
 | some (.err c fs)=>(match fs with
  | []=>bind (v5 r a es ρ) (lU c)
  | [g]=>bind (v5 r a es ρ) (K2 c [g])
  | [g,b]=>bind (v5 r a es ρ) (K2 c [g,b])
  | _=>bad)
 | _=>bad
def sJ (q:EvK) (Γ:Gm) (a:Lc) (x:Str) (es:List Expr) (ρ:Env) {b:Type} (k:D->M b):M b:=match Γ.gl.lookup x with
 | some (.err c fs)=>(match fs with
  | []=>A3 q a es ρ λds=>bind (lU c ds) k
  | [g]=>A3 q a es ρ λds=>bind (K2 c [g] ds) k
  | [g,d]=>A3 q a es ρ λds=>bind (K2 c [g,d] ds) k
  | _=>bad)
 | _=>bad
theorem lS (h:EqK r q) (x:Str) (es:List Expr) (ρ:Env) {α:Type} (k:D->M α):sJ q Γ lc x es ρ k=bind (ky r Γ lc x es ρ) k:=by
 unfold sJ ky;cases Γ.gl.lookup x with
 | none=>rfl
 | some g=>
  cases g with
  | err c fs=>
   match fs with
   | []=>simp only [m3 h,bind_assoc]
   | [g]=>simp only [m3 h,bind_assoc]
   | [g,g2]=>simp only [m3 h,bind_assoc]
   | _ :: _ :: _ :: _=>rfl
  | _=>rfl
theorem hY {C:Cf} {lc:Lc} {X:Cx} {x:Str} {p pos:Pos} {e:Expr} {es:List Expr} (R:EvOk T k r) (TX:TxOk T Γ k C) (h:CxOk T k lc X) (c1:o8 x=true) (c2:glB lc.sc x=true) (c3:(e :: es).all noStar=true) (c4:quiet lc=false) :
  PE X (.Call (.Name x p) (e :: es) [] pos) (tDf X.K T.cl (xOf X) (ky r Γ lc x (e :: es))):=by
 have bd:PE X (.Call (.Name x p) (e :: es) [] pos) (tDf X.K T.cl (xOf X) λρ=>bad):=λ_ _ _ _ _ _ ⟨_,_,_,_,_,z⟩=>z.elim;obtain ⟨n1,n2,n3⟩:=p4 c1;have ha:=m4 R h c3;unfold ky;cases e1:Γ.gl.lookup x with
 | none=>exact bd
 | some g=>
  cases g with
  | val d=>exact bd
  | fn i n=>exact bd
  | dct kvs=>exact bd
  | err c fs=>
   obtain ⟨ea,na⟩:=TX.err x c fs e1;obtain ⟨f,fd,ps,g1,g2,g3,g4⟩:=ea.ex;have xc:XC X.K (T.cl c):=by rw [h.K];exact ea.xc
   have hm:X.mg x=some (.ref (T.cl c)):=by rw [h.mg];exact ea.mg_
   have hr:=(h.room0 c4).mono TX.k3;have hi:PySem.W.findIn X.K (.ref (T.cl c)) "__init__" = some (some (.ref f)):=by rw [h.K];exact g1
   have hf:PySem.W.isFn X.K (.ref f)=true:=by rw [h.K];exact g2
   have hb:Binds X.K fd ps []:=by rw [h.K];exact g3
   match fs,g4,na with
   | [],g4,na=>exact pX xc hi hf (by rw [h.prog,h.w,h.K,h.mg,h.base];exact g4) hr (h.gl c2) hm hb W3 ha n1 c3
   | [g],g4,na=>exact pj xc (by rw [h.K];exact na g (by simp)) hi hf (by rw [h.prog,h.w,h.K,h.mg,h.base];exact g4) hr (h.gl c2) hm hb W3 ha n1 c3
   | [g,g'],g4,na=>exact nW xc (by rw [h.K];exact na g (by simp)) (by rw [h.K];exact na g' (by simp)) hi hf (by rw [h.prog,h.w,h.K,h.mg,h.base];exact g4) hr (h.gl c2) hm hb W3 ha n1 c3
   | _ :: _ :: _ :: _,g4,_=>exact g4.elim
def rC (Γ:Gm) (x:Str):Bool:=match Γ.gl.lookup x with
 | some (.err _ _)=>true
 | _=>false
def Cu:RuE where
 is Γ lc e:=match e with
  | .Call (.Name x _) (a :: es) [] _=>o8 x&&glB lc.sc x&&(a :: es).all noStar&&!quiet lc&&rC Γ x
  | _=>false
 run r Γ C lc e ρ:=match e with
  | .Call (.Name x _) (a :: es) [] _=>ky r Γ lc x (a :: es) ρ
  | _=>bad
 ok {T k r Γ C lc X} e R TX h hi:=by
  split at hi
  ·simp only [Dt,Fa] at hi;exact PE.unf (hY R TX h hi.1.1.1.1 hi.1.1.1.2 hi.1.1.2 hi.1.2)
  ·cases hi
 runK q Γ C lc e ρ _ k:=match e with
  | .Call (.Name x _) (a :: es) [] _=>sJ q Γ lc x (a :: es) ρ k
  | _=>bad
 eq {r q Γ C lc} e ρ _ k h:=by
  split
  ·exact lS h _ _ ρ k
  ·first
   | rfl
   | (rename_i b;split;exact (b _ _ _ _ _ rfl).elim;rfl)
def Q4 (Γ:Gm) (b:Lc) (x:Str) (a:Expr):Bool:=decide (x = "isinstance")&&(Γ.gl.lookup ("isinstance" : Str)).isNone&&glB b.sc "isinstance" && noStar a
theorem N8 (h:Q4 Γ lc x a=true):x = "isinstance"/\Γ.gl.lookup ("isinstance" : Str)=none/\glB lc.sc "isinstance" = true/\noStar a=true:=by
 simp only [Q4,Dt,Eh,Ey] at h;grind
def BQ:RuE where
 is Γ lc e:=match e with
  | .Call (.Name x _) [a,.Name y _] [] _=>Q4 Γ lc x a&&o8 y&&glB lc.sc y&&rC Γ y
  | _=>false
 run r Γ C lc e ρ:=match e with
  | .Call (.Name _ _) [a,.Name y _] [] _=>(match Γ.gl.lookup y with
   | some (.err c0 _)=>bind (r.e lc a ρ) (B0 λc=>Γ.sub c c0)
   | _=>bad)
  | _=>bad
 ok {T k r Γ C lc X} e R TX h hi:=by
  split at hi
  ·rename_i x p a y q pos;simp at hi;obtain ⟨⟨⟨c0,c1⟩,c2⟩,c3⟩:=hi;obtain ⟨rfl,i1,i2,i3⟩:=N8 c0;obtain ⟨n1,n2,n3⟩:=p4 c1;show PE X _ (tD X.K T.cl (xOf X) λρ=>(match Γ.gl.lookup y with
    | some (.err c0 _)=>bind (r.e lc a ρ) (B0 λc=>Γ.sub c c0)
    | _=>bad))
   cases e1:Γ.gl.lookup y with
   | none=>exact f7
   | some g=>
    cases g with
    | err c0 fs=>exact uQ (λc xc=>by rw [h.K] at xc ⊢;exact TX.sub y c c0 fs e1 xc) (R.ex h a) (h.gl i2) (TX.none h (by decide) i1) (h.gl c2) (by rw [h.mg];exact (TX.err y c0 fs e1).1.mg_) n1 i3
    | val d=>exact f7
    | fn i n=>exact f7
    | dct kvs=>exact f7
  ·cases hi
 runK q Γ C lc e ρ _ k:=match e with
  | .Call (.Name _ _) [a,.Name y _] [] _=>(match Γ.gl.lookup y with
   | some (.err c0 _)=>q.e lc a ρ λd=>bind (B0 (λc=>Γ.sub c c0) d) k
   | _=>bad)
  | _=>bad
 eq {r q Γ C lc} e ρ _ k h:=by
  split
  ·rename_i x p a y q pos;cases Γ.gl.lookup y with
   | none=>rfl
   | some g=>cases g <;> first | rfl | simp only [h.e,bind_assoc]
  ·first
   | rfl
   | (rename_i hn;split;exact (hn _ _ _ _ _ _ rfl).elim;rfl)
def btys:List (Str×String):=[("int","int"),("bool","bool"),("str","str"),("tuple","tuple"),("list","list"),("dict","dict"),("ValueError","ValueError")]
theorem sy:∀ {x:Str} {t:String},btys.lookup x=some t->bootBuiltins x=some (.type t)/\x∈bnames/\(t∈tys\/t = "ValueError"):=by
 intro x t e;have:∀ y∈btys,bootBuiltins y.1=some (.type y.2)/\y.1∈bnames/\(y.2∈tys\/y.2 = "ValueError"):=by
  intro y a;simp only [btys,Ea,Fo,Hm] at a;rcases a with rfl | rfl | rfl | rfl | rfl | rfl | rfl <;> exact ⟨rfl,by decide,by decide⟩
 exact this _ (L2.mem_of_lookup e)
def AJ:RuE where
 is Γ lc e:=match e with
  | .Call (.Name x _) [a,.Name y _] [] _=>Q4 Γ lc x a&&o8 y&&glB lc.sc y&&(Γ.gl.lookup y).isNone
  | _=>false
 run r Γ C lc e ρ:=match e with
  | .Call (.Name _ _) [a,.Name y _] [] _=>(match btys.lookup y with
   | some T=>bind (r.e lc a ρ) λd=>if T∈tys then U4 T (λ_=>false) d else B0 (λ_=>true) d
   | none=>bad)
  | _=>bad
 ok {T k r Γ C lc X} e R TX h hi:=by
  split at hi
  ·rename_i x p a y q pos;simp only [Dt,Ey] at hi;obtain ⟨⟨⟨c0,w⟩,v⟩,l⟩:=hi;obtain ⟨rfl,B,s,i⟩:=N8 c0;obtain ⟨m,D,n⟩:=p4 w;have j:=TX.none h (by decide) B;show PE X _ (tD X.K T.cl (xOf X) λρ=>(match btys.lookup y with
    | some T=>bind (r.e lc a ρ) λd=>if T∈tys then U4 T (λ_=>false) d else B0 (λ_=>true) d
    | none=>bad))
   cases A:btys.lookup y with
   | none=>exact f7
   | some t=>
    obtain ⟨o,u,f⟩:=sy A;by_cases g:t∈tys
    ·have:=hU (pos:=pos) (p:=p) (q:=q) (.inl g) (λc b=>by rw [h.K] at b ⊢;exact TX.subT c b t g) (R.ex h a) (h.gl s) j (h.gl v) (TX.none h u l) o n m i;simp only [if_pos g] at this ⊢;exact this
    ·rcases f with f | f
     ·exact absurd f g
     ·subst f;have:=hU (pos:=pos) (p:=p) (q:=q) (.inr rfl) (λc b=>by rw [h.K] at b ⊢;exact TX.subV c b) (R.ex h a) (h.gl s) j (h.gl v) (TX.none h u l) o n m i;exact this
  ·cases hi
 runK q Γ C lc e ρ _ k:=match e with
  | .Call (.Name _ _) [a,.Name y _] [] _=>(match btys.lookup y with
   | some T=>q.e lc a ρ λd=>if T∈tys then bind (U4 T (λ_=>false) d) k else bind (B0 (λ_=>true) d) k
   | none=>bad)
  | _=>bad
 eq {r q Γ C lc} e ρ _ k h:=by
  split
  ·rename_i x p a y q pos;cases btys.lookup y with
   | none=>rfl
   | some T=>simp only [h.e,bind_assoc,m9]
  ·first
   | rfl
   | (rename_i z;split;exact (z _ _ _ _ _ _ rfl).elim;rfl)
def aX (Γ:Gm) (a:Lc):List Expr->Option (List Nat)
 | []=>some []
 | .Name y _ :: ys=>if o8 y=true/\glB a.sc y=true then (match Γ.gl.lookup y,aX Γ a ys with
  | some (.err c0 _),some cs=>some (c0 :: cs)
  | _,_=>none) else none
 | _=>none
theorem jB {Γ:Gm} {C:Cf} {lc:Lc} {X:Cx} (TX:TxOk T Γ k C) (h:CxOk T k lc X):∀ {ys:List Expr} {cs:List Nat},aX Γ lc ys=some cs->NamesC X T.cl ys cs/\∀ c0∈cs,∀ c,XC X.K (T.cl c)->PySem.W.kitOne X.K (.ref (T.cl c)) (.ref (T.cl c0))=some (Γ.sub c c0)
 | [],cs,e=>by cases e;exact ⟨.nil,λc hc=>(by cases hc)⟩
 | y :: ys,cs,e=>by
  cases y with
  | Name y p=>
   simp only [aX] at e;by_cases hc:o8 y=true/\glB lc.sc y=true
   ·simp only [if_pos hc] at e;obtain ⟨n1,n2,n3⟩:=p4 hc.1;cases e1:Γ.gl.lookup y with
    | none=>rw [e1] at e;cases e
    | some g=>
     cases g with
     | val d=>rw [e1] at e;cases e
     | fn i n=>rw [e1] at e;cases e
     | dct kvs=>rw [e1] at e;cases e
     | err c0 fs=>
      cases e2:aX Γ lc ys with
      | none=>grind
      | some cs'=>
       rw [e1,e2] at e;cases e;obtain ⟨i1,i2⟩:=jB TX h e2;refine ⟨.cons (h.gl hc.2) (by rw [h.mg];exact (TX.err y c0 fs e1).1.mg_) n1 i1,λc1 hc1 c xc=>?_⟩;rcases Ea.mp hc1 with rfl | hc1
       ·rw [h.K] at xc ⊢;exact TX.sub y c _ fs e1 xc
       ·exact i2 c1 hc1 c xc
   ·grind
  | _=>simp only [aX] at e;cases e
def By:RuE where
 is Γ lc e:=match e with
  | .Call (.Name x _) [a,.Tuple ys _ _] [] _=>Q4 Γ lc x a&&(aX Γ lc ys).isSome&&decide (ys.length<=1000)
  | _=>false
 run r Γ C lc e ρ:=match e with
  | .Call (.Name _ _) [a,.Tuple ys _ _] [] _=>(match aX Γ lc ys with
   | some cs=>if cs.length<=1000 then bind (r.e lc a ρ) (B0 λc=>cs.any λc0=>Γ.sub c c0) else bad
   | none=>bad)
  | _=>bad
 ok {T k r Γ C lc X} e R TX h hi:=by
  split at hi
  ·rename_i x p a ys n q pos;simp at hi;obtain ⟨⟨c0,o⟩,s⟩:=hi;obtain ⟨rfl,m,l,f⟩:=N8 c0;show PE X _ (tD X.K T.cl (xOf X) λρ=>(match aX Γ lc ys with
    | some cs=>if cs.length<=1000 then bind (r.e lc a ρ) (B0 λc=>cs.any λc0=>Γ.sub c c0) else bad
    | none=>bad))
   cases e:aX Γ lc ys with
   | none=>exact f7
   | some cs=>
    by_cases b:cs.length<=1000
    ·simp only [if_pos b];obtain ⟨j,i⟩:=jB TX h e;exact kt i b (R.ex h a) (h.gl l) (TX.none h (by decide) m) j f
    ·simp only [if_neg b];exact f7
  ·cases hi
 runK q Γ C lc e ρ _ k:=match e with
  | .Call (.Name _ _) [a,.Tuple ys _ _] [] _=>(match aX Γ lc ys with
   | some cs=>if cs.length<=1000 then q.e lc a ρ λd=>bind (B0 (λc=>cs.any λc0=>Γ.sub c c0) d) k else bad
   | none=>bad)
  | _=>bad
 eq {r q Γ C lc} e ρ _ k h:=by
  split
  ·rename_i x p a ys n q pos;cases aX Γ lc ys with
   | none=>rfl
   | some cs=>simp only [h.e,bind_assoc,m9,aI]
  ·first
   | rfl
   | (rename_i g;split;exact (g _ _ _ _ _ _ _ rfl).elim;rfl)
def iL (x:Str) (c:Bool) (Γ:Gm) (b:Lc) (e:Expr):Bool:=match e with
 | .Call (.Name f _) (a :: es) [] _=>decide (f=x)&&(a :: es).all noStar&&(Γ.gl.lookup x).isNone&&glB b.sc x&&!(c&&quiet b)
 | _=>false
def uW (g:List D->M D) (r:Ev) (b:Lc) (e:Expr) (ρ:Env):M D:=match e with
 | .Call (.Name _ _) (a :: es) [] _=>bind (v5 r b (a :: es) ρ) g
 | _=>bad
def qK (g:List D->M D) (q:EvK) (c:Lc) (e:Expr) (ρ:Env) {b:Type} (k:D->M b):M b:=match e with
 | .Call (.Name _ _) (a :: es) [] _=>A3 q c (a :: es) ρ λds=>bind (g ds) k
 | _=>bad
theorem oK (g:List D->M D) {r:Ev} {q:EvK} {a:Lc} (e:Expr) (ρ:Env) {c:Type} (k:D->M c) (h:EqK r q):qK g q a e ρ k=bind (uW g r a e ρ) k:=by
 unfold qK uW;split
 ·simp only [m3 h,bind_assoc]
 ·first
  | rfl
  | (rename_i b;split;exact (b _ _ _ _ _ rfl).elim;rfl)
theorem dF {d:Bool} {Γ:Gm} {b:Lc} {e:Expr} (h:iL x d Γ b e=true):∃ p a es pos,e=.Call (.Name x p) (a :: es) [] pos/\(a :: es).all noStar=true/\Γ.gl.lookup x=none/\glB b.sc x=true/\(d=true->quiet b=false):=by
 unfold iL at h;split at h
 ·simp only [Dt,Eh,Ey,Fa] at h;obtain ⟨⟨⟨⟨rfl,f⟩,g⟩,i⟩,c⟩:=h;refine ⟨_,_,_,_,rfl,f,g,i,λz=>?_⟩;rw [z] at c;simpa using c
 ·cases h
def rBf (x:Str) (id:String) (d:Bool) (g:List D->M D) (c:x∈bnames/\x ≠ "__name__"/\(x==("__debug__" : Str))=false) (m:bootBuiltins x=some (.builtin id))
  (j:∀ {T:Tx} {k:Nat} {b:Lc} {X:Cx} {cl:Nat->Addr} {xe:Addr->Hp->Prop},CxOk T k b X->(d=true->X.calm=true)->k8 X (.builtin id) (rPs X.K cl xe g)):RuE where
 is:=iL x d
 run r _ _ b e ρ:=uW g r b e ρ
 ok {T k r Γ C b X} e R TX h hi:=by
  obtain ⟨p,a,es,pos,rfl,f,i,l,n⟩:=dF hi;exact mn (j h λz=>h.calm (n z)) (h.gl l) (TX.none h c.1 i) m (m4 R h f) c.2.1 c.2.2 f
 runK q _ _ b e ρ _ k:=qK g q b e ρ k
 eq e ρ _ k h:=oK g e ρ k h
def rBt (x:Str) (id:String) (d:Bool) (g:List D->M D) (c:x∈bnames/\x ≠ "__name__"/\(x==("__debug__" : Str))=false) (m:bootBuiltins x=some (.type id))
  (j:∀ {T:Tx} {k:Nat} {b:Lc} {X:Cx} {cl:Nat->Addr} {xe:Addr->Hp->Prop},CxOk T k b X->(d=true->X.calm=true)->k8 X (.type id) (rPs X.K cl xe g)):RuE where
 is:=iL x d
 run r _ _ b e ρ:=uW g r b e ρ
 ok {T k r Γ C b X} e R TX h hi:=by
  obtain ⟨p,a,es,pos,rfl,f,i,l,n⟩:=dF hi;exact mS (j h λz=>h.calm (n z)) (h.gl l) (TX.none h c.1 i) m (m4 R h f) c.2.1 c.2.2 f
 runK q _ _ b e ρ _ k:=qK g q b e ρ k
 eq e ρ _ k h:=oK g e ρ k h
def CL:RuE:=rBf "len" "len" false (one v9) (by decide) PySem.boot_len λ_ _=>zK
def wP:RuE:=rBt "tuple" "tuple" false (one U6) (by decide) rfl λ_ _=>rS
def BK:RuE:=rBt "list" "list" false (one nF) (by decide) rfl λ_ _=>xz
def Db:RuE:=rBf "all" "all" true (one xq) (by decide) rfl λ_ a=>BU (a rfl)
def qP:RuE where
 is Γ lc e:=match e with
  | .Call (.Name x _) [.Call (.Name y _) [a] [] _] [] _=>decide (x = "len")&&decide (y = "set")&&(Γ.gl.lookup ("len" : Str)).isNone&&(Γ.gl.lookup ("set" : Str)).isNone&&glB lc.sc "len" && glB lc.sc "set" && !quiet lc&&noStar a
  | _=>false
 run r _ _ lc e ρ:=match e with
  | .Call (.Name _ _) [.Call (.Name _ _) [a] [] _] [] _=>bind (r.e lc a ρ) dB
  | _=>bad
 ok {T k r Γ C lc X} e R TX h hi:=by
  split at hi
  ·simp only [Dt,Eh,Ey,Fa] at hi;obtain ⟨⟨⟨⟨⟨⟨⟨rfl,rfl⟩,l⟩,b⟩,g⟩,j⟩,i⟩,f⟩:=hi;exact ff (h.calm i) (h.gl g) (TX.none h (by decide) l) (h.gl j) (TX.none h (by decide) b) (R.ex h _) f
  ·cases hi
 runK q _ _ lc e ρ _ k:=match e with
  | .Call (.Name _ _) [.Call (.Name _ _) [a] [] _] [] _=>q.e lc a ρ λd=>bind (dB d) k
  | _=>bad
 eq e ρ _ k h:=by
  split
  ·simp only [h.e,bind_assoc]
  ·first
   | rfl
   | (rename_i c;split;exact (c _ _ _ _ _ _ _ rfl).elim;rfl)
def tU:RuE where
 is Γ lc e:=match e with
  | .Call (.Name x _) [.Call (.Name y _) [a] [] _] [] _=>decide (x = "list")&&decide (y = "range")&&(Γ.gl.lookup ("list" : Str)).isNone&&(Γ.gl.lookup ("range" : Str)).isNone&&glB lc.sc "list" && glB lc.sc "range" && !quiet lc&&noStar a
  | _=>false
 run r _ _ lc e ρ:=match e with
  | .Call (.Name _ _) [.Call (.Name _ _) [a] [] _] [] _=>bind (r.e lc a ρ) Z2
  | _=>bad
 ok {T k r Γ C lc X} e R TX h hi:=by
  split at hi
  ·simp only [Dt,Eh,Ey,Fa] at hi;obtain ⟨⟨⟨⟨⟨⟨⟨rfl,rfl⟩,l⟩,b⟩,g⟩,j⟩,i⟩,f⟩:=hi;exact kx (h.calm i) (h.gl g) (TX.none h (by decide) l) (h.gl j) (TX.none h (by decide) b) (R.ex h _) f
  ·cases hi
 runK q _ _ lc e ρ _ k:=match e with
  | .Call (.Name _ _) [.Call (.Name _ _) [a] [] _] [] _=>q.e lc a ρ λd=>bind (Z2 d) k
  | _=>bad
 eq e ρ _ k h:=by
  split
  ·simp only [h.e,bind_assoc]
  ·first
   | rfl
   | (rename_i c;split;exact (c _ _ _ _ _ _ _ rfl).elim;rfl)
def tM (n:Nat) (Γ:Gm) (a:Lc) (e:Expr):Bool:=match e with
 | .Call (.Name f _) es [] _=>decide (f = "range")&&decide (es.length=n)&&es.all noStar&&(Γ.gl.lookup ("range" : Str)).isNone&&glB a.sc "range"
 | _=>false
def rgE (n:Nat) (r:Ev) (a:Lc) (e:Expr) (ρ:Env):M (Src×Nat):=match e with
 | .Call (.Name _ _) es [] _=>bind (v5 r a es ρ) λds=>if ds.length=n then C8 ds else bad
 | _=>bad
def rgK (n:Nat) (q:EvK) (b:Lc) (e:Expr) (ρ:Env) {a:Type} (k:Src×Nat->M a):M a:=match e with
 | .Call (.Name _ _) es [] _=>A3 q b es ρ λds=>if ds.length=n then bind (C8 ds) k else bad
 | _=>bad
theorem vC (n:Nat) {r:Ev} {q:EvK} {a:Lc} (e:Expr) (ρ:Env) {b:Type} (k:Src×Nat->M b) (h:EqK r q):rgK n q a e ρ k=bind (rgE n r a e ρ) k:=by
 unfold rgK rgE;split
 ·simp only [m3 h,bind_assoc,m9,aI]
 ·first
  | rfl
  | (rename_i c;split;exact (c _ _ _ _ rfl).elim;rfl)
def qR:RuI where
 is Γ lc _ e:=tM 1 Γ lc e
 run r _ _ lc e ρ:=rgE 1 r lc e ρ
 ok {T k r Γ C lc X} g e R TX h hi:=by
  unfold tM at hi;split at hi
  ·rename_i f p es pos;simp only [Dt,Eh,Ey] at hi;obtain ⟨⟨⟨⟨rfl,c⟩,b⟩,i⟩,d⟩:=hi
   match es,c,b with
   | [a],_,b=>exact fX (h.gl d) (TX.none h (by decide) i) (m4 R h b) (by simpa using b)
  ·cases hi
 runK q _ _ lc e ρ _ k:=rgK 1 q lc e ρ k
 eq e ρ _ k h:=vC 1 e ρ k h
def rf:RuI where
 is Γ lc _ e:=tM 2 Γ lc e
 run r _ _ lc e ρ:=rgE 2 r lc e ρ
 ok {T k r Γ C lc X} g e R TX h hi:=by
  unfold tM at hi;split at hi
  ·rename_i f p es pos;simp only [Dt,Eh,Ey] at hi;obtain ⟨⟨⟨⟨rfl,i⟩,d⟩,j⟩,l⟩:=hi
   match es,i,d with
   | [a,b],_,d=>
    have c:noStar a=true/\noStar b=true:=by simpa using d
    exact gC (h.gl l) (TX.none h (by decide) j) (m4 R h d) c.1 c.2
  ·cases hi
 runK q _ _ lc e ρ _ k:=rgK 2 q lc e ρ k
 eq e ρ _ k h:=vC 2 e ρ k h
def BL:RuI where
 is Γ lc g e:=match g,e with
  | .Tuple _ _ _,.Call (.Name f _) [a] [] _=>decide (f = "enumerate")&&noStar a&&(Γ.gl.lookup ("enumerate" : Str)).isNone&&glB lc.sc "enumerate"
  | _,_=>false
 run r _ _ lc e ρ:=match e with
  | .Call (.Name _ _) [a] [] _=>bind (v5 r lc [a] ρ) λds=>(match ds with
   | [d]=>bi d
   | _=>bad)
  | _=>bad
 ok {T k r Γ C lc X} g e R TX h hi:=by
  split at hi
  ·simp only [Dt,Eh,Ey] at hi;obtain ⟨⟨⟨rfl,b⟩,c⟩,j⟩:=hi;exact lw (h.gl j) (TX.none h (by decide) c) (m4 R h (by simpa using b)) b
  ·cases hi
 runK q _ _ lc e ρ _ k:=match e with
  | .Call (.Name _ _) [a] [] _=>A3 q lc [a] ρ λds=>(match ds with
   | [d]=>bind (bi d) k
   | _=>bad)
  | _=>bad
 eq e ρ _ k h:=by
  split
  ·simp only [m3 h,bind_assoc];congr;funext ds
   match ds with
   | []=>rfl
   | [_]=>rfl
   | _ :: _ :: _=>rfl
  ·first
   | rfl
   | (rename_i i;split;exact (i _ _ _ _ rfl).elim;rfl)
def CI:RuI where
 is _ _ _ _:=true
 run r _ _ lc e ρ:=bind (r.e lc e ρ) q9
 ok g e R TX h hi:=qL (R.ex h e)
 runK q _ _ lc e ρ _ k:=q.e lc e ρ λd=>bind (q9 d) k
 eq e ρ _ k h:=by simp only [h.e,bind_assoc]
def gN (a b:Scope):Scope:={ a with names:=a.names.map λ(n,k)=>if (k==.free&&b.kind==.function&&b.names.lookup n==some .cell) then (n,NameKind.cell) else (n,k) }
theorem kz (a:Scope) (b:PySem.Env):relabel a b=gN a b.scope:=rfl
def k7 (a:Scope):List Str:=(a.names.filter λy=>y.2==.free).map (·.1)
def A0 (b:Lc) (a:Scope) (xs:List Str):Bool:=
 decide (a.kind=.function)&&a.names.all (λy=>decide (y.2≠.cell))&&a.names.all (λy=>decide (y.2=.local->a.names.lookup y.1=some .local))
  && a.names.all (λy=>decide (y.2=.free->a.names.lookup y.1=some .free/\(b.sc.names.lookup y.1=some .cell\/b.sc.names.lookup y.1=some .free)))
  && (k7 a).all (λz=>decide (a.names.lookup z=some .free))&&decide ((xs++k7 a).Nodup)&&xs.all (λx=>decide (a.names.lookup x=some .local))&&!quiet b
theorem fC:∀ {xs:List α} {ys:List β},i4 f xs=some ys->ys.length=xs.length
 | [],_,e=>by cases e;rfl
 | x :: xs,ys,e=>by
  simp only [i4] at e;cases a:f x with
  | none=>rw [a] at e;cases e
  | some y=>
   cases b:i4 f xs with
   | none=>grind
   | some c=>rw [a,b] at e;cases e;simp [fC b]
theorem dR {α β:Type} {f:α->Option β}:∀ {xs:List α} {ys:List β} {j:Nat} {y:β},i4 f xs=some ys->ys[j]?=some y->∃ x,xs[j]?=some x/\f x=some y
 | [],_,_,_,e,h=>by cases e;simp at h
 | x :: xs,ys,j,y,e,h=>by
  simp only [i4] at e;cases e1:f x with
  | none=>rw [e1] at e;cases e
  | some z=>
   cases e2:i4 f xs with
   | none=>rw [e1,e2] at e;cases e
   | some ys'=>
    rw [e1,e2] at e;cases e;cases j with
    | zero=>simp at h;subst h;exact ⟨x,rfl,e1⟩
    | succ j=>simpa using dR (j:=j) (y:=y) e2 (by simpa using h)
def d8 (b:Lc) (a:Scope) (xs:List Str):Lc:=⟨xs++k7 a,gN a b.sc,false,[]⟩
def testsE (r:Ev) (a:Lc) (ifs:List Expr) (ρ:Env):M Bool:=match ifs with
 | []=>ret true
 | [c]=>r.t a c ρ
 | _=>bad
def testsK (q:EvK) (a:Lc) (ifs:List Expr) (ρ:Env):M Bool:=match ifs with
 | []=>ret true
 | [c]=>q.t a c ρ ret
 | _=>bad
theorem tests_eq (h:EqK r q) (ifs:List Expr) (ρ:Env):testsK q lc ifs ρ=testsE r lc ifs ρ:=by
 match ifs with
 | []=>rfl
 | [c]=>simp only [testsK,testsE,h.t,D3]
 | _ :: _ :: _=>rfl
section
variable {T:Tx} {k:Nat} {r:Ev} {q:EvK} {Γ:Gm} {C:Cf} {lc:Lc} {X:Cx}
theorem tests_ok (R:EvOk T k r) (h:CxOk T k lc X) {ifs:List Expr}:PTL X ifs (tBo X.K T.cl (xOf X) (testsE r lc ifs)):=by
 match ifs with
 | []=>exact lH
 | [c]=>exact sk (R.tx h c)
 | _ :: _ :: _=>exact λ_ _ _ _ _ _ ⟨_,_,_,_,_,p⟩=>p.elim
theorem E5 (h:CxOk T k lc X) {a:Scope} {xs:List Str} {caps:List Nat} (f:A0 lc a xs=true) (c:i4 (f8 lc.N) (k7 a)=some caps):CompText X.N X.env (xs++k7 a) xs.length caps a/\(xs++k7 a).Nodup/\(∀ x∈xs,a.names.lookup x=some .local)/\quiet lc=false/\a.kind=.function:=by
 simp only [A0,Dt,Eh,Er,Fa] at f;obtain ⟨⟨⟨⟨⟨⟨⟨b,s⟩,o⟩,r⟩,l⟩,n⟩,t⟩,p⟩:=f;refine ⟨⟨b,s,o,λy m q=>?_,λj i e=>?_,?_⟩,n,t,p,b⟩
 ·rw [h.sc];exact r y m q
 ·obtain ⟨z,d,g⟩:=dR c e;refine ⟨z,by rw [h.N];exact u6 g,?_,l z (ET d)⟩;rw [ED (by omega)];simpa using d
 ·simp [fC c,Nat.add_comm]
theorem o4 (h:CxOk T k lc X) (hq:quiet lc=false) {scope:Scope} {xs:List Str} (hk:scope.kind=.function) (hn:(xs++k7 scope).Nodup) (pins:List (Addr×Obj)) (C:Addr) (fp:List Addr) (s:Shared) (H:Hp):CxOk T k (d8 lc scope xs) (b7 X pins (xs++k7 scope) scope C fp s H):=
 ⟨h.prog,h.w,h.K,h.mg,h.base,rfl,hn,by show relabel scope X.env=gN scope lc.sc;rw [kz,h.sc],λ_=>h.calm hq,(by have:=h.room;rw [hq] at this;exact this),PassesOwn.never,rfl,hk,λz=>Bool.noConfusion z,λz=>Bool.noConfusion z⟩
end
def d9 (src:Src) (t:D->M Bool) (f:D->M D):Nat->Nat->List D->M (List D)
 | 0,_,_=>bad
 | m+1,i,es=>λS=>match src i S with
  | none=>.bad
  | some none=>.ok es S
  | some (some d)=>bind (t d) (λb=>if b=true then bind (f d) (λy=>if es.length<sizeLine then d9 src t f m (i+1) (es++[y]) else bad) else d9 src t f m (i+1) es) S
theorem R1 (src:Src) (t:Env->M Bool) (f:Env->M D) (mk:D->Env):∀ m i es,v7 src t f mk m i es=d9 src (λd=>t (mk d)) (λd=>f (mk d)) m i es
 | 0,_,_=>rfl
 | m+1,i,es=>by
  funext S;simp only [v7,d9,R1 src t f mk m]
  all_goals (cases src i S with
  | none=>rfl
  | some o=>cases o <;> rfl)
def N7 (r:Ev) (c:Lc) (d:Expr) (x:Str) (e:Pos) (b:Expr) (ifs:List Expr) (a:Scope) (ρ:Env):M (List D):=match i4 (f8 c.N) (k7 a) with
 | some caps=>nx (iY caps (r.i c (.Name x e) b) (testsE r (d8 c a [x]) ifs) (r.e (d8 c a [x]) d) ρ)
 | none=>bad
def cO (q:EvK) (c:Lc) (e:Expr) (x:Str) (h:Pos) (b:Expr) (ifs:List Expr) (a:Scope) (ρ:Env) {f:Type} (k:List D->M f):M f:=match i4 (f8 c.N) (k7 a) with
 | some caps=>bind (nx (q.i c (.Name x h) b ρ λg=>d9 g.1 (λd=>testsK q (d8 c a [x]) ifs (some d :: d4 caps ρ)) (λd=>q.e (d8 c a [x]) e (some d :: d4 caps ρ) ret) g.2 0 [])) k
 | none=>bad
theorem dE (h:EqK r q) (c:Expr) (x:Str) (d:Pos) (b:Expr) (ifs:List Expr) (a:Scope) (ρ:Env) {e:Type} (k:List D->M e):cO q lc c x d b ifs a ρ k=bind (N7 r lc c x d b ifs a ρ) k:=by
 unfold cO N7;cases i4 (f8 lc.N) (k7 a) with
 | none=>rfl
 | some caps=>simp only [h.i,h.e,D3,tests_eq h,iY,R1]
theorem pC (R:EvOk T k r) (h:CxOk T k lc X) {c:Expr} {x:Str} {g pos:Pos} {b:Expr} {ifs:List Expr} {a:Scope} (m:A0 lc a [x]=true) (o:n8 b=true) :
  PE X (.ListComp c [⟨.Name x g,b,ifs,0⟩] a pos) (tD X.K T.cl (xOf X) λρ=>bind (N7 r lc c x g b ifs a ρ) λds=>ret (.lst ds)):=by
 unfold N7;cases l:i4 (f8 lc.N) (k7 a) with
 | none=>exact f7
 | some caps=>
  obtain ⟨n,e,j,f,i⟩:=E5 h m l;refine cZ (eR n (h.calm f) e rfl (j x (by simp)) (PI.x0 (R.ix h _ _)) (λpins C d s H=>?_) (λpins C d s H=>?_) o)
  ·exact PTL.x0 (tests_ok R (o4 h f i e pins C d s H))
  ·exact PE.x0 (R.ex (o4 h f i e pins C d s H) c)
def yG:RuE where
 is _ lc e:=match e with
  | .ListComp _ [⟨.Name x _,b,_,0⟩] a _=>A0 lc a [x]&&n8 b
  | _=>false
 run r _ _ lc e ρ:=match e with
  | .ListComp c [⟨.Name x d,b,ifs,0⟩] a _=>bind (N7 r lc c x d b ifs a ρ) λds=>ret (.lst ds)
  | _=>bad
 ok e R TX h hi:=by
  split at hi
  ·rw [Dt] at hi;exact pC R h hi.1 hi.2
  ·cases hi
 runK q _ _ lc e ρ _ k:=match e with
  | .ListComp c [⟨.Name x d,b,ifs,0⟩] a _=>cO q lc c x d b ifs a ρ λds=>k (.lst ds)
  | _=>bad
 eq e ρ _ k h:=by
  split
  ·simp only [dE h,bind_assoc,i7]
  ·first
   | rfl
   | (rename_i f;split;exact (f _ _ _ _ _ _ _ rfl).elim;rfl)
def k9 (src:Src) (t:D->M Bool) (a:D->M (Src×Nat)) (c:D->D->M Bool) (f:D->D->M D):Nat->Nat->List D->M (List D)
 | 0,_,_=>bad
 | m+1,i,es=>λS=>match src i S with
  | none=>.bad
  | some none=>.ok es S
  | some (some d)=>bind (t d) (λb=>if b=true then bind (a d) (λe=>bind (d9 e.1 (c d) (f d) e.2 0 es) (λes'=>k9 src t a c f m (i+1) es')) else k9 src t a c f m (i+1) es) S
theorem bM (src:Src) (t:Env->M Bool) (b:Env->M (Src×Nat)) (e:Env->M Bool) (f:Env->M D) (a:Env):∀ m i es,y7 src t b e f a m i es=k9 src (λd=>t (some d :: none :: a)) (λd=>b (some d :: none :: a)) (λd c=>e (some d :: some c :: a)) (λd c=>f (some d :: some c :: a)) m i es
 | 0,_,_=>rfl
 | m+1,i,es=>by
  funext S;simp only [y7,k9,bM src t b e f a m,R1]
  all_goals (cases src i S with
  | none=>rfl
  | some o=>cases o <;> rfl)
def aL (r:Ev) (c:Lc) (f:Expr) (x y:Str) (g h:Pos) (e b:Expr) (ifs d:List Expr) (a:Scope) (ρ:Env):M (List D):=match i4 (f8 c.N) (k7 a) with
 | some caps=>nx (br caps (r.i c (.Name x g) e) (testsE r (d8 c a [x,y]) ifs) (r.i (d8 c a [x,y]) (.Name y h) b) (testsE r (d8 c a [x,y]) d) (r.e (d8 c a [x,y]) f) ρ)
 | none=>bad
def gQ (q:EvK) (c:Lc) (g:Expr) (x y:Str) (l m:Pos) (f b:Expr) (ifs e:List Expr) (a:Scope) (ρ:Env) {i:Type} (k:List D->M i):M i:=match i4 (f8 c.N) (k7 a) with
 | some caps=>bind (nx (q.i c (.Name x l) f ρ λj=>k9 j.1 (λd=>testsK q (d8 c a [x,y]) ifs (some d :: none :: d4 caps ρ)) (λd=>q.i (d8 c a [x,y]) (.Name y m) b (some d :: none :: d4 caps ρ) ret) (λd h=>testsK q (d8 c a [x,y]) e (some d :: some h :: d4 caps ρ)) (λd h=>q.e (d8 c a [x,y]) g (some d :: some h :: d4 caps ρ) ret) j.2 0 [])) k
 | none=>bad
theorem pA (h:EqK r q) (e:Expr) (x y:Str) (f g:Pos) (d b:Expr) (ifs c:List Expr) (a:Scope) (ρ:Env) {i:Type} (k:List D->M i):gQ q lc e x y f g d b ifs c a ρ k=bind (aL r lc e x y f g d b ifs c a ρ) k:=by
 unfold gQ aL;cases i4 (f8 lc.N) (k7 a) with
 | none=>rfl
 | some caps=>simp only [h.i,h.e,D3,tests_eq h,br,bM]
theorem om (R:EvOk T k r) (h:CxOk T k lc X) {e:Expr} {x y:Str} {n o pos:Pos} {c b:Expr} {ifs d:List Expr} {a:Scope} (q:A0 lc a [x,y]=true) (u:n8 c=true) (l:n8 b=true) :
  PE X (.ListComp e [⟨.Name x n,c,ifs,0⟩,⟨.Name y o,b,d,0⟩] a pos) (tD X.K T.cl (xOf X) λρ=>bind (aL r lc e x y n o c b ifs d a ρ) λds=>ret (.lst ds)):=by
 unfold aL;cases p:i4 (f8 lc.N) (k7 a) with
 | none=>exact f7
 | some caps=>
  obtain ⟨t,g,m,i,j⟩:=E5 h q p;refine cZ (kj t (h.calm i) g rfl rfl (m x (by simp)) (m y (by simp)) (PI.x0 (R.ix h _ _)) (λpins C f s H=>?_) (λpins C f s H=>?_) (λpins C f s H=>?_) (λpins C f s H=>?_) u l)
  ·exact PTL.x0 (tests_ok R (o4 h i j g pins C f s H))
  ·exact PI.x0 (R.ix (o4 h i j g pins C f s H) _ _)
  ·exact PTL.x0 (tests_ok R (o4 h i j g pins C f s H))
  ·exact PE.x0 (R.ex (o4 h i j g pins C f s H) e)
def ym:RuE where
 is _ lc e:=match e with
  | .ListComp _ [⟨.Name x _,c,_,0⟩,⟨.Name y _,b,_,0⟩] a _=>A0 lc a [x,y]&&n8 c&&n8 b
  | _=>false
 run r _ _ lc e ρ:=match e with
  | .ListComp f [⟨.Name x g,c,ifs,0⟩,⟨.Name y i,b,d,0⟩] a _=>bind (aL r lc f x y g i c b ifs d a ρ) λds=>ret (.lst ds)
  | _=>bad
 ok e R TX h hi:=by
  split at hi
  ·rw [Dt,Dt] at hi;exact om R h hi.1.1 hi.1.2 hi.2
  ·cases hi
 runK q _ _ lc e ρ _ k:=match e with
  | .ListComp f [⟨.Name x g,c,ifs,0⟩,⟨.Name y i,b,d,0⟩] a _=>gQ q lc f x y g i c b ifs d a ρ λds=>k (.lst ds)
  | _=>bad
 eq e ρ _ k h:=by
  split
  ·simp only [pA h,bind_assoc,i7]
  ·first
   | rfl
   | (rename_i j;split;exact (j _ _ _ _ _ _ _ _ _ _ _ rfl).elim;rfl)
def au (r:Ev) (c:Lc) (d:Expr) (x y:Str) (f h g:Pos) (e:Nat) (b:Expr) (ifs:List Expr) (a:Scope) (ρ:Env):M (List D):=match i4 (f8 c.N) (k7 a) with
 | some caps=>nx (cM caps (r.i c (.Tuple [.Name x f,.Name y h] e g) b) (testsE r (d8 c a [x,y]) ifs) (r.e (d8 c a [x,y]) d) ρ)
 | none=>bad
def gO (q:EvK) (c:Lc) (e:Expr) (x y:Str) (i l j:Pos) (h:Nat) (b:Expr) (ifs:List Expr) (a:Scope) (ρ:Env) {f:Type} (k:List D->M f):M f:=match i4 (f8 c.N) (k7 a) with
 | some caps=>bind (nx (q.i c (.Tuple [.Name x i,.Name y l] h j) b ρ λg=>d9 g.1 (λd=>sj (testsK q (d8 c a [x,y]) ifs) (mk2 (d4 caps ρ) d)) (λd=>q.e (d8 c a [x,y]) e (mk2 (d4 caps ρ) d) ret) g.2 0 [])) k
 | none=>bad
theorem nR (h:EqK r q) (c:Expr) (x y:Str) (f i g:Pos) (d:Nat) (b:Expr) (ifs:List Expr) (a:Scope) (ρ:Env) {j:Type} (k:List D->M j):gO q lc c x y f i g d b ifs a ρ k=bind (au r lc c x y f i g d b ifs a ρ) k:=by
 unfold gO au;cases i4 (f8 lc.N) (k7 a) with
 | none=>rfl
 | some caps=>
  have e:testsK q (d8 lc a [x,y]) ifs=testsE r (d8 lc a [x,y]) ifs:=funext λρ=>tests_eq h ifs ρ;simp only [h.i,h.e,D3,e,cM,R1]
theorem pM (R:EvOk T k r) (h:CxOk T k lc X) {c:Expr} {x y:Str} {l n m pos:Pos} {i:Nat} {b:Expr} {ifs:List Expr} {a:Scope} (p:A0 lc a [x,y]=true) (t:n8 b=true) :
  PE X (.ListComp c [⟨.Tuple [.Name x l,.Name y n] i m,b,ifs,0⟩] a pos) (tD X.K T.cl (xOf X) λρ=>bind (au r lc c x y l n m i b ifs a ρ) λds=>ret (.lst ds)):=by
 unfold au;cases o:i4 (f8 lc.N) (k7 a) with
 | none=>exact f7
 | some caps=>
  obtain ⟨q,e,g,f,j⟩:=E5 h p o;refine cZ (lI q (h.calm f) e rfl rfl (g x (by simp)) (g y (by simp)) (PI.x0 (R.ix h _ _)) (λpins C d s H=>?_) (λpins C d s H=>?_) t)
  ·exact PTL.x0 (tests_ok R (o4 h f j e pins C d s H))
  ·exact PE.x0 (R.ex (o4 h f j e pins C d s H) c)
def yS:RuE where
 is _ lc e:=match e with
  | .ListComp _ [⟨.Tuple [.Name x _,.Name y _] _ _,b,_,0⟩] a _=>A0 lc a [x,y]&&n8 b
  | _=>false
 run r _ _ lc e ρ:=match e with
  | .ListComp c [⟨.Tuple [.Name x f,.Name y i] d g,b,ifs,0⟩] a _=>bind (au r lc c x y f i g d b ifs a ρ) λds=>ret (.lst ds)
  | _=>bad
 ok e R TX h hi:=by
  split at hi
  ·rw [Dt] at hi;exact pM R h hi.1 hi.2
  ·cases hi
 runK q _ _ lc e ρ _ k:=match e with
  | .ListComp c [⟨.Tuple [.Name x f,.Name y i] d g,b,ifs,0⟩] a _=>gO q lc c x y f i g d b ifs a ρ λds=>k (.lst ds)
  | _=>bad
 eq e ρ _ k h:=by
  split
  ·simp only [nR h,bind_assoc,i7]
  ·first
   | rfl
   | (rename_i j;split;exact (j _ _ _ _ _ _ _ _ _ _ rfl).elim;rfl)
def yQ (m:Str) (e:Expr):Bool:=match e with
 | .Call (.Attribute o n b) (a :: es) [] c=>decide (n=m)&&y0 o&&(a :: es).all noStar&&D1 (a :: es)&&(b.endLine==c.line)
 | _=>false
theorem tw {m:Str} {e:Expr} (h:yQ m e=true):∃ o apos a es cpos,e=.Call (.Attribute o m apos) (a :: es) [] cpos/\y0 o=true/\(a :: es).all noStar=true/\D1 (a :: es)=true/\(apos.endLine==cpos.line)=true:=by
 unfold yQ at h;split at h
 ·simp only [Dt,Eh] at h;obtain ⟨⟨⟨⟨rfl,h1⟩,h2⟩,h3⟩,h4⟩:=h;exact ⟨_,_,_,_,_,rfl,h1,h2,h3,h4⟩
 ·cases h
def mtE {c:Type} (g:D->M c) (op:D->List D->M D) (r:Ev) (b:Lc) (e:Expr) (ρ:Env):M D:=match e with
 | .Call (.Attribute o _ _) (a :: es) [] _=>bind (r.e b o ρ) λx=>bind (g x) λ_=>bind (v5 r b (a :: es) ρ) λds=>op x ds
 | _=>bad
def mtK {d:Type} (g:D->M d) (op:D->List D->M D) (q:EvK) (b:Lc) (e:Expr) (ρ:Env) {c:Type} (k:D->M c):M c:=match e with
 | .Call (.Attribute o _ _) (a :: es) [] _=>q.e b o ρ λx=>bind (g x) λ_=>A3 q b (a :: es) ρ λds=>bind (op x ds) k
 | _=>bad
theorem Be (g:D->M α) (op:D->List D->M D) {r:Ev} {q:EvK} {a:Lc} (e:Expr) (ρ:Env) {b:Type} (k:D->M b) (h:EqK r q):mtK g op q a e ρ k=bind (mtE g op r a e ρ) k:=by
 unfold mtK mtE;split
 ·simp only [h.e,m3 h,bind_assoc]
 ·first
  | rfl
  | (rename_i c;split;exact (c _ _ _ _ _ _ rfl).elim;rfl)
def rMt {α:Type} (m:Str) (g:D->M α) (op:D->List D->M D)
  (ok:∀ {T:Tx} {k:Nat} {lc:Lc} {X:Cx} {xe:Addr->Hp->Prop} {o a:Expr} {es:List Expr} {apos cpos:Pos} {f:Env->M D} {fs:Env->M (List D)},CxOk T k lc X->PE X o (tD X.K T.cl xe f)->PA X (a :: es) (tDs X.K T.cl xe fs)->y0 o=true->(a :: es).all noStar=true->D1 (a :: es)=true->(apos.endLine==cpos.line)=true->PE X (.Call (.Attribute o m apos) (a :: es) [] cpos) (tD X.K T.cl xe λρ=>bind (f ρ) λx=>bind (g x) λ_=>bind (fs ρ) λds=>op x ds)):RuE where
 is _ _ e:=yQ m e
 run r _ _ lc e ρ:=mtE g op r lc e ρ
 ok {T k r Γ C lc X} e R TX h hi:=by
  obtain ⟨o,apos,a,es,cpos,rfl,c1,c2,c3,c4⟩:=tw hi;exact ok h (R.ex h o) (m4 R h c2) c1 c2 c3 c4
 runK q _ _ lc e ρ _ k:=mtK g op q lc e ρ k
 eq e ρ _ k h:=Be g op e ρ k h
def rR:RuE:=rMt "extend" lstOf extD λ_ e d c f a b=>jJ Gj Il Im aT Z6 eJ e d c f a b
def wl:RuE:=rMt "index" sqK aB λh e d c f a b=>kK h.u80 e d c f a b
def rAppend:RuE:=rMt "append" lstOf kL λ_ e d c f a b=>kT e d c f a b
def zB:RuS where
 is _ _ e:=match e with
  | .Pass _=>true
  | .Break _=>true
  | .Continue _=>true
  | .Return none _=>true
  | _=>false
 run _ _ _ _ e ρ:=match e with
  | .Pass _=>ret (.nx ρ)
  | .Break _=>ret (.bk ρ)
  | .Continue _=>ret (.ct ρ)
  | .Return none _=>ret (.rt .non)
  | _=>bad
 ok e R TX h hf hi:=by
  split at hi
  ·exact nK
  ·exact kH
  ·exact lr
  ·exact nV
  ·cases hi
 runK _ _ _ _ e ρ _ k:=match e with
  | .Pass _=>k (.nx ρ)
  | .Break _=>k (.bk ρ)
  | .Continue _=>k (.ct ρ)
  | .Return none _=>k (.rt .non)
  | _=>bad
 eq e ρ _ k h:=by
  cases e with
  | Return o p=>cases o <;> rfl
  | _=>rfl
def zW:RuS where
 is _ _ e:=match e with
  | .Expr e _=>m7 e
  | _=>false
 run r _ _ lc e ρ:=match e with
  | .Expr e _=>bind (r.e lc e ρ) λ_=>ret (.nx ρ)
  | _=>bad
 ok e R TX h hf hi:=by
  cases e with
  | Expr e p=>exact oV (R.ex h _) hi
  | _=>exact F1
 runK q _ _ lc e ρ _ k:=match e with
  | .Expr e _=>q.e lc e ρ λ_=>k (.nx ρ)
  | _=>bad
 eq e ρ _ k h:=by
  cases e with
  | Expr e p=>simp only [h.e,bind_assoc,i7]
  | _=>rfl
def Ca:RuS where
 is _ _ e:=match e with
  | .Return (some _) _=>true
  | _=>false
 run r _ _ lc e ρ:=match e with
  | .Return (some e) _=>bind (r.e lc e ρ) λd=>ret (.rt d)
  | _=>bad
 ok e R TX h hf hi:=by
  split at hi
  ·exact iu (R.ex h _)
  ·cases hi
 runK q _ _ lc e ρ _ k:=match e with
  | .Return (some e) _=>q.e lc e ρ λd=>k (.rt d)
  | _=>bad
 eq e ρ _ k h:=by
  split
  ·simp only [h.e,bind_assoc,i7]
  ·first
   | rfl
   | (rename_i a;split;exact (a _ _ rfl).elim;rfl)
def Bh:RuS where
 is _ lc e:=match e with
  | .Return (some (.List es _)) _=>decide (("return" : Str)∈lc.mu)&&es.all noStar
  | _=>false
 run r _ _ lc e ρ:=match e with
  | .Return (some (.List es _)) _=>bind (bind (v5 r lc es ρ) newL) λd=>ret (.rt d)
  | _=>bad
 ok e R TX h hf hi:=by
  split at hi
  ·rw [Dt] at hi;exact iu (jY (m4 R h hi.2))
  ·cases hi
 runK q _ _ lc e ρ _ k:=match e with
  | .Return (some (.List es _)) _=>A3 q lc es ρ λds=>bind (newL ds) λd=>k (.rt d)
  | _=>bad
 eq e ρ _ k h:=by
  split
  ·simp only [m3 h,bind_assoc,i7]
  ·first
   | rfl
   | (rename_i a;split;exact (a _ _ _ rfl).elim;rfl)
def sIf:RuS where
 is _ _ e:=match e with
  | .If _ _ _ _=>true
  | _=>false
 run r _ _ lc e ρ:=match e with
  | .If c a b _=>bind (r.t lc c ρ) λq=>if q=true then V4 r lc a ρ else V4 r lc b ρ
  | _=>bad
 ok e R TX h hf hi:=by
  cases e with
  | If c a b p=>exact xm (R.tx h _) (O1 R h hf) (O1 R h hf)
  | _=>exact F1
 runK q _ _ lc e ρ _ k:=match e with
  | .If c a b _=>q.t lc c ρ λz=>if z=true then k6 q lc a ρ k else k6 q lc b ρ k
  | _=>bad
 eq e ρ _ k h:=by
  cases e with
  | If c a b p=>simp only [h.t,aq h,bind_assoc,m9]
  | _=>rfl
def dL (a:Lc) (x:Str):Bool:=(f8 a.N x).isSome&&bE a.sc x
def X6 (a:Lc) (x:Str) (ρ:Env) (d:D):M Fl:=match f8 a.N x with
 | some i=>ret (.nx (ρ.set i (some d)))
 | none=>bad
def E6 (b:Lc) (x:Str) (ρ:Env) (d:D) {a:Type} (k:Fl->M a):M a:=match f8 b.N x with
 | some i=>k (.nx (ρ.set i (some d)))
 | none=>bad
theorem cu (a:Lc) (x:Str) (ρ:Env) (d:D) {b:Type} (k:Fl->M b):bind (X6 a x ρ d) k=E6 a x ρ d k:=by
 unfold X6 E6;cases f8 a.N x <;> rfl
theorem qB {x:Str} {p pos:Pos} {e:Expr} {f:Env->M D} (h:CxOk T k lc X) (l:lc.fr=true) (a:dL lc x=true) (g:PE X e (tD X.K T.cl xe f)) (c:m7 e=true):PS X (.Assign [.Name x p] e pos) (sD X.K T.cl xe λρ=>bind (f ρ) (X6 lc x ρ)):=by
 rw [dL,Dt,Fj] at a;obtain ⟨⟨i,b⟩,j⟩:=a;have:=tK (pos:=pos) (pos':=p) h.nd' (by rw [h.N];exact u6 b) (by rw [h.sc];exact F7 j) g c (.inl (h.fn1 l));have e:X6 lc x=λρ d=>ret (.nx (ρ.set i (some d))):=by funext ρ d;simp only [X6,b]
 simp_all
def Ck:RuS where
 is _ lc e:=match e with
  | .Assign [.Name x _] e _=>dL lc x&&m7 e
  | _=>false
 run r _ _ lc e ρ:=match e with
  | .Assign [.Name x _] e _=>bind (r.e lc e ρ) (X6 lc x ρ)
  | _=>bad
 ok e R TX h hf hi:=by
  split at hi
  ·rw [Dt] at hi;exact qB h hf hi.1 (R.ex h _) hi.2
  ·cases hi
 runK q _ _ lc e ρ _ k:=match e with
  | .Assign [.Name x _] e _=>q.e lc e ρ λd=>E6 lc x ρ d k
  | _=>bad
 eq e ρ _ k h:=by
  split
  ·simp only [h.e,bind_assoc,cu]
  ·first
   | rfl
   | (rename_i a;split;exact (a _ _ _ _ rfl).elim;rfl)
def Bz:RuS where
 is _ lc e:=match e with
  | .Assign [.Name x _] (.List es _) _=>dL lc x&&decide (x∈lc.mu)&&es.all noStar
  | _=>false
 run r _ _ lc e ρ:=match e with
  | .Assign [.Name x _] (.List es _) _=>bind (bind (v5 r lc es ρ) newL) (X6 lc x ρ)
  | _=>bad
 ok e R TX h hf hi:=by
  split at hi
  ·rw [Dt,Dt] at hi;exact qB h hf hi.1.1 (jY (m4 R h hi.2)) rfl
  ·cases hi
 runK q _ _ lc e ρ _ k:=match e with
  | .Assign [.Name x _] (.List es _) _=>A3 q lc es ρ λds=>bind (newL ds) λd=>E6 lc x ρ d k
  | _=>bad
 eq e ρ _ k h:=by
  split
  ·simp only [m3 h,bind_assoc,cu]
  ·first
   | rfl
   | (rename_i a;split;exact (a _ _ _ _ _ rfl).elim;rfl)
def swB (c:Lc) (b:Expr) (a:Scope) (t:Str) (pos:Pos):Bool:=c.sc.names.lookup t==some .local&&pos.line==b.pos.line&&!(a.names.any λ(n,k)=>n==t&&(k==.local||k==.cell))
theorem vt (h:CxOk T k lc X) (d:Expr) (c:List Comprehension) (a:Scope) (x:Str) (pos' pos b:Pos):swapsWith (.ListComp d c a b) (some (.Name x pos')) pos.line X.env=pure (swB lc (.ListComp d c a b) a x pos'):=by
 show pure (X.env.blockKind==.function&&X.env.kindOf x==some .local&&pos'.line==(Expr.ListComp d c a b).pos.line&&!(a.names.any λ(n,k)=>n==x&&(k==.local||k==.cell)))=_;have f:X.env.blockKind=.function:=by unfold PySem.Env.blockKind;rw [h.sc,h.kd];rfl
 have e:X.env.kindOf x=lc.sc.names.lookup x:=by unfold PySem.Env.kindOf;rw [h.sc]
 rw [f,e];rfl
theorem dD {T:Tx} {k i:Nat} {f:Lc} {X:Cx} {x:Str} {p pos:Pos} {e:Expr} {fs:Env->M (List D)} {xe:Addr->Hp->Prop} (r:f8 f.N x=some i) (h:PS X (.Assign [.Name x p] e pos) (pK (jD X.K T.cl x0 fs) (aw i))):PS X (.Assign [.Name x p] e pos) (sD X.K T.cl xe λρ=>bind (bind (nx (fs ρ)) λds=>ret (.lst ds)) (X6 f x ρ)):=PS.imp h λD σ H ⟨μ,S,ρ,g,n,p⟩=>
 ⟨μ,S,ρ,g,n,p.bind.bind.nx.imp λds S1 a j l c o m ys q b=>by
  have d:=o.ret a j (Lat.refl _ _) c;simp only [X6,r] at d;exact d.ret a j (Lat.refl _ _) c _ ((g.later l).set (.lst q b) i)⟩
def mi:RuS where
 is _ lc e:=match e with
  | .Assign [.Name x _] (.ListComp _ [⟨.Name y _,b,_,0⟩] a _) _=>dL lc x&&A0 lc a [y]&&n8 b
  | _=>false
 run r _ _ lc e ρ:=match e with
  | .Assign [.Name x _] (.ListComp c [⟨.Name y g,b,ifs,0⟩] a _) _=>bind (bind (N7 r lc c y g b ifs a ρ) λds=>ret (.lst ds)) (X6 lc x ρ)
  | _=>bad
 ok {T k r Γ C lc X} e R TX h hf f:=by
  split at f
  ·rename_i x p c y g b ifs a d pos;rw [Dt,Dt] at f;obtain ⟨⟨N,K⟩,t⟩:=f;have m:=N;rw [dL,Dt,Fj] at m;obtain ⟨⟨i,f⟩,M⟩:=m;have j:X.N[i]?=some x:=by rw [h.N];exact u6 f
   have n:L2.Loc X.env.scope x:=by rw [h.sc];exact F7 M
   have l:X.fn x=true\/X.env.scope.names.lookup x=some .local:=.inl (h.fn1 hf);have u:=vt h c [⟨.Name y g,b,ifs,0⟩] a x p pos d;unfold N7;cases L:i4 (f8 lc.N) (k7 a) with
   | none=>exact PS.imp fK λD σ H ⟨μ,S,ρ,J,F,p⟩=>p.bind.elim
   | some caps=>
    obtain ⟨z,o,I,v,E⟩:=E5 h K L;have G:=λpins C w s H=>PTL.x0 (tests_ok (ifs:=ifs) R (o4 h v E o pins C w s H));have A:=λpins C w s H=>PE.x0 (R.ex (o4 h v E o pins C w s H) c);refine dD (k:=k) f ?_;cases B:swB lc (.ListComp c [⟨.Name y g,b,ifs,0⟩] a d) a x p with
    | false=>
     rw [B] at u;exact ni h.nd' j n (eR z (h.calm v) o rfl (I y (by simp)) (PI.x0 (R.ix h _ _)) G A t) u l
    | true=>
     rw [B] at u;exact PS.imp (gR u h.nd' j n l z (h.calm v) o rfl (I y (by simp)) (PI.x0 (R.ix h _ _)) G A (v6 t)) λD σ H ⟨μ,S,ρ,J,F,p⟩=>aF J F p
  ·cases f
 runK q _ _ lc e ρ _ k:=match e with
  | .Assign [.Name x _] (.ListComp c [⟨.Name y g,b,ifs,0⟩] a _) _=>cO q lc c y g b ifs a ρ λds=>E6 lc x ρ (.lst ds) k
  | _=>bad
 eq e ρ _ k h:=by
  split
  ·simp only [dE h,bind_assoc,i7,cu]
  ·first
   | rfl
   | (rename_i t;split;exact (t _ _ _ _ _ _ _ _ _ _ rfl).elim;rfl)
def j3 (a:Lc):List Expr->Option (List Nat)
 | []=>some []
 | .Name x _ :: b=>if bE a.sc x=true then (match f8 a.N x,j3 a b with
   | some i,some c=>some (i :: c)
   | _,_=>none) else none
 | _=>none
theorem L0 (h:CxOk T k lc X) (hf:lc.fr=true):∀ {ts:List Expr} {is:List Nat},j3 lc ts=some is->NamesAt X ts is
 | [],is,e=>by cases e;exact .nil
 | t :: ts,is,e=>by
  cases t with
  | Name x p=>
   simp only [j3] at e;by_cases hl:bE lc.sc x=true
   ·simp only [if_pos hl] at e;cases e1:f8 lc.N x with
    | none=>rw [e1] at e;cases e
    | some i=>
     cases e2:j3 lc ts with
     | none=>grind
     | some is'=>
      rw [e1,e2] at e;cases e;exact .cons (by rw [h.N];exact u6 e1) (by rw [h.sc];exact F7 hl) (.inl (h.fn1 hf)) (L0 h hf e2)
   ·grind
  | _=>simp only [j3] at e;cases e
def CW:RuS where
 is _ lc e:=match e with
  | .Assign [.Tuple ts _ _] e _=>(j3 lc ts).isSome&&m7 e&&bO e&&!quiet lc
  | _=>false
 run r _ _ lc e ρ:=match e with
  | .Assign [.Tuple ts _ _] e _=>(match j3 lc ts with
   | some is=>bind (r.e lc e ρ) λd=>A6 (y3 is) d ρ
   | none=>bad)
  | _=>bad
 ok {T k r Γ C lc X} e R TX h hf hi:=by
  split at hi
  ·rename_i ts n p e pos;simp at hi;obtain ⟨⟨⟨h1,h2⟩,h3⟩,h4⟩:=hi;show PS X _ (sD X.K T.cl (xOf X) λρ=>(match j3 lc ts with
    | some is=>bind (r.e lc e ρ) λd=>A6 (y3 is) d ρ
    | none=>bad))
   cases e1:j3 lc ts with
   | none=>exact F1
   | some is=>exact rl (h.calm h4) h.nd' (L0 h hf e1) (R.ex h _) h2 h3
  ·cases hi
 runK q _ _ lc e ρ _ k:=match e with
  | .Assign [.Tuple ts _ _] e _=>(match j3 lc ts with
   | some is=>q.e lc e ρ λd=>bind (A6 (y3 is) d ρ) k
   | none=>bad)
  | _=>bad
 eq {r q Γ C lc} e ρ _ k h:=by
  split
  ·rename_i ts n p e pos;cases j3 lc ts with
   | none=>rfl
   | some is=>simp only [h.e,bind_assoc]
  ·first
   | rfl
   | (rename_i hn;split;exact (hn _ _ _ _ _ rfl).elim;rfl)
def AS:RuS where
 is _ _ e:=match e with
  | .Assign [.Subscript _ b _] e _=>m7 e&&E9 b
  | _=>false
 run r _ _ lc e ρ:=match e with
  | .Assign [.Subscript a b _] e _=>bind (r.e lc e ρ) λv=>bind (r.e lc a ρ) λx=>bind (r.e lc b ρ) λy=>bind (O5 x y v) λ_=>ret (.nx ρ)
  | _=>bad
 ok e R TX h hf hi:=by
  split at hi
  ·rw [Dt] at hi;exact lM h.u1 (R.ex h _) (R.ex h _) (R.ex h _) hi.1 hi.2
  ·cases hi
 runK q _ _ lc e ρ _ k:=match e with
  | .Assign [.Subscript a b _] e _=>q.e lc e ρ λv=>q.e lc a ρ λx=>q.e lc b ρ λy=>bind (O5 x y v) λ_=>k (.nx ρ)
  | _=>bad
 eq e ρ _ k h:=by
  split
  ·simp only [h.e,bind_assoc,i7]
  ·first
   | rfl
   | (rename_i c;split;exact (c _ _ _ _ _ rfl).elim;rfl)
def tgE (b:Lc) (a:Expr):Option (D->Env->Option Env):=match a with
 | .Name x _=>if bE b.sc x=true then (f8 b.N x).map λi=>λd ρ=>some (ρ.set i (some d)) else none
 | .Tuple c _ _=>(j3 b c).map y3
 | _=>none
theorem Ai (h:CxOk T k lc X) (d:lc.fr=true) (g:quiet lc=false) {b:Expr} {tg:D->Env->Option Env} (e:tgE lc b=some tg):PG X b (nP X.K T.cl tg):=by
 unfold tgE at e;split at e
 ·rename_i x p;by_cases c:bE lc.sc x=true
  ·simp only [if_pos c] at e;cases a:f8 lc.N x with
   | none=>rw [a] at e;cases e
   | some i=>rw [a] at e;cases e;exact pw h.nd' (by rw [h.N];exact u6 a) (by rw [h.sc];exact F7 c) (.inl (h.fn1 d))
  ·grind
 ·rename_i f n p;cases a:j3 lc f with
  | none=>rw [a] at e;cases e
  | some j=>rw [a] at e;cases e;exact ce (h.calm g) h.nd' (L0 h d a)
 ·cases e
def Ce:RuS where
 is _ lc e:=match e with
  | .For _ a _ [] _=>n8 a&&!quiet lc
  | _=>false
 run r _ _ lc e ρ:=match e with
  | .For b a body [] _=>(match tgE lc b with
   | some tg=>bind (r.i lc b a ρ) λp=>u0 p.1 tg (V4 r lc body) p.2 0 ρ
   | none=>bad)
  | _=>bad
 ok {T k r Γ C lc X} e R TX h hf hi:=by
  split at hi
  ·rename_i b a body pos;simp at hi;show PS X _ (sD X.K T.cl (xOf X) λρ=>(match tgE lc b with
    | some tg=>bind (r.i lc b a ρ) λp=>u0 p.1 tg (V4 r lc body) p.2 0 ρ
    | none=>bad))
   cases e:tgE lc b with
   | none=>exact F1
   | some tg=>exact rG h.po (h.calm hi.2) (R.ix h _ _) (Ai h hf hi.2 e) (O1 R h hf) hi.1
  ·cases hi
 runK q _ _ lc e ρ _ k:=match e with
  | .For b a body [] _=>(match tgE lc b with
   | some tg=>q.i lc b a ρ λp=>bind (u0 p.1 tg (λc=>k6 q lc body c ret) p.2 0 ρ) k
   | none=>bad)
  | _=>bad
 eq {r q Γ C lc} e ρ _ k h:=by
  split
  ·rename_i b a body pos;cases tgE lc b with
   | none=>rfl
   | some tg=>
    have:(λc=>k6 q lc body c ret)=V4 r lc body:=funext λc=>by rw [aq h,D3]
    simp only [h.i,bind_assoc,this]
  ·first
   | rfl
   | (rename_i d;split;exact (d _ _ _ _ rfl).elim;rfl)
def PB (X:Cx) (cl:Nat->Addr) (st:Stmt) (g:Env->M Fl):Prop:=∀ (pins:List (Addr×Obj)) (s:Shared) (σ:L2.St) (H:Hp) (D:Ends) (F:Addr->Hp->Prop),L2.Inv X pins σ H s->sD X.K cl F g D σ H ->
 wpAny (model X.prog X.w) X.A (exec st X.env) (SP X pins D) (vB X pins σ F) s
def iV (b:Option Nat) (a:Fl):Fl:=match b with
 | none=>a
 | some i=>match a with
  | .nx ρ=>.nx (ρ.set i none)
  | .bk ρ=>.bk (ρ.set i none)
  | .ct ρ=>.ct (ρ.set i none)
  | .rt d=>.rt d
def oN (a:Option Nat) (n:Nat) (ρ:Env):Env:=match a with
 | none=>ρ
 | some i=>ρ.set i (some (.ref n))
def aP (g:Env->M Fl) (a:Nat->Bool) (b:Option Nat) (h:Env->M Fl) (ρ:Env):M Fl:=λS=>match g ρ S with
 | .exn n S1=>(match S1[n]? with
  | some (.exc c _)=>if a c=true then bind (nx (h (oN b n ρ))) (λd=>ret (iV b d)) S1 else .bad
  | _=>.bad)
 | r=>r
section
variable {X:Cx} {cl:Nat->Addr} {e:Expr} {f:Env->M D} {pos:Pos} {st:Stmt} {g:Env->M Fl}
theorem tB (h:PX X cl e f) (m:m7 e=true):PB X cl (.Expr e pos) λρ=>bind (f ρ) λ_=>ret (.nx ρ):=by
 intro pins s σ H D F I ⟨μ,S,ρ,c,l,p⟩;exact wpAny_Expr_any (thn (h pins s σ H (λ_ a=>D.nx σ a) F I ⟨μ,S,ρ,c,l,p.bind.imp λd S1 b a j g n v o=>n.ret b a (Lat.refl _ _) g σ (c.later j)⟩) λv q ⟨x,a,k,g,i⟩=>⟨σ,a,k,i⟩) I.quiet (A4 m)
theorem xF (h:PX X cl e f):PB X cl (.Return (some e) pos) λρ=>bind (f ρ) λd=>ret (.rt d):=by
 intro pins s σ H D F I ⟨μ,S,ρ,j,l,p⟩;exact wpAny_Return_some (thn (h pins s σ H D.rt F I ⟨μ,S,ρ,j,l,p.bind.imp λd S1 a c n b m v i=>m.ret a c (Lat.refl _ _) b v i⟩) λv o ⟨x,c,k,b,g⟩=>⟨x,σ,c,k,b,g⟩)
theorem yk (r:X.N.Nodup) (z:X.N[i]?=some x) (t:Loc X.env.scope x) (h:PX X cl e f) (u:m7 e=true) (o:X.fn x=true\/X.env.scope.names.lookup x=some .local) :
  PB X cl (.Assign [.Name x pos'] e pos) λρ=>bind (f ρ) λd=>ret (.nx (ρ.set i (some d))):=by
 intro pins s σ H D F I ⟨μ,S,ρ,g,q,p⟩;exact wpAny_Assign_Name (thn (h pins s σ H (λv a=>D.nx (σ.set i (some v)) a) F I ⟨μ,S,ρ,g,q,p.bind.imp λd S1 b a k c w v l=>w.ret b a (Lat.refl _ _) c _ ((g.later k).set l i)⟩) λv B ⟨y,a,m,c,j⟩=>O8 m r z t c (λA n=>⟨_,a,n,j⟩) o) (A4 u)
theorem EnvOk.setN {K:PySem.W.Frag} {μ:Mp} {H:Hp} {ρ:Env} {σ:L2.St} (h:EnvOk K μ H ρ σ) (i:Nat):EnvOk K μ H (ρ.set i none) (σ.set i none):=by
 refine ⟨by simp [h.1],λj d e=>?_⟩;by_cases hij:i=j
 ·subst hij;have hi:i<ρ.length:=by simpa using (Eb.mp e).1
  rw [EM hi] at e;cases e
 ·rw [Fh hij] at e;obtain ⟨v,q,r⟩:=h.2 j d e;exact ⟨v,by rw [Fh hij];exact q,r⟩
def iQ (a:Option Nat) (D:Ends):Ends:=match a with
 | none=>D
 | some i=>{ nx:=λσ H=>D.nx (σ.set i none) H,rt:=D.rt,bk:=λσ H=>D.bk (σ.set i none) H,ct:=λσ H=>D.ct (σ.set i none) H }
theorem FlOk.goes {K:PySem.W.Frag} {D:Ends} {ie:Option Nat} {fl:Fl} {μ:Mp} {H:Hp} (h:FlOk K D (iV ie fl) μ H):FlOk K (iQ ie D) fl μ H:=by
 cases ie with
 | none=>exact h
 | some i=>
  cases fl with
  | nx ρ=>exact λσ eo=>h _ (eo.setN i)
  | bk ρ=>exact λσ eo=>h _ (eo.setN i)
  | ct ρ=>exact λσ eo=>h _ (eo.setN i)
  | rt d=>exact h
structure TryAt (X:Cx) (nm:Option Str) (ie:Option Nat):Prop where
 nd:X.N.Nodup
 ex:(nm=none/\ie=none)\/∃ x i,nm=some x/\ie=some i/\X.N[i]?=some x/\X.env.scope.names.lookup x=some .local
theorem yA {Tn:Str} {c0:Nat} {b0:Stmt} {suite:List Stmt} {hp tp:Pos} {sub:Nat->Bool} {h:Env->M Fl} (hst:X.stack=X.env :: X.outer) (hfr:X.env.frame=some X.env.locals) (hb:PB X cl st g)
  (hg:Gl X Tn) (hm:X.mg Tn=some (.ref (cl c0))) (hdb:(Tn==("__debug__" : Str))=false) (MT:XC X.K (cl c0)) (hk:∀ c,XC X.K (cl c)->PySem.W.kitOne X.K (.ref (cl c)) (.ref (cl c0))=some (sub c))
  (ta:TryAt X nm ie) (hs:∀ v,PSs (eO X v) (b0 :: suite) (sD X.K cl x0 h)) :
  PS X (.Try [st] [.ExceptHandler (some (.Name Tn tp)) nm (b0 :: suite) hp] [] [] pos) (sD X.K cl (xOf X) (aP g sub ie h)):=by
 intro pins s σ H D I ⟨μ,S,ρ,eo,rp,p⟩;rw [arm_exec_Try];have hpost:sD X.K cl (λa H1=>∃ n S1 μ1,g ρ S=.exn n S1/\Lat μ H μ1 H1/\Rep X.K cl μ1 S1 H1/\μ1.pl[n]?=some a) g D σ H:=⟨μ,S,ρ,eo,rp,by
  unfold aP at p;cases e:g ρ S with
  | ok fl S1=>rw [e] at p;exact p
  | exn n S1=>exact λμ' H' a l r q=>⟨n,S1,μ',rfl,l,r,q⟩
  | bad=>rw [e] at p;exact p⟩
 refine Do (EZ (wpAny_tryStmt_except (Ip (Ef (hb pins s σ H D _ I hpost) (λf s1 q=>?_) λev s1 fl=>?_))))
 ·cases f with
  | next=>exact GQ (GQ q)
  | ret v=>exact q
  | brk=>exact q
  | cont=>exact q
 ·obtain ⟨a,H1,C,d,tb,he,I1,fx,n,S1,μ1,eg,l1,r1,e1⟩:=fl;subst he;refine iP I1 I1.ok.frames hst hfr fx λH2 s2 T I2 fx2 m2=>M1 I2 fx2 λs3 I3=>?_;obtain ⟨l2,r2⟩:=r1.mv I1.hok e1 fx.at_ m2;unfold aP at p;rw [eg] at p;simp only at p;cases eo1:S1[n]? with
  | none=>rw [eo1] at p;exact p.elim
  | some o=>
   rw [eo1] at p;cases o with
   | lst _=>exact p.elim
   | dct _=>exact p.elim
   | exc c fs=>
    simp only at p;by_cases hsub:sub c=true
    case neg=>rw [if_neg hsub] at p;exact p.elim
    rw [if_pos hsub] at p;have ec:=(lO I1.hok (r1.ats n _ a eo1 e1) fx.at_ fx.tb_).1;have hkc:=hk c (ec▸fx.xc);rw [<- ec,hsub] at hkc;have J3:=I3.hushed (.ref a);have p':=(Post.later p (l1.trans l2)).bind.nx (xe':=x0);have post:∀ σ',EnvOk X.K μ1 H2 (oN ie n ρ) σ'->sD X.K cl x0 h (iQ ie D) σ' H2:=λσ' eo'=>⟨μ1,S1,_,eo',r2,p'.imp λfl S2 μ2 H3 l3 r3 p3=>FlOk.goes (p3.ret μ2 H3 (Lat.refl _ _) r3)⟩;refine wpAny_handleBy_cons (codeAny_handlers_test (F4 J3 hg hm ?_ hdb)) (by intro z;cases z);refine fj J3.kIn fx2.xc MT (fx2.isX (X:=eO X (.ref a)) J3) hkc ?_;rcases ta.ex with ⟨rfl,rfl⟩ | ⟨x,i,rfl,rfl,hi,hl⟩
    ·refine codeAny_handlers_suite (M1 (X:=eO X (.ref a)) J3 fx2 λs4 J4=>?_);refine Ef (hs (.ref a) pins s4 σ H2 (iQ none D) J4 (post σ (eo.later (l1.trans l2)))) (λf s5 q=>?_) λ_ _ z=>False.elim z;cases f with
     | next=>obtain ⟨σ',H',J,q⟩:=q;exact ⟨σ',H',J.unhush I.ok,q⟩
     | brk=>obtain ⟨σ',H',J,q⟩:=q;exact ⟨σ',H',J.unhush I.ok,q⟩
     | cont=>obtain ⟨σ',H',J,q⟩:=q;exact ⟨σ',H',J.unhush I.ok,q⟩
     | ret u=>obtain ⟨v,σ',H',J,r,q⟩:=q;exact ⟨v,σ',H',J.unhush I.ok,r,q⟩
    ·refine codeAny_handlers_suite_as (M1 (X:=eO X (.ref a)) J3 fx2 λs4 J4=>?_);refine O8 (X:=eO X (.ref a)) (v:=.ref a) J4 ta.nd hi (.inl hl) rfl (λs5 J5=>?_) (.inr hl);refine Ef (hs (.ref a) pins s5 _ H2 (iQ (some i) D) J5 (post _ ((eo.later (l1.trans l2)).set (.ref e1) i))) (λf s6 q=>?_) λ_ _ z=>False.elim z;cases f with
     | next=>obtain ⟨σ',H',J,q⟩:=q;exact Y2 (J.unhush I.ok) ta.nd hi hl λs7 I7=>⟨_,H',I7,q⟩
     | brk=>obtain ⟨σ',H',J,q⟩:=q;exact Y2 (J.unhush I.ok) ta.nd hi hl λs7 I7=>⟨_,H',I7,q⟩
     | cont=>obtain ⟨σ',H',J,q⟩:=q;exact Y2 (J.unhush I.ok) ta.nd hi hl λs7 I7=>⟨_,H',I7,q⟩
     | ret u=>obtain ⟨v,σ',H',J,r,q⟩:=q;exact Y2 (J.unhush I.ok) ta.nd hi hl λs7 I7=>⟨v,_,H',I7,r,q⟩
end
def xN:RuS where
 is Γ lc e:=match e with
  | .Raise (some (.Call (.Name x _) (a :: es) [] _)) none _=>o8 x&&glB lc.sc x&&(a :: es).all noStar&&!quiet lc
  | _=>false
 run r Γ _ lc e ρ:=match e with
  | .Raise (some (.Call (.Name x _) (a :: es) [] _)) none _=>bind (ky r Γ lc x (a :: es) ρ) A7
  | _=>bad
 ok {T k r Γ C lc X} e R TX h hf hi:=by
  split at hi
  ·simp only [Dt,Fa] at hi;exact nA (h.calm hi.2) (hY R TX h hi.1.1.1 hi.1.1.2 hi.1.2 hi.2)
  ·cases hi
 runK q Γ _ lc e ρ _ k:=match e with
  | .Raise (some (.Call (.Name x _) (a :: es) [] _)) none _=>sJ q Γ lc x (a :: es) ρ λd=>bind (A7 d) k
  | _=>bad
 eq {r q Γ C lc} e ρ _ k h:=by
  split
  ·simp only [lS h,bind_assoc]
  ·first
   | rfl
   | (rename_i b;split;exact (b _ _ _ _ _ _ rfl).elim;rfl)
def isR (Γ:Gm):Expr->Bool
 | .Call (.Name x _) (_ :: _) [] _=>lZ Γ x λi _=>decide (i∉Γ.qs)
 | _=>false
def oZ (r:Ev) (Γ:Gm) (C:Cf) (a:Lc) (x:Str) (es:List Expr) (ρ:Env):M D:=if o8 x=true/\glB a.sc x=true/\es.all noStar=true then (match Γ.gl.lookup x with
 | some (.fn i n)=>bind (nx (v5 r a es ρ)) λds=>if ds.length=n then C i ds else bad
 | _=>bad) else bad
def eB (r:Ev) (Γ:Gm) (C:Cf) (a:Lc) (e:Expr) (ρ:Env):M D:=if isR Γ e=true then (match e with
 | .Call (.Name x _) es [] _=>oZ r Γ C a x es ρ
 | _=>bad) else nx (r.e a e ρ)
def oi (q:EvK) (Γ:Gm) (C:Cf) (a:Lc) (x:Str) (es:List Expr) (ρ:Env):M D:=if o8 x=true/\glB a.sc x=true/\es.all noStar=true then (match Γ.gl.lookup x with
 | some (.fn i n)=>bind (nx (A3 q a es ρ ret)) λds=>if ds.length=n then C i ds else bad
 | _=>bad) else bad
def eBK (q:EvK) (Γ:Gm) (C:Cf) (a:Lc) (e:Expr) (ρ:Env):M D:=if isR Γ e=true then (match e with
 | .Call (.Name x _) es [] _=>oi q Γ C a x es ρ
 | _=>bad) else nx (q.e a e ρ ret)
theorem AW (h:EqK r q) (e:Expr) (ρ:Env):eBK q Γ C lc e ρ=eB r Γ C lc e ρ:=by
 unfold eBK eB oi oZ;simp only [m3 h,h.e,D3]
theorem zU {T:Tx} {k:Nat} {r:Ev} {Γ:Gm} {C:Cf} {lc:Lc} {X:Cx} (R:EvOk T k r) (TX:TxOk T Γ k C) (h:CxOk T k lc X) (hq:quiet lc=false) (e:Expr):PX X T.cl e (eB r Γ C lc e):=by
 have pbad:PX X T.cl e λ_=>bad:=λ_ _ _ _ _ _ _ ⟨_,_,_,_,_,z⟩=>z.elim;unfold eB;by_cases hr:isR Γ e=true
 ·simp only [if_pos hr];unfold isR at hr;split at hr
  ·rename_i x p e0 es pos;obtain ⟨i,n,e1,hi⟩:=cn hr;simp only;unfold oZ;by_cases hc:o8 x=true/\glB lc.sc x=true/\(e0 :: es).all noStar=true
   ·simp only [if_pos hc,e1];obtain ⟨c1,c2,c3⟩:=hc;obtain ⟨n1,n2,n3⟩:=p4 c1;obtain ⟨a,fd,ps,f1,f2,f3,f4,f5⟩:=(TX.fn x i n e1 (Fi hi)).ex;exact rY f1 (by rw [h.prog,h.w,h.K,h.mg,h.base];exact f2) (h.room0 hq) (h.gl c2) (by rw [h.mg];exact f3) (by rw [h.K];exact f4) (by rw [h.K];exact f5) (PA.x0 (m4 R h.nox c3)) n1 c3
   ·simp only [if_neg hc];exact pbad
  ·cases hr
 ·simp only [if_neg hr];exact PX.of (PE.x0 (R.ex h.nox e))
def bX (g:Expr->Env->M D) (a:Lc) (st:Stmt) (ρ:Env):M Fl:=match st with
 | .Expr e _=>if m7 e=true then bind (g e ρ) λ_=>ret (.nx ρ) else bad
 | .Return (some e) _=>bind (g e ρ) λd=>ret (.rt d)
 | .Assign [.Name x _] e _=>(match f8 a.N x with
  | some i=>if bE a.sc x=true/\m7 e=true then bind (g e ρ) λd=>ret (.nx (ρ.set i (some d))) else bad
  | none=>bad)
 | _=>bad
theorem AF {T:Tx} {k:Nat} {lc:Lc} {X:Cx} {g:Expr->Env->M D} (h:CxOk T k lc X) (hf:lc.fr=true) (hg:∀ e,PX X T.cl e (g e)) (st:Stmt):PB X T.cl st (bX g lc st):=by
 have pbad:PB X T.cl st λ_=>bad:=λ_ _ _ _ _ _ _ ⟨_,_,_,_,_,z⟩=>z.elim;unfold bX;split
 ·rename_i e p;by_cases hn:m7 e=true
  ·simp only [if_pos hn];exact tB (hg e) hn
  ·simp only [if_neg hn];exact pbad
 ·exact xF (hg _)
 ·rename_i x p' e p;cases hi:f8 lc.N x with
  | none=>exact pbad
  | some i=>
   by_cases hl:bE lc.sc x=true/\m7 e=true
   ·simp only [if_pos hl];exact yk h.nd' (by rw [h.N];exact u6 hi) (by rw [h.sc];exact F7 hl.1) (hg e) hl.2 (.inl (h.fn1 hf))
   ·simp only [if_neg hl];exact pbad
 ·exact pbad
def nmI (a:Lc) (b:Option Str):Option (Option Nat):=match b with
 | none=>some none
 | some x=>match f8 a.N x with
  | some i=>if a.sc.names.lookup x=some .local then some (some i) else none
  | none=>none
def I0 (a:Lc):Lc:=⟨a.N,a.sc,a.fr,"~" :: a.mu⟩
theorem CxOk.hushed (h:CxOk T k lc X) (v:Value):CxOk T k (I0 lc) (eO X v):=by
 have hq:quiet (I0 lc)=true:=by simp [quiet,I0]
 exact ⟨h.prog,h.w,h.K,h.mg,h.base,h.N,h.nd,h.sc,λz=>(by rw [hq] at z;exact absurd z (by decide)),⟨λz=>(by rw [hq] at z;exact absurd z (by decide)),h.room.dp,h.room.un,h.room.gd⟩,PassesOwn.never,h.fn,h.kd,λ_ z=>(by rw [hq] at z;exact absurd z (by decide)),λa b=>h.code a (by have b:(("~" : Str) :: lc.mu).contains ("lam" : Str)=true:=b;rw [List.contains_cons,show (("lam" : Str)==("~" : Str))=false by decide,Bool.false_or] at b;exact b)⟩
def vV (Γ:Gm) (a:Lc) (e:Stmt):Bool:=match e with
 | .Try [_] [.ExceptHandler (some (.Name b _)) c (_ :: _) _] [] [] _=>o8 b&&glB a.sc b&&!quiet a&&rC Γ b&&(nmI a c).isSome
 | _=>false
def zJ (g:Ev->Gm->Cf->Lc->Expr->Env->M D) (r:Ev) (Γ:Gm) (C:Cf) (b:Lc) (e:Stmt) (ρ:Env):M Fl:=match e with
 | .Try [st] [.ExceptHandler (some (.Name i _)) d (f :: a) _] [] [] _=>(match Γ.gl.lookup i,nmI b d with
  | some (.err c0 _),some h=>aP (bX (g r Γ C b) b st) (λc=>Γ.sub c c0) h (V4 r (I0 b) (f :: a)) ρ
  | _,_=>bad)
 | _=>bad
def Bw (g:EvK->Gm->Cf->Lc->Expr->Env->M D) (q:EvK) (Γ:Gm) (C:Cf) (b:Lc) (e:Stmt) (ρ:Env) {f:Type} (k:Fl->M f):M f:=match e with
 | .Try [st] [.ExceptHandler (some (.Name l _)) h (i :: a) _] [] [] _=>(match Γ.gl.lookup l,nmI b h with
  | some (.err c0 _),some j=>bind (aP (bX (g q Γ C b) b st) (λc=>Γ.sub c c0) j (λd=>k6 q (I0 b) (i :: a) d ret) ρ) k
  | _,_=>bad)
 | _=>bad
def BP (g:Ev->Gm->Cf->Lc->Expr->Env->M D) (gK:EvK->Gm->Cf->Lc->Expr->Env->M D) (hg:∀ {T:Tx} {k:Nat} {r:Ev} {Γ:Gm} {C:Cf} {lc:Lc} {X:Cx},EvOk T k r->TxOk T Γ k C->CxOk T k lc X->quiet lc=false->∀ e,PX X T.cl e (g r Γ C lc e))
  (hk:∀ {r:Ev} {q:EvK} {Γ:Gm} {C:Cf} {lc:Lc},EqK r q->∀ e ρ,gK q Γ C lc e ρ=g r Γ C lc e ρ):RuS where
 is:=vV
 run r Γ C lc e ρ:=zJ g r Γ C lc e ρ
 ok {T k r Γ C lc X} e R TX h hf hi:=by
  unfold vV at hi;split at hi
  ·rename_i st Tn tp nm b0 suite hp pos;simp at hi;obtain ⟨⟨⟨⟨c1,c2⟩,c3⟩,c4⟩,c5⟩:=hi;obtain ⟨n1,n2,n3⟩:=p4 c1;obtain ⟨hst,hfr⟩:=h.own hf c3;show PS X _ (sD X.K T.cl (xOf X) λρ=>(match Γ.gl.lookup Tn,nmI lc nm with
    | some (.err c0 _),some ie=>aP (bX (g r Γ C lc) lc st) (λc=>Γ.sub c c0) ie (V4 r (I0 lc) (b0 :: suite)) ρ
    | _,_=>bad))
   unfold rC at c4;split at c4
   ·rename_i c0 fs e;rw [e];obtain ⟨ea,na⟩:=TX.err Tn c0 fs e;cases hi:nmI lc nm with
    | none=>exact F1
    | some ie=>
     have ta:TryAt X nm ie:=by
      refine ⟨h.nd',?_⟩;unfold nmI at hi;split at hi
      ·grind
      ·rename_i x;split at hi
       ·rename_i i e1;split at hi
        ·rename_i hl;cases hi;exact .inr ⟨x,i,rfl,rfl,by rw [h.N];exact u6 e1,by rw [h.sc];exact hl⟩
        ·cases hi
       ·cases hi
     exact yA hst hfr (AF h hf (hg R TX h c3) st) (h.gl c2) (by rw [h.mg];exact ea.mg_) n1 (by rw [h.K];exact ea.xc) (λc xc=>by rw [h.K] at xc ⊢;exact TX.sub Tn c c0 fs e xc) ta λv=>PSs.x0 (O1 R (h.hushed v) hf)
   ·cases c4
  ·cases hi
 runK q Γ C lc e ρ _ k:=Bw gK q Γ C lc e ρ k
 eq {r q Γ C lc} e ρ _ k h:=by
  unfold Bw zJ;split
  ·rename_i st Tn tp nm b0 suite hp pos;have e1:(λρ'=>k6 q (I0 lc) (b0 :: suite) ρ' ret)=V4 r (I0 lc) (b0 :: suite):=funext λρ'=>by rw [aq h,D3]
   have e2:gK q Γ C lc=g r Γ C lc:=funext λe=>funext λρ=>hk h e ρ;rw [e1,e2];cases Γ.gl.lookup Tn with
   | none=>rfl
   | some z=>
    cases z with
    | err c fs=>cases nmI lc nm <;> rfl
    | _=>rfl
  ·first
   | rfl
   | (rename_i hn;split;exact (hn _ _ _ _ _ _ _ _ rfl).elim;rfl)
def Ci:RuS:=BP (λr Γ C a e ρ=>eB r Γ C a e ρ) (λq Γ C a e ρ=>eBK q Γ C a e ρ) (λR c h b e=>zU R c h b e) (λh e ρ=>AW h e ρ)
structure Fd where
 ps:List Str
 N:List Str
 sc:Scope
 body:List Stmt
 mu:List Str
def T9 (N:List Str) (ds:List D):Env:=ds.map some++List.replicate (N.length-ds.length) none
def endD (a:Fl):M D:=match a with
 | .rt d=>ret d
 | .nx _=>ret .non
 | _=>bad
abbrev A9 (fd:Fd):Lc:=⟨fd.N,fd.sc,true,fd.mu⟩
def O0 (Rs:Rules) (Γ:Gm) (a:List Fd):Nat->Nat->List D->M D
 | 0,_,_=>bad
 | k+1,i,ds=>match a[i]? with
  | none=>bad
  | some fd=>if ds.length=fd.ps.length then bind (V4 (ev Rs Γ (O0 Rs Γ a k) 40) (A9 fd) fd.body (T9 fd.N ds)) endD else bad
def Q6 (K:PySem.W.Frag) (f:Addr):Option Value:=match K.lookup f with
 | some ⟨_,_,.func fd,_⟩=>some fd.code
 | _=>none
def dw (T:Tx) (f:Addr) (qual:Str) (mu:List Str):Prop:=mu.contains ("lam" : Str)=true->∃ c,Q6 T.K f=some (.ref c)/\PySem.W.codeHdIn T.K c (T.cl 1000000)=true/\uK T.K T.cl/\qual ++ ".<locals>." ++ "<lambda>" = hF T.K (T.cl 1000000)
structure FnTx (T:Tx) (x:Str) (fd:Fd):Prop where
 ex:∃ (f:Addr) (da:FuncData) (qual:Str) (st:Stmt),Fun T.K x qual st f da/\i9 st=fd.body/\c8 st=fd.sc/\FnScope fd.N fd.ps fd.sc/\Binds T.K da fd.ps []/\T.mg x=some (.ref f)/\dw T f qual fd.mu
theorem df {K:PySem.W.Frag} {μ:Mp} {H:Hp} {N:List Str} {ds:List D} {vs:List V} (r:RDs K μ H ds vs):EnvOk K μ H (T9 N ds) (L2.start N vs):=by
 unfold T9 L2.start;refine ⟨by simp [r.length],λi d e=>?_⟩;by_cases hi:i<ds.length
 ·rw [EC (by simpa using hi),Eo] at e;cases q:ds[i]? with
  | none=>rw [q] at e;cases e
  | some d'=>
   rw [q] at e;cases e;obtain ⟨v,e1,r1⟩:=r.get q;refine ⟨v,?_,r1⟩;rw [EC (by rw [Dr,<- r.length];exact hi),Eo,e1];rfl
 ·rw [ED (by simpa using GE hi),GV] at e;split at e <;> cases e
section
variable {P:Program} {w:World} {K:PySem.W.Frag} {mg:Str->Option Value} {base:Heap}
theorem ma {x qual:Str} {st:Stmt} {f:Addr} {fd:FuncData} {N ps:List Str} {k:Nat} {sp:Sp} (F:Fun K x qual st f fd) (S:FnScope N ps (c8 st)) (len:∀ vs H Q E,sp vs H Q E->vs.length=ps.length)
  (hbody:∀ (cdv:Value) (A:Around) (outer:List PySem.Env) (s:Shared) (H:Hp) (vs:List V) (Q:VK) (E:XK),Q6 K f=some cdv->Room CX.q k (A.deeper (envOfC qual (c8 st) s.heap.objs.size f cdv))->sp vs H Q E ->
   ∃ t,PSs (X0 CX P w K mg base N qual (c8 st) f cdv A outer s H E) (i9 st) t/\t { nx:=λ_ H'=>Q .non H',rt:=Q } (start N vs) H):FnOk P w K mg base CX (k+1) f fd ps sp:=by
 obtain ⟨oc,od,kV,doc,pm,an,cdv,ct,osl,rfl,lk,hcd⟩:=F.ex;exact vq lk hcd S len λA outer s H vs Q E hr hsp=>hbody cdv A outer s H vs Q E (by unfold Q6;rw [lk]) hr hsp
theorem Post.fly {H0 H:Hp} {E:XK} {μ:Mp} {r:R α} {G:α->Sto->Mp->Hp->Prop} (p:Post K cl (gG E) μ H r G) :
  Post K cl (xOf (X0 (CXd P w K) P w K mg base N qual scope f cd A outer s H0 E)) μ H r G:=by
 cases r with
 | ok a S=>exact p
 | bad=>exact p
 | exn n S=>
  intro μ' H' a l rp e pins σ s' C d tb I fx;refine gi I I.ok.frames rfl rfl fx λH2 s2 T I2 fx2 m2=>?_;obtain ⟨l2,r2⟩:=rp.mv I.hok e fx.at_ m2;exact ⟨a,C,d,some T,H2,rfl,I2.os,I2.bare,I2.base,I2.hok,fx2,p μ' H2 a (l.trans l2) r2 e⟩
end
theorem FnOk.unX {K:PySem.W.Frag} {mg:Str->Option Value} {base:Heap} {k n:Nat} {f:Addr} {fd:FuncData} {ps:List Str} {cl:Nat->Addr} {run:List D->M D} (F:FnOk P w K mg base (CXd P w K) k f fd ps (spX K cl n run)):FnOk P w K mg base (CXq false) k f fd ps (spD K cl n run):=
 ⟨λvs H Q E h=>F.len vs H Q E0 h,λA outer s H args us vs Q E hr e0 hb r h=>Ff (F.run A outer s H args us vs Q E0 hr e0 hb r h) λres s' hq=>by
  cases res with
  | ok fl=>cases fl <;> exact hq
  | error e=>obtain ⟨_,_,_,_,_,_,_,_,_,_,_,z⟩:=hq;exact z⟩
section
variable {Rs:Rules} {T:Tx} {Γ:Gm} {Tb:List Fd} {k i:Nat} {x qual:Str} {st:Stmt} {f:Addr} {da:FuncData} {fd:Fd}
theorem dG (TX:TxOk T Γ (k+3) (O0 Rs Γ Tb k)) (hi:Tb[i]?=some fd) (F:Fun T.K x qual st f da) (h1:i9 st=fd.body) (h2:c8 st=fd.sc) (S:FnScope fd.N fd.ps fd.sc) (hq:quiet (A9 fd)=false) (hL:dw T f qual fd.mu) :
  FnOk T.P T.w T.K T.mg T.base (CXd T.P T.w T.K) (k+4) f da fd.ps (spX T.K T.cl fd.ps.length (O0 Rs Γ Tb (k+1) i)):=by
 have S':FnScope fd.N fd.ps (c8 st):=by rw [h2];exact S
 refine ma (k:=k+3) F S' (λvs H Q E h=>h.1) λcdv A outer s H vs Q E hcd hr hsp=>?_;obtain ⟨hl,μ,S0,ds,rds,rp,p⟩:=hsp;have cx:CxOk T (k+3) (A9 fd) (X0 (CXd T.P T.w T.K) T.P T.w T.K T.mg T.base fd.N qual (c8 st) f cdv A outer s H E):=⟨rfl,rfl,rfl,rfl,rfl,rfl,S.nd,h2,λ_=>rfl,by rw [hq];exact hr,λe s' z=>wpAny_leaving_again (SameStack.refl _) z,rfl,S.kind,λ_ _=>⟨rfl,rfl⟩,λ_ z=>let ⟨c,e1,e2⟩:=hL z;⟨c,EA (hcd.symm.trans e1),e2⟩⟩;have R:=nH (Rs:=Rs) TX 40;refine ⟨_,by rw [h1];exact O1 R cx rfl,?_⟩;refine ⟨μ,S0,T9 fd.N ds,df rds,rp,?_⟩;have hd:ds.length=fd.ps.length:=by rw [rds.length];exact hl
 simp only [O0,hi,if_pos hd] at p;refine Post.fly (p.bind.imp λfl S1 μ1 H1 l1 r1 p1=>?_);cases fl with
 | nx ρ=>exact λσ _=>p1 μ1 H1 (Lat.refl _ _) r1 _ .non
 | rt d=>exact λv rv=>p1 μ1 H1 (Lat.refl _ _) r1 v rv
 | bk ρ=>exact False.elim p1
 | ct ρ=>exact False.elim p1
theorem mq (TX:TxOk T Γ (k+3) (O0 Rs Γ Tb k)) (hi:Tb[i]?=some fd) (F:Fun T.K x qual st f da) (h1:i9 st=fd.body) (h2:c8 st=fd.sc) (S:FnScope fd.N fd.ps fd.sc) (hq:quiet (A9 fd)=true) (hL:dw T f qual fd.mu) :
  FnOk T.P T.w T.K T.mg T.base (CXq true) (k+4) f da fd.ps (spD T.K T.cl fd.ps.length (O0 Rs Γ Tb (k+1) i)):=by
 have S':FnScope fd.N fd.ps (c8 st):=by rw [h2];exact S
 refine ma (k:=k+3) F S' (λvs H Q E h=>h.1) λcdv A outer s H vs Q E hcd hr hsp=>?_;obtain ⟨hl,μ,S0,ds,rds,rp,p⟩:=hsp;have cx:CxOk T (k+3) (A9 fd) (X0 (CXq true) T.P T.w T.K T.mg T.base fd.N qual (c8 st) f cdv A outer s H E).nox:=⟨rfl,rfl,rfl,rfl,rfl,rfl,S.nd,h2,λz=>(by rw [hq] at z;exact absurd z (by decide)),by rw [hq];exact hr,PassesOwn.never,rfl,S.kind,λ_ z=>(by rw [hq] at z;exact absurd z (by decide)),λ_ z=>let ⟨c,e1,e2⟩:=hL z;⟨c,EA (hcd.symm.trans e1),e2⟩⟩;have R:=nH (Rs:=Rs) TX 40;refine ⟨_,by rw [h1];exact PSs.nox (PSs.x0 (O1 R cx rfl)),?_⟩;refine ⟨μ,S0,T9 fd.N ds,df rds,rp,?_⟩;have hd:ds.length=fd.ps.length:=by rw [rds.length];exact hl
 simp only [O0,hi,if_pos hd] at p;refine p.bind.imp λfl S1 μ1 H1 l1 r1 p1=>?_;cases fl with
 | nx ρ=>exact λσ _=>p1 μ1 H1 (Lat.refl _ _) r1 _ .non
 | rt d=>exact λv rv=>p1 μ1 H1 (Lat.refl _ _) r1 v rv
 | bk ρ=>exact False.elim p1
 | ct ρ=>exact False.elim p1
theorem rj (TX:TxOk T Γ (k+3) (O0 Rs Γ Tb k)) (hi:Tb[i]?=some fd) (F:Fun T.K x qual st f da) (h1:i9 st=fd.body) (h2:c8 st=fd.sc) (S:FnScope fd.N fd.ps fd.sc) (hq:quiet (A9 fd)=false:=by rfl) (hL:dw T f qual fd.mu:=by exact λz=>absurd z (by decide)) :
  FnOk T.P T.w T.K T.mg T.base (CXq false) (k+4) f da fd.ps (spD T.K T.cl fd.ps.length (O0 Rs Γ Tb (k+1) i)):=FnOk.unX (dG TX hi F h1 h2 S hq hL)
def xE (Γ:Gm) (a:List Fd):Bool:=(List.range a.length).all λi=>match a[i]? with
 | some fd=>quiet (A9 fd)==Γ.qs.contains i
 | none=>false
theorem iI (h:xE Γ Tb=true) (hi:Tb[i]?=some fd):quiet (A9 fd)=Γ.qs.contains i:=by
 unfold xE at h;have:=(Er.mp h) i (Fp.mpr (Eb.mp hi).1);rw [hi] at this;simpa using this
end
structure TxSt (T:Tx) (Γ:Gm):Prop where
 blt:∀ x∈bnames,Γ.gl.lookup x=none->T.mg x=none
 val:∀ x d,Γ.gl.lookup x=some (.val d)->∃ u v,T.mg x=some u/\RelV v u/\∀ μ H,RD T.K μ H d v
 err:∀ x c fs,Γ.gl.lookup x=some (.err c fs)->ErrAt T x c fs/\(∀ g∈fs,y9 T.K (T.cl c) g)
 sub:∀ x c c0 fs,Γ.gl.lookup x=some (.err c0 fs)->XC T.K (T.cl c)->PySem.W.kitOne T.K (.ref (T.cl c)) (.ref (T.cl c0))=some (Γ.sub c c0)
 subV:∀ c,XC T.K (T.cl c)->PySem.W.kitOne T.K (.ref (T.cl c)) (.type "ValueError")=some true
 subT:∀ c,XC T.K (T.cl c)->∀ t∈tys,PySem.W.kitOne T.K (.ref (T.cl c)) (.type t)=some false
 fld:∀ g∈Γ.flds,∀ c,XC T.K (T.cl c)->y9 T.K (T.cl c) g
 dct:∀ x kvs,Γ.gl.lookup x=some (.dct kvs)->nu T x kvs
def ls (T:Tx) (Γ:Gm) (a:List Fd):Prop:=∀ x i n,Γ.gl.lookup x=some (.fn i n)->∃ fd,a[i]?=some fd/\fd.ps.length=n/\FnTx T x fd
theorem TxSt.ok (h:TxSt T Γ) {k:Nat} {C:Cf} (f:∀ x i n,Γ.gl.lookup x=some (.fn i n)->i∉Γ.qs->FnX T (k+3) i n x (C i)) (a:∀ x i n,Γ.gl.lookup x=some (.fn i n)->i∈Γ.qs->FnAt T (k+3) i n x (C i)):TxOk T Γ (k+3) C:=⟨h.blt,h.val,f,a,h.err,h.sub,h.subV,h.subT,h.fld,h.dct,by omega⟩
theorem qS {T:Tx} {Γ:Gm} {Tb:List Fd} (h:TxSt T Γ) (fs:ls T Γ Tb) (k:Nat) (hq:xE Γ Tb=true:=by rfl):TxOk T Γ (k+3) (O0 Rs Γ Tb k):=by
 induction k with
 | zero=>
  have bad:∀ x i n,Γ.gl.lookup x=some (.fn i n)->∃ (a:Addr) (fd:FuncData) (ps:List Str),ps.length=n/\(∀ CX,FnOk T.P T.w T.K T.mg T.base CX 3 a fd ps (spX T.K T.cl n (O0 Rs Γ Tb 0 i)))/\T.mg x=some (.ref a)/\PySem.W.keepIn T.K (.ref a)=true/\Binds T.K fd ps []:=λx i n e=>by
   obtain ⟨fd,h1,h2,h3⟩:=fs x i n e;obtain ⟨f,da,qual,st,F,_,_,_,b,m,_⟩:=h3.ex;refine ⟨f,da,fd.ps,h2,λCX=>⟨λvs H Q E h=>by rw [h2];exact h.1,λA outer s H args us vs Q E _ _ _ _ hsp=>?_⟩,m,F.kp,b⟩;obtain ⟨_,μ,S,ds,_,_,p⟩:=hsp;exact p.elim
  refine h.ok (λx i n e _=>?_) λx i n e _=>?_
  ·obtain ⟨a,fd,ps,h1,h2,h3⟩:=bad x i n e;exact ⟨a,fd,ps,h1,h2 _,h3⟩
  ·obtain ⟨a,fd,ps,h1,h2,h3⟩:=bad x i n e;exact ⟨a,fd,ps,h1,FnOk.imp (h2 _) λvs H Q E ⟨_,μ,S,ds,_,_,p⟩=>p.elim,h3⟩
 | succ k TX=>
  refine h.ok (λx i n e hn=>?_) λx i n e m=>?_
  ·obtain ⟨fd,h1,h2,h3⟩:=fs x i n e;subst h2;obtain ⟨f,da,qual,st,F,g1,g2,S,b,m2,lm⟩:=h3.ex;exact ⟨f,da,fd.ps,rfl,dG TX h1 F g1 g2 S (by rw [iI hq h1];simpa using hn) lm,m2,F.kp,b⟩
  ·obtain ⟨fd,h1,h2,h3⟩:=fs x i n e;subst h2;obtain ⟨f,da,qual,st,F,g1,g2,S,b,m2,lm⟩:=h3.ex;exact ⟨f,da,fd.ps,rfl,mq TX h1 F g1 g2 S (by rw [iI hq h1];simpa using m) lm,m2,F.kp,b⟩
def runK (Rs:Rules) (Γ:Gm) (C:Cf) (fd:Fd) (ds:List D):M D:=if ds.length=fd.ps.length then k6 (evK Rs Γ C 40) ⟨fd.N,fd.sc,true,fd.mu⟩ fd.body (T9 fd.N ds) endD else bad
theorem d6 {a:List Fd} {k i:Nat} {fd:Fd} (h:a[i]?=some fd) (ds:List D):O0 Rs Γ a (k+1) i ds=runK Rs Γ (O0 Rs Γ a k) fd ds:=by
 simp only [O0,h,runK];split
 ·rw [aq (vZ 40)]
 ·rfl
def nv (a:Arguments):List Str:=a.args.map (·.arg)
def uT (ps:List Str) (a:Scope):List Str:=ps++(a.names.filter λy=>(y.2==.local||y.2==.cell)&&!ps.contains y.1).map (·.1)
def j7 (st:Stmt) (a:List Str):Fd:=⟨nv (m8 st),uT (nv (m8 st)) (c8 st),c8 st,i9 st,a⟩
def Y0 (fd:Fd):Bool:=decide (fd.sc.kind=.function)&&!fd.sc.isCoroutine&&!fd.sc.isGenerator&&decide fd.N.Nodup&&decide (fd.N.take fd.ps.length=fd.ps)&&fd.ps.all (λx=>bE fd.sc x)&&fd.sc.names.all (λy=>decide (y.2≠.free))
theorem O2 (h:Y0 fd=true):FnScope fd.N fd.ps fd.sc:=by
 simp only [Y0,Dt,Eh,Er,Fa] at h;obtain ⟨⟨⟨⟨⟨⟨i,b⟩,c⟩,d⟩,f⟩,e⟩,a⟩:=h;exact ⟨i,b,c,d,f,λx g=>F7 (e x g),a⟩
def DC:RuE:=rBf "sum" "sum" true (one oS) (by decide) rfl λ_ a=>zT (a rfl)
theorem _root_.L2.Inv.dr (I:Inv X pins σ H s) (d:Drawn):Inv X pins σ H { s with drawn:=d }:=
 ⟨I.ok,I.os,I.bare,I.base,I.loc,I.cell,I.free,I.freeC,I.pin,I.hok,I.len⟩
def j5 (ns:List Int):List Int:=HT.metKHt (λi=>ns.getD i 0) ns.length
theorem Y4 (ns:List Int):(j5 ns).Nodup:=HT.metK_nd _ _
theorem uniq_mem {ns:List Int} {k:Int}:k∈j5 ns↔k∈ns:=by
 unfold j5;rw [HT.metK_mem];constructor
 ·rintro ⟨j,h,e⟩;rw [<- e];have:ns.getD j 0=ns[j]:=by simp [List.getD,h]
  rw [this];exact Em h
 ·intro h;obtain ⟨j,hj,e⟩:=GC.mp h;exact ⟨j,hj,by simp [List.getD,hj,e]⟩
section
variable {X:Cx} {e:Expr} {te:TE} {p p2 pos pos2:Pos} {cl:Nat->Addr} {xe:Addr->Hp->Prop}
def tS (K:PySem.W.Frag) (te:TE):TE:=λσ H Q=>te σ H λx b=>∃ a ns,x=.ref a/\(SqL K b a (ns.map V.int)\/SqT K b a (ns.map V.int))/\(ns.length<4000/\(j5 ns).length<64)/\∀ p,b p=none->Q (.ref p) (upd b p (.lst ((srt (j5 ns)).map V.int)))
theorem jd (hc:X.calm=true) (hl:Gl X "sorted") (ml:X.mg "sorted" = none) (hs:Gl X "set") (ms:X.mg "set" = none) (he:PE X e te) (hn:noStar e=true):PE X (.Call (.Name "sorted" p) [.Call (.Name "set" p2) [e] [] pos2] [] pos) (tS X.K te):=by
 intro pins s σ H Q I h;have hh:X.A.handled=none:=I.ok.hd hc;refine EI (w8 I hl ml (by rfl) ?_ (by decide) (by decide));refine FA ?_ rfl rfl;show wpAny _ _ (spliced ((false,eval (.Call (.Name "set" p2) [e] [] pos2) X.env) :: backTo pos (starEach [] X.env))) _ _ s;refine Fm ?_;refine EI (w8 I hs ms (by rfl) ?_ (by decide) (by decide));refine EN ?_ (c9 hn) rfl;rw [c9 hn];show wpAny _ _ (spliced ((false,eval e X.env) :: backTo pos2 (starEach [] X.env))) _ _ s;refine Fm (thn (he pins s σ H _ I h) λu s1 ⟨x,H1,I1,r1,a,ns,e1,hq,hz,q⟩=>?_);subst e1;cases r1;refine Fq ?_;have fin:∀ (its:List Value),its.length=ns.length->PyProof.Rows.IntsAre its ns->(s1.heap.IsTuple a its.toArray\/s1.heap.IsList a its.toArray) ->
   wpAny (model X.prog X.w) X.A (call (.type "set") [.ref a]) (λv z=>wpAny (model X.prog X.w) X.A (spliced (backTo pos (starEach [] X.env))) (λvs s2=>wpAny (model X.prog X.w) X.A (call (.builtin "sorted") (v :: vs)) (EP X pins σ Q) X.xe s2) X.xe z) X.xe s1:=λits hlen hi hsq=>by
  refine HT.callLHt (knd:=intKind X.prog X.w) (λi=>ns.getD i 0) hh hsq (λi v hv=>?_) (by rw [Dy,hlen];show ns.length+1<4096;have:=hz.1;omega) λg tk ⟨hS,hk⟩=>?_
  ·obtain ⟨t,rfl⟩:=HE hi i v (by rw [<- FQ];exact hv);exact ⟨intKind_is _ _ _ _,rfl⟩
  ·refine Fq ?_;have sz:its.toArray.size=ns.length:=by rw [Dy,hlen]
   rw [sz] at hS;refine HT.sortLHt (s:={ s1 with heap:=g,toks:=tk }) hh hS (HT.metK_nd _ _) hz.2 λz pp out ms c kp rs le hp b1 b2 b3=>?_;have em:ms=srt (j5 ns):=fT (b2.trans (j6 (j5 ns)).symm) b3 (cS _);subst em;have old:∀ b u,s1.heap.get? b=some u->z.heap.get? b=some u:=λb u eb=>kp b u (hk b u (Dv eb) eb);have fresh:s1.heap.objs.size<=pp:=by
    refine EQ ?_ le;obtain ⟨_,_,_,_,ho,_⟩:=hS;exact FV (Dv ho)
   have hf:H1 pp=none:=I1.hok.fresh fresh;have I2:=(I1.laid (t':=z.toks) (h':=z.heap) (o:=.lst ((srt (j5 ns)).map V.int)) old fresh ⟨by rw [Dr,(j6 _).length_eq,Ew];have:=hz.2;omega,out.toList,c,U9 b1,by rw [GA];exact hp⟩).dr z.drawn;refine ⟨.ref pp,upd H1 pp (.lst ((srt (j5 ns)).map V.int)),?_,rfl,q pp hf⟩;rw [rs];exact I2
 rcases hq with hq | hq
 ·obtain ⟨its,r',pl,hsz⟩:=I1.list hq;have hlen:its.length=ns.length:=by rw [<- r'.length,Dr]
  exact fin its hlen (E4 r') (.inr pl.isList)
 ·obtain ⟨its,r',⟨ob,o1,o2,n,o3⟩,hsz⟩:=I1.tuple hq;have hlen:its.length=ns.length:=by rw [<- r'.length,Dr]
  exact fin its hlen (E4 r') (.inl ⟨ob,o1,o2,n,o3⟩)
def D5 (d:D):M D:=bind (y4 d) λds=>match o9 ds with
 | some ns=>if ns.length<4000/\(j5 ns).length<64 then ret (.lst ((srt (j5 ns)).map D.int)) else bad
 | none=>bad
theorem kQ (m:X.calm=true) (q:Gl X "sorted") (t:X.mg "sorted" = none) (hs:Gl X "set") (ms:X.mg "set" = none) (u:PE X e (tD X.K cl xe f)) (k:noStar e=true):PE X (.Call (.Name "sorted" p) [.Call (.Name "set" p2) [e] [] pos2] [] pos) (tD X.K cl xe λρ=>bind (f ρ) D5):=
 PE.imp (jd m q t hs ms u k) λσ H Q ⟨μ,S,ρ,r,o,p⟩=>⟨μ,S,ρ,r,o,p.bind.imp λd S1 i y A j b v x=>by
  obtain ⟨a,xs,ds,rfl,w,n,s⟩:=K3 x j b.bind;have b:=b.ok_bind s;cases g:o9 ds with
  | none=>rw [g] at b;exact b.elim
  | some ns=>
   rw [g] at b;obtain ⟨hz,b⟩:=Post.guard b;have:=R9 g n;subst this;refine ⟨a,ns,rfl,w,hz,λz hz=>?_⟩;obtain ⟨l,h,c⟩:=A1 j (RDs.ints (srt (j5 ns))) hz;exact b i _ l h _ c⟩
end
def uN:RuE where
 is Γ lc e:=match e with
  | .Call (.Name x _) [.Call (.Name y _) [a] [] _] [] _=>decide (x = "sorted")&&decide (y = "set")&&(Γ.gl.lookup ("sorted" : Str)).isNone&&(Γ.gl.lookup ("set" : Str)).isNone&&glB lc.sc "sorted" && glB lc.sc "set" && !quiet lc&&noStar a
  | _=>false
 run r _ _ lc e ρ:=match e with
  | .Call (.Name _ _) [.Call (.Name _ _) [a] [] _] [] _=>bind (r.e lc a ρ) D5
  | _=>bad
 ok {T k r Γ C lc X} e R TX h hi:=by
  split at hi
  ·simp only [Dt,Eh,Ey,Fa] at hi;obtain ⟨⟨⟨⟨⟨⟨⟨rfl,rfl⟩,g⟩,l⟩,b⟩,f⟩,j⟩,i⟩:=hi;exact kQ (h.calm j) (h.gl b) (TX.none h (by decide) g) (h.gl f) (TX.none h (by decide) l) (R.ex h _) i
  ·cases hi
 runK q _ _ lc e ρ _ k:=match e with
  | .Call (.Name _ _) [.Call (.Name _ _) [a] [] _] [] _=>q.e lc a ρ λd=>bind (D5 d) k
  | _=>bad
 eq e ρ _ k h:=by
  split
  ·simp only [h.e,bind_assoc]
  ·first
   | rfl
   | (rename_i c;split;exact (c _ _ _ _ _ _ _ rfl).elim;rfl)
def yZ (a:Scope) (b:List Expr):Bool:=match b with
 | [.Name x _,.Name y _]=>!(a.names.lookup x==some .local)||!(a.names.lookup y==some .local)
 | _=>false
theorem uM {env:PySem.Env} {ts es:List Expr} {k k2:Nat} {p p2:Pos} (h:yZ env.scope ts=true):swappedStores [.Tuple ts k p] (.Tuple es k2 p2) env=pure none:=by
 unfold yZ at h;split at h
 ·rename_i x px y py;have hx:∀ z,env.kindOf z=env.scope.names.lookup z:=λz=>rfl;unfold swappedStores;simp only
  repeat' (first | rfl | split)
  all_goals
   rename_i _ _ c _ _;refine absurd ?_ c;simp only [GL,List.filterMap_nil,hx];cases h1:(env.scope.names.lookup x==some NameKind.local) <;> cases h2:(env.scope.names.lookup y==some NameKind.local) <;> rw [h1,h2] at h
   ·rfl
   ·simp only [IL,Bool.true_and,EV,Ha];split <;> rfl
   ·simp only [IL,Bool.true_and,EV,Ha];split <;> rfl
   ·cases h
 ·cases h
def zD:RuS where
 is _ lc e:=match e with
  | .Assign [.Tuple ts _ _] (.Tuple es _ _) _=>(j3 lc ts).isSome&&yZ lc.sc ts&&!quiet lc
  | _=>false
 run r _ _ lc e ρ:=match e with
  | .Assign [.Tuple ts _ _] (.Tuple es k p) _=>(match j3 lc ts with
   | some is=>bind (r.e lc (.Tuple es k p) ρ) λd=>A6 (y3 is) d ρ
   | none=>bad)
  | _=>bad
 ok {T k r Γ C lc X} e R TX h hf hi:=by
  split at hi
  ·rename_i ts n p es k2 p2 pos;simp at hi;obtain ⟨⟨h1,h2⟩,h4⟩:=hi;rw [<- h.sc] at h2;show PS X _ (sD X.K T.cl (xOf X) λρ=>(match j3 lc ts with
    | some is=>bind (r.e lc (.Tuple es k2 p2) ρ) λd=>A6 (y3 is) d ρ
    | none=>bad))
   cases e1:j3 lc ts with
   | none=>exact F1
   | some is=>
    exact PS.imp (cK (R.ex h _) (ce (h.calm h4) h.nd' (L0 h hf e1)) (by unfold swapsWithSole;exact A4 rfl) (uM h2) rfl) λD σ H ⟨μ,S,ρ,eo,rp,p⟩=>
     ⟨μ,S,ρ,eo,rp,p.bind.imp λd S1 μ1 H1 l1 r1 p1 v rv=>by
      cases e1:y3 is d ρ with
      | none=>simp only [A6,e1] at p1;exact p1.elim
      | some ρ'=>simp only [A6,e1] at p1;exact ⟨μ1,S1,ρ,d,ρ',eo.later l1,r1,rv,e1,p1.ret μ1 H1 (Lat.refl _ _) r1⟩⟩
  ·cases hi
 runK q _ _ lc e ρ _ k:=match e with
  | .Assign [.Tuple ts _ _] (.Tuple es k2 p) _=>(match j3 lc ts with
   | some is=>q.e lc (.Tuple es k2 p) ρ λd=>bind (A6 (y3 is) d ρ) k
   | none=>bad)
  | _=>bad
 eq {r q Γ C lc} e ρ _ k h:=by
  split
  ·rename_i ts n p es k2 p2 pos;cases j3 lc ts with
   | none=>rfl
   | some is=>simp only [h.e,bind_assoc]
  ·first
   | rfl
   | (rename_i hn;split;exact (hn _ _ _ _ _ _ _ rfl).elim;rfl)
theorem b6 {k:α->M β} {S S':Sto} {a:α} (e:m S=.ok a S'):bind m k S=k a S':=by unfold bind;rw [e]
theorem mJ {S:Sto} {p:Nat} {o o':O} (h:S[p]?=some o):(S.set p o')[p]?=some o':=EM (Eb.mp h).1
theorem iX (i j:Int) (S:Sto):aj (.int i) (.int j) S=.ok (.int (i+j)) S:=rfl
theorem Z3 {i j:Int} (h:0<j) (S:Sto):Q8 (.int i) (.int j) S=.ok (.int (i % j)) S:=by simp only [Q8,if_pos h,ret]
theorem bw {i j:Int} (h:0<j) (b:j<1073741824) (S:Sto):W4 (.int i) (.int j) S=.ok (.int (i / j)) S:=by
 have a:pS i j:=⟨h,b⟩;simp only [W4,if_pos a,ret]
theorem eT (h:CMul i j) (S:Sto):cq (.int i) (.int j) S=.ok (.int (i * j)) S:=by simp only [cq,if_pos h,ret]
theorem fJ (ns:List Int) (S:Sto):v9 (.lst (ns.map D.int)) S=.ok (.int ns.length) S:=by
 show R.ok (D.int ((ns.map D.int).length:Nat)) S=_;grind
theorem qX {ns:List Int} {a:Int} (f:0<=a) (g:0<ns.length) (S:Sto):∃ z:Int,ixD (.lst (ns.map D.int)) (.int (a % (ns.length:Int))) S=.ok (.int z) S:=by
 have c:(0:Int)<(ns.length:Int):=by omega
 have e:=Hv a (IF c);have h:=GU a c;obtain ⟨j,d⟩:=Iz e;have b:j<ns.length:=by omega
 refine ⟨ns[j],?_⟩;rw [d];show eW (atI (ns.map D.int) (j:Int)) S=_;rw [cX (by rw [Eo,Ds b];rfl)];rfl
theorem set_set {S:Sto} {p:Nat} {o o':O}:(S.set p o).set p o'=S.set p o':=List.set_set ..
theorem yj (b:ds.length=fs.length) (a:ds.all (Q0 S)=true):K2 c fs ds S=.ok (.ref S.length) (S++[.exc c (fs.zip ds)]):=by
 unfold K2;grind
theorem ax (b:Bool) (S:Sto):asB (.bl b) S=.ok b S:=rfl
def bb (o:Option (Option Value)) (x:String):Bool:=match o with
 | some (some (.builtin y))=>decide (y=x)
 | _=>false
theorem Q2 (h:bb o x=true):o=some (some (.builtin x)):=by
 unfold bb at h;grind
def isNo (o:Option (Option Value)):Bool:=match o with
 | some none=>true
 | _=>false
theorem Y9 (h:isNo o=true):o=some none:=by
 unfold isNo at h;grind
def isB (o:Option Bool) (b:Bool):Bool:=match o with
 | some c=>c==b
 | none=>false
theorem U8 (h:isB o b=true):o=some b:=by
 unfold isB at h;grind
def xcB (K:PySem.W.Frag) (C:Addr):Bool:=
 bb (PySem.W.findIn K (.ref C) "__getattribute__") "BaseException.__getattribute__" && (isNo (PySem.W.findIn K (.ref C) "__getattr__")&&(isB (PySem.W.mroIn K C (.type "BaseException")) true&&(isB (PySem.W.mroIn K C (.type "object")) true &&
 (PySem.W.hasDictIn K C&&(bb (PySem.W.findIn K (.ref C) "__class__") "object.__class__" && (bb (PySem.W.specialIn K (.builtin "object.__class__") "__get__") "getset_descriptor.__get__" && (isB (PySem.W.takesIn K (.builtin "object.__class__")) true &&
 (V8 K C&&((PySem.W.clsIn K C).any (λa=>B8 a.mro)&&(bb (PySem.W.findIn K (.ref C) "__setattr__") "object.__setattr__" && PySem.W.keepIn K (.ref C)))))))))))
theorem O4 {K:PySem.W.Frag} {C:Addr} (h:xcB K C=true):XC K C:=by
 simp only [xcB,Dt] at h;obtain ⟨d,e,l,m,j,f,g,i,k,a,b,c⟩:=h;exact ⟨⟨Q2 d,Y9 e,U8 l,U8 m,j,Q2 f,Q2 g,U8 i⟩,k,a,Q2 b,c⟩
def X2 (cs:List Addr) (a:Addr) (c:Nat):Addr:=cs.getD c a
structure RowB (K:PySem.W.Frag) (Γ:Gm) (cs:List Addr) (junk:Addr):Prop where
 xc:cs.all (xcB K)=true
 jk:V8 K junk=false
 sub:((List.range cs.length).all λc=>(List.range cs.length).all λc0=>isB (PySem.W.kitOne K (.ref (X2 cs junk c)) (.ref (X2 cs junk c0))) (Γ.sub c c0))=true
 sV:(cs.all λC=>isB (PySem.W.kitOne K (.ref C) (.type "ValueError")) true)=true
 sT:(cs.all λC=>tys.all λt=>isB (PySem.W.kitOne K (.ref C) (.type t)) false)=true
 fl:(Γ.flds.all λg=>cs.all λC=>isNo (PySem.W.findIn K (.ref C) g))=true
 bl:(bnames.all λx=>(Γ.gl.lookup x).isSome||isNo (PySem.W.nsIn K mainGlobals x))=true
theorem Ap {K:PySem.W.Frag} {cs:List Addr} {a:Addr} (d:V8 K a=false) {c:Nat} (h:XC K (X2 cs a c)):c<cs.length/\X2 cs a c∈cs:=by
 by_cases b:c<cs.length
 ·refine ⟨b,?_⟩;unfold X2;rw [Ee,Ds b];exact Em b
 ·have e:X2 cs a c=a:=by
   unfold X2;rw [Ee,Et (GE b)];rfl
  rw [e] at h;have:=h.ex;rw [d] at this;cases this
theorem RowB.st {Γ:Gm} {cs:List Addr} {j:Addr} {h:Heap} (B:RowB T.K Γ cs j) (X:T.K.In h) (G:h.Ns mainGlobals T.mg) (o:T.cl=X2 cs j) (w:∀ x d,Γ.gl.lookup x=some (.val d)->∃ u v,T.mg x=some u/\RelV v u/\∀ μ H,RD T.K μ H d v)
  (r:∀ x c fs,Γ.gl.lookup x=some (.err c fs)->c<cs.length/\ErrAt T x c fs/\∀ g∈fs,g∈Γ.flds) (hd:∀ x k,Γ.gl.lookup x=some (.dct k)->nu T x k):TxSt T Γ:=by
 have i:∀ c,XC T.K (T.cl c)->c<cs.length/\T.cl c∈cs:=λc f=>by rw [o] at f ⊢;exact Ap B.jk f
 have p:=λg l c f=>by
  have:=(Er.mp B.fl) g l;exact Y9 ((Er.mp this) _ (i c f).2)
 refine ⟨λx s y=>?_,w,λx c fs e=>?_,λx c c0 fs e f=>?_,λc f=>?_,λc f t z=>?_,p,hd⟩
 ·have:=(Er.mp B.bl) x s;rw [y] at this;exact PySem.W.mg_none_of X G (Y9 this)
 ·obtain ⟨n,m,q⟩:=r x c fs e;exact ⟨m,λg l=>p g (q g l) c m.xc⟩
 ·obtain ⟨n,m,q⟩:=r x c0 fs e;have a:=(Er.mp B.sub) c (Fp.mpr (i c f).1);have b:=(Er.mp a) c0 (Fp.mpr n);rw [o];exact U8 b
 ·exact U8 ((Er.mp B.sV) _ (i c f).2)
 ·have a:=(Er.mp B.sT) _ (i c f).2;exact U8 ((Er.mp a) t z)
def yf (K:PySem.W.Frag):Sp:=λvs H Q _=>∃ (a:Addr) (ns:List Int),vs=[.ref a]/\SqL K H a (ns.map V.int)/\∀ H',Q (.bl true) H'
def cV (K:PySem.W.Frag) (cl:Nat->Addr):Sp:=λvs H Q E=>yf K vs H Q E/\TbOk K cl ⟨[],[]⟩ H
theorem fO {K:PySem.W.Frag} {cl:Nat->Addr} {run:List D->M D} (hr:∀ ns:List Int,∃ S',run [.scr (ns.map D.int)] []=.ok (.bl true) S'):∀ vs H Q E,cV K cl vs H Q E->spD K cl 1 run vs H Q E:=by
 rintro vs H Q E ⟨⟨a,ns,rfl,hS,q⟩,tb⟩;obtain ⟨S',e⟩:=hr ns;refine ⟨rfl,⟨[],[]⟩,[],[.scr (ns.map D.int)],.cons (.scr ?_ (RDs.ints ns)) .nil,⟨rfl,by simp,λn o a e=>by simp at e,λa m=>by simp at m,tb⟩,?_⟩
 ·rcases hS with h | h
  ·exact .inl ⟨h,by simp,by simp⟩
  ·exact .inr h
 ·rw [e];intro μ' H' l r v rv;cases rv;exact q H'
theorem ln1 {α:Type} {p:List α->Prop} {us:List α} (hl:us.length=1) (h:∀ a,p [a]):p us:=by
 obtain ⟨a,rfl⟩:=List.length_eq_one_iff.mp hl;exact h a
theorem lnS {α:Type} {p:List α->Prop} {us:List α} {n:Nat} (hl:us.length=n+1) (h:∀ a ws,ws.length=n->p (a :: ws)):p us:=by
 cases us with
 | nil=>cases hl
 | cons a ws=>exact h a ws (Nat.succ.inj hl)
theorem ln2 {α:Type} {p:List α->Prop} {us:List α} (hl:us.length=2) (h:∀ a b,p [a,b]):p us:=lnS hl λa _ e=>ln1 (p:=λw=>p (a :: w)) e (h a)
theorem ln3 {α:Type} {p:List α->Prop} {us:List α} (hl:us.length=3) (h:∀ a b c,p [a,b,c]):p us:=lnS hl λa _ e=>ln2 (p:=λw=>p (a :: w)) e (h a)
theorem V2 {fd:FuncData} {ps:List Str} {us:List Value} (hl:us.length=1) (h:∀ a,bindArgs fd ⟨[a],[]⟩=pure (ps.zip [a])):bindArgs fd ⟨us,[]⟩=pure (ps.zip us):=ln1 (p:=λus=>bindArgs fd ⟨us,[]⟩=pure (ps.zip us)) hl h
theorem A5 {fd:FuncData} {ps:List Str} {us:List Value} (hl:us.length=2) (h:∀ a b,bindArgs fd ⟨[a,b],[]⟩=pure (ps.zip [a,b])):bindArgs fd ⟨us,[]⟩=pure (ps.zip us):=ln2 (p:=λus=>bindArgs fd ⟨us,[]⟩=pure (ps.zip us)) hl h
theorem fP {fd:FuncData} {ps:List Str} {us:List Value} (hl:us.length=3) (h:∀ a b c,bindArgs fd ⟨[a,b,c],[]⟩=pure (ps.zip [a,b,c])):bindArgs fd ⟨us,[]⟩=pure (ps.zip us):=ln3 (p:=λus=>bindArgs fd ⟨us,[]⟩=pure (ps.zip us)) hl h
structure GF (K:PySem.W.Frag) (x:Str) (st:Stmt) (g:Addr):Prop where
 a:PySem.W.nsIn K mainGlobals x=some (some (.ref g))
 f:∃ fd,Fun K x x st g fd
theorem gf_mk {K:PySem.W.Frag} {x:Str} {st:Stmt} {g:Addr} {oc:Value} {od an:Option Addr} {osl:Array (Option Value)} {kV doc pm cdv ct:Value} (a:PySem.W.nsIn K mainGlobals x=some (some (.ref g))) (l:K.lookup g=some ⟨oc,od,.func (PySem.W.fnOf x x (m8 st) (i9 st) (c8 st) .none kV doc pm an cdv ct),osl⟩) (c:PySem.W.codeIn K cdv x=true) (k:PySem.W.keepIn K (.ref g)=true):GF K x st g:=⟨a,_,L1 l c k⟩
theorem fe {T:Tx} {h:Heap} (X:T.K.In h) (G:h.Ns mainGlobals T.mg) {x:Str} {st:Stmt} {g:Addr} {m:List Str} {Tb:List Fd} {i n:Nat} (d:GF T.K x st g) (sc:Y0 (j7 st m)=true) (hb:∀ (kV doc pm:Value) (an:Option Addr) (cdv ct:Value) (us:List Value),us.length=(j7 st m).ps.length->bindArgs (PySem.W.fnOf x x (m8 st) (i9 st) (c8 st) .none kV doc pm an cdv ct) ⟨us,[]⟩=pure ((j7 st m).ps.zip us)) (hT:Tb[i]?=some (j7 st m)) (hn:(j7 st m).ps.length=n) (hL:dw T g x m:=by exact λz=>absurd z (by decide)):∃ fd,Tb[i]?=some fd/\fd.ps.length=n/\FnTx T x fd:=by
 obtain ⟨fd,F⟩:=d.f;exact ⟨_,hT,hn,⟨g,_,_,st,F,rfl,rfl,O2 sc,F.binds hb,Fc X G d.a,hL⟩⟩
def wa (T:Tx) (Tb:List Fd):List (Str×G)->Prop
 | []=>True
 | (x,.fn i n) :: l=>(∃ fd,Tb[i]?=some fd/\fd.ps.length=n/\FnTx T x fd)/\wa T Tb l
 | _ :: l=>wa T Tb l
theorem zz {T:Tx} {Γ:Gm} {Tb:List Fd} (h:wa T Tb Γ.gl):ls T Γ Tb:=λx i n e=>by
 have m:=L2.mem_of_lookup e;generalize Γ.gl=l at h m;induction l with
 | nil=>cases m
 | cons y l ih=>
  obtain ⟨z,g⟩:=y;rcases Ea.mp m with q | q
  ·cases q;exact h.1
  ·refine ih ?_ q;cases g with
   | fn j k=>exact h.2
   | _=>exact h
theorem Q3 {n:Nat} (I:Nat->Sto->List D->Prop) (a:∀ S es,I n S es->src n S=some none)
  (c:∀ i S es,i<n->I i S es->∃ d b S1,src i S=some (some d)/\t d S=.ok b S1/\(if b=true then ∃ y S2,f d S1=.ok y S2/\es.length<sizeLine/\I (i+1) S2 (es++[y]) else I (i+1) S1 es)) :
  ∀ (k i:Nat) (S:Sto) (es:List D),k+i=n->I i S es->∃ es' S',d9 src t f (k+1) i es S=.ok es' S'/\I n S' es'
 | 0,i,S,es,j,h=>by
  have:i=n:=by omega
  subst this;refine ⟨es,S,?_,h⟩;simp only [d9,a S es h]
 | k+1,i,S,es,j,h=>by
  obtain ⟨d,b,S1,l,m,e⟩:=c i S es (by omega) h;have g:d9 src t f (k+1+1) i es S=bind (t d) (λb=>if b=true then bind (f d) (λy=>if es.length<sizeLine then d9 src t f (k+1) (i+1) (es++[y]) else bad) else d9 src t f (k+1) (i+1) es) S:=by
   conv=>lhs;unfold d9
   simp only [l]
  rw [g,b6 m];cases b with
  | true=>
   rw [if_pos rfl] at e ⊢;obtain ⟨y,S2,p,o,q⟩:=e;rw [b6 p,if_pos o];exact Q3 I a c k (i+1) S2 _ (by omega) q
  | false=>
   rw [if_neg Ec] at e ⊢;exact Q3 I a c k (i+1) S1 _ (by omega) e
def Ok {b:Type} (m:M b) (S:Sto) (Q:b->Sto->Prop):Prop:=∃ a S',m S=.ok a S'/\Q a S'
section
variable {α β:Type} {S S1:Sto} {m m':M α} {k:α->M β} {a:α} {Q Q':α->Sto->Prop} {P:β->Sto->Prop}
theorem Ok.ret (h:Q a S):Ok (ret a) S Q:=⟨a,S,rfl,h⟩
theorem Ok.of (e:m S=.ok a S1) (h:Q a S1):Ok m S Q:=⟨a,S1,e,h⟩
theorem Ok.bind (h:Ok m S λa S1=>Ok (k a) S1 P):Ok (L3.bind m k) S P:=by
 obtain ⟨a,S1,e,b,S2,c,q⟩:=h;exact ⟨b,S2,by rw [b6 e];exact c,q⟩
theorem Ok.eq (e:m S=.ok a S1) (h:Ok (k a) S1 P):Ok (L3.bind m k) S P:=Ok.bind ⟨a,S1,e,h⟩
theorem Ok.mono (h:Ok m S Q) (i:∀ a S1,Q a S1->Q' a S1):Ok m S Q':=by
 obtain ⟨a,S1,e,q⟩:=h;exact ⟨a,S1,e,i _ _ q⟩
theorem Ok.cg (e:m=m') (h:Ok m' S Q):Ok m S Q:=e▸h
theorem Ok.cgS (e:m S=m' S) (h:Ok m' S Q):Ok m S Q:=by
 obtain ⟨a,S1,b,q⟩:=h;exact ⟨a,S1,by rw [e];exact b,q⟩
end
theorem Ok.comp {n:Nat} (I:Nat->Sto->List D->Prop) (c:∀ S es,I n S es->src n S=some none)
  (a:∀ i S es,i<n->I i S es->∃ d,src i S=some (some d)/\Ok (t d) S λb S1=>if b=true then Ok (f d) S1 λy S2=>es.length<sizeLine/\I (i+1) S2 (es++[y]) else I (i+1) S1 es) {S:Sto} (h:I 0 S []) :
  Ok (d9 src t f (n+1) 0 []) S λes S'=>I n S' es:=by
 obtain ⟨es,S',e,q⟩:=Q3 I c (λi S es o h=>by
  obtain ⟨d,l,b,S1,m,q⟩:=a i S es o h;refine ⟨d,b,S1,l,m,?_⟩;cases b with
  | true=>
   rw [if_pos rfl] at q ⊢;obtain ⟨y,S2,g,j,k⟩:=q;exact ⟨y,S2,g,j,k⟩
  | false=>
   rw [if_neg Ec] at q ⊢;exact q) n 0 S [] (by omega) h
 exact ⟨es,S',e,q⟩
def FlI (I:L3.Env->Sto->Prop) (J:L3.Env->Sto->Prop) (R:D->Sto->Prop) (a:Fl) (S:Sto):Prop:=match a with
 | .nx ρ=>I ρ S
 | .ct ρ=>I ρ S
 | .bk ρ=>J ρ S
 | .rt d=>R d S
theorem Ok.for_ {n:Nat} (I:Nat->L3.Env->Sto->Prop) (J:L3.Env->Sto->Prop) (R:D->Sto->Prop) (hend:∀ ρ S,I n ρ S->src n S=some none)
  (step:∀ i ρ S,i<n->I i ρ S->∃ d ρ1,src i S=some (some d)/\tg d ρ=some ρ1/\Ok (body ρ1) S (FlI (I (i+1)) J R)) :
  ∀ (k i:Nat) (ρ:L3.Env) (S:Sto),k+i=n->I i ρ S->Ok (u0 src tg body (k+1) i ρ) S λfl S'=>match fl with
   | .nx ρ'=>I n ρ' S'\/J ρ' S'
   | .rt d=>R d S'
   | _=>False
 | 0,i,ρ,S,hk,h=>by
  have:i=n:=by omega
  subst this;exact ⟨.nx ρ,S,by simp only [u0,hend ρ S h],.inl h⟩
 | k+1,i,ρ,S,hk,h=>by
  obtain ⟨d,ρ1,e1,e2,h2⟩:=step i ρ S (by omega) h;have un:u0 src tg body (k+1+1) i ρ S=L3.bind (body ρ1) (λfl=>match fl with
    | .nx ρ2=>u0 src tg body (k+1) (i+1) ρ2
    | .ct ρ2=>u0 src tg body (k+1) (i+1) ρ2
    | .bk ρ2=>L3.ret (.nx ρ2)
    | .rt d=>L3.ret (.rt d)) S:=by
   conv=>lhs;unfold u0
   simp only [e1,e2]
   all_goals rfl
  refine Ok.cgS un (Ok.bind (h2.mono λfl S1 q=>?_));cases fl with
  | nx ρ2=>exact Ok.for_ I J R hend step k (i+1) ρ2 S1 (by omega) q
  | ct ρ2=>exact Ok.for_ I J R hend step k (i+1) ρ2 S1 (by omega) q
  | bk ρ2=>exact Ok.ret (.inr q)
  | rt d=>exact Ok.ret q
def Asc (x:Str):Prop:=∀ c∈x.cps.toList,c<128
def fW (j:Nat):Nat:=1000000000000000000000000000000000000000+j
mutual
def Pln (j:Nat):D->Prop
 | .non=>True
 | .bl _=>True
 | .int i=>i.natAbs<=fW j
 | .str x=>x.length<=45+j/\Asc x
 | .tup ds=>Plns j ds
 | .lst ds=>Plns j ds
 | .scr _=>False
 | .ref _=>False
def Plns (j:Nat):List D->Prop
 | []=>True
 | d :: ds=>Pln j d/\Plns j ds
end
mutual
noncomputable def py:D->PyData
 | .non=>.none
 | .bl b=>.bool b
 | .int i=>.int i
 | .str x=>.str x
 | .tup ds=>.tuple (pys ds)
 | .lst ds=>.list (pys ds)
 | .scr _=>.none
 | .ref _=>.none
noncomputable def pys:List D->List PyData
 | []=>[]
 | d :: ds=>py d :: pys ds
end
mutual
noncomputable def dp:D->Nat
 | .tup ds=>dps ds+1
 | .lst ds=>dps ds+1
 | _=>0
noncomputable def dps:List D->Nat
 | []=>0
 | d :: ds=>max (dp d) (dps ds)
end
mutual
noncomputable def sz:D->Nat
 | .int _=>60
 | .str x=>10 * x.length+2
 | .tup ds=>szs ds+3
 | .lst ds=>szs ds+3
 | _=>5
noncomputable def szs:List D->Nat
 | []=>0
 | d :: ds=>sz d+2+szs ds
end
mutual
theorem Pln.up:∀ (d:D),Pln j d->Pln (j+1) d
 | .non,_=>trivial
 | .bl _,_=>trivial
 | .int i,h=>by have h:i.natAbs<=fW j:=h;show i.natAbs<=fW (j+1);unfold fW at *;omega
 | .str x,h=>⟨by have:=h.1;omega,h.2⟩
 | .tup ds,h=>Plns.up ds h
 | .lst ds,h=>Plns.up ds h
 | .scr _,h=>h.elim
 | .ref _,h=>h.elim
theorem Plns.up:∀ (ds:List D),Plns j ds->Plns (j+1) ds
 | [],_=>trivial
 | d :: ds,h=>⟨Pln.up d h.1,Plns.up ds h.2⟩
end
mutual
theorem L9 (S:Sto):∀ (d:D) (n:Nat),Pln j d->dp d<n->i5 n S d=some (py d)
 | .non,n+1,_,_=>rfl
 | .bl _,n+1,_,_=>rfl
 | .int _,n+1,_,_=>rfl
 | .str _,n+1,_,_=>rfl
 | .tup ds,n+1,h,a=>by
  show (i4 (i5 n S) ds).map PyData.tuple=_;rw [Z7 S ds n h (by have:dps ds+1<n+1:=a;omega)];rfl
 | .lst ds,n+1,h,a=>by
  show (i4 (i5 n S) ds).map PyData.list=_;rw [Z7 S ds n h (by have:dps ds+1<n+1:=a;omega)];rfl
 | .scr _,_,h,_=>h.elim
 | .ref _,_,h,_=>h.elim
 | .non,0,_,h=>by omega
 | .bl _,0,_,h=>by omega
 | .int _,0,_,h=>by omega
 | .str _,0,_,h=>by omega
 | .tup _,0,_,h=>by omega
 | .lst _,0,_,h=>by omega
theorem Z7 (S:Sto):∀ (ds:List D) (n:Nat),Plns j ds->dps ds<n->i4 (i5 n S) ds=some (pys ds)
 | [],n,_,_=>rfl
 | d :: ds,n,h,hn=>by
  have hn:max (dp d) (dps ds)<n:=hn;simp only [i4,L9 S d n h.1 (by omega),Z7 S ds n h.2 (by omega)];rfl
end
theorem yn (h:Asc x):PyData.strOk x=true:=by
 unfold PyData.strOk;rw [Array.all_eq_true'];intro c a;have:=h c (by simpa using a);grind
mutual
theorem U7:∀ d:D,Pln j d->(py d).canLay0=true
 | .non,_=>rfl
 | .bl _,_=>rfl
 | .int _,_=>rfl
 | .str x,h=>by show PyData.canLay0 (.str x)=true;simp only [PyData.canLay0];exact yn h.2
 | .tup ds,h=>by show PyData.canLay0 (.tuple (pys ds))=true;simp only [PyData.canLay0];exact cU ds h
 | .lst ds,h=>by show PyData.canLay0 (.list (pys ds))=true;simp only [PyData.canLay0];exact cU ds h
 | .scr _,h=>h.elim
 | .ref _,h=>h.elim
theorem cU:∀ ds:List D,Plns j ds->PyData.canLayAll0 (pys ds)=true
 | [],_=>rfl
 | d :: ds,h=>by show PyData.canLayAll0 (py d :: pys ds)=true;simp only [PyData.canLayAll0,U7 d h.1,cU ds h.2,Io]
end
mutual
theorem ah:∀ d:D,(py d).depth<=dp d
 | .non=>by show PyData.depth .none<=_;simp [PyData.depth]
 | .bl b=>by show PyData.depth (.bool b)<=_;simp [PyData.depth]
 | .int i=>by show PyData.depth (.int i)<=_;simp [PyData.depth]
 | .str x=>by show PyData.depth (.str x)<=_;simp [PyData.depth]
 | .tup ds=>by show PyData.depth (.tuple (pys ds))<=dps ds+1;simp only [PyData.depth];have:=V5 ds;omega
 | .lst ds=>by show PyData.depth (.list (pys ds))<=dps ds+1;simp only [PyData.depth];have:=V5 ds;omega
 | .scr _=>by show PyData.depth .none<=_;simp [PyData.depth]
 | .ref _=>by show PyData.depth .none<=_;simp [PyData.depth]
theorem V5:∀ ds:List D,PyData.depthAll (pys ds)<=dps ds
 | []=>by show PyData.depthAll []<=0;simp [PyData.depthAll]
 | d :: ds=>by
  have:=ah d;have:=V5 ds;show PyData.depthAll (py d :: pys ds)<=max (dp d) (dps ds);simp only [PyData.depthAll];omega
end
structure Any (j N:Nat) (d:D):Prop where
 pl:Pln j d
 dp:dp d<=3+j
 sz:sz d<=N
mutual
noncomputable def plB:D->Bool
 | .non=>true
 | .bl _=>true
 | .int i=>decide (i.natAbs<=fW 0)
 | .str x=>decide (x.length<=45)&&x.cps.toList.all (· < 128)
 | .tup ds=>mh ds
 | .lst ds=>mh ds
 | .scr _=>false
 | .ref _=>false
noncomputable def mh:List D->Bool
 | []=>true
 | d :: ds=>plB d&&mh ds
end
mutual
theorem np:∀ d:D,plB d=true->Pln 0 d
 | .non,_=>trivial
 | .bl _,_=>trivial
 | .int i,h=>by
  have h:decide (i.natAbs<=fW 0)=true:=h;exact (Fi h:i.natAbs<=fW 0)
 | .str x,h=>by
  have h:(decide (x.length<=45)&&x.cps.toList.all (· < 128))=true:=h;rw [Dt,Eh,Er] at h;exact ⟨h.1,λc hc=>Fi (h.2 c hc)⟩
 | .tup ds,h=>cL ds h
 | .lst ds,h=>cL ds h
 | .scr _,h=>Bool.noConfusion h
 | .ref _,h=>Bool.noConfusion h
theorem cL:∀ ds:List D,mh ds=true->Plns 0 ds
 | [],_=>trivial
 | d :: ds,h=>by
  have h:(plB d&&mh ds)=true:=h;rw [Dt] at h;exact ⟨np d h.1,cL ds h.2⟩
end
def smB (n N:Nat) (d:D):Bool:=plB d&&decide (dp d<=n)&&decide (sz d<=N)
theorem gy (h:smB n N d=true):Pln 0 d/\dp d<=n/\sz d<=N:=by
 unfold smB at h;rw [Dt,Dt,Eh,Eh] at h;exact ⟨np d h.1.1,h.1.2,h.2⟩
theorem Pln.ups {d:D} (h:Pln 0 d):Pln j d:=by
 induction j with
 | zero=>exact h
 | succ j a=>exact a.up
theorem O6 (n:Nat) (S:Sto):∀ ns:List Int,i4 (i5 (n+1) S) (ns.map D.int)=some (ns.map PyData.int)
 | []=>rfl
 | b :: a=>by
  have e:i5 (n+1) S (.int b)=some (.int b):=rfl;simp only [EG,i4,e,O6 n S a]
theorem ar:∀ ns:List Int,PyData.canLayAll0 (ns.map PyData.int)=true
 | []=>rfl
 | b :: a=>by simp only [EG,PyData.canLayAll0,PyData.canLay0,ar a,Io]
theorem p0 (ds:List D) (S:Sto):q9 (.tup ds) S=.ok (G2 ds,ds.length+1) S:=rfl
theorem oa {n:Nat} (h:n<1000) (S:Sto):C8 [.int (n:Int)] S=.ok (W9 0 n,n+1) S:=by
 unfold C8;have a:(n:Int)<1000:=by omega
 have b:(0:Int)<=n:=by omega
 have c:-(2 ^ 62)<=(n:Int)/\(n:Int)<2 ^ 62:=⟨Int.le_trans (by decide) b,Int.lt_trans a (by decide)⟩;simp only [if_pos c,Fg];rfl
theorem lQ {i:Nat} {d:D} (S:Sto) (h:ds[i]?=some d):ixD (.tup ds) (.int (i:Int)) S=.ok d S:=by
 show eW (atI ds (i:Int)) S=_;rw [cX h];rfl
theorem B4 {α:Type} {src:Src} {l:List α} {h g:α->D} {p:α->Bool} {t:D->M Bool} {f:D->M D} {S:Sto} (hs:∀ i,src i S=some (l.map h)[i]?) (hl:l.length<sizeLine) (ht:∀ a∈l,t (h a) S=.ok (p a) S) (hf:∀ a∈l,p a=true->f (h a) S=.ok (g a) S):d9 src t f (l.length+1) 0 [] S=.ok ((l.filter p).map g) S:=by
 obtain ⟨es,S',e,e1,e2⟩:=Ok.comp (src:=src) (t:=t) (f:=f) (n:=l.length) (λi S' es=>S'=S/\es=((l.take i).filter p).map g) (λS' es q=>by obtain ⟨q,_⟩:=q;subst q;rw [hs,Et (by simp)])
  (λi S' es hi ⟨h1,h2⟩=>by
   subst h1 h2;refine ⟨h l[i],?_,p l[i],S',ht _ (Em hi),?_⟩
   ·rw [hs,Eo,Ds hi];rfl
   ·have ta:l.take (i+1)=l.take i++[l[i]]:=Eu hi;cases hp:p l[i] with
    | true=>
     dsimp only;rw [if_pos rfl];refine ⟨g l[i],S',hf _ (Em hi) hp,?_,rfl,?_⟩
     ·rw [Dr];have:=List.length_filter_le p (l.take i);have:=List.length_take_le i l;omega
     ·rw [ta,HR,Fk,IA hp];rfl
    | false=>
     dsimp only;rw [if_neg Ec];refine ⟨rfl,?_⟩;rw [ta,HR,List.filter_cons_of_neg (by rw [hp];exact Ec),List.filter_nil,EH]) (S:=S) ⟨rfl,rfl⟩
 rw [e];subst e1 e2;rw [FO]
theorem mf (n i:Nat) (S:Sto):W9 0 n i S=some ((List.range n).map λ(k:Nat)=>D.int (k:Int))[i]?:=by
 show some (if i<n then some (D.int (0+i)) else none)=_;by_cases h:i<n
 ·rw [if_pos h,Eo,List.getElem?_range h,Int.zero_add];rfl
 ·rw [if_neg h,Et (by simpa using h)]
theorem vM (e:S[n]?=some (.lst ds)) (i:Nat):fy n i S=some ds[i]?:=by
 simp only [fy,e]
theorem Z0 (ns:List Int):o9 (ns.map D.int)=some ns:=by
 induction ns with
 | nil=>rfl
 | cons n ns a=>simp only [EG,o9,a,II]
theorem k4 {α β:Type} {f:α->β} {l:List α} {i:Nat} {a:α} (h:l[i]?=some a):(l.map f)[i]?=some (f a):=by rw [Eo,h];rfl
theorem nj (x:Int):∀ ns:List Int,((ns.map PyData.int).any λy=>PyData.eqv y (.int x))=decide (x∈ns)
 | []=>by simp
 | y :: ns=>by
  simp only [EG,GP,nj x ns,PyData.eqv];rw [Hr,IJ,Eh,Eh,Ea];constructor
  ·rintro (a | a)
   ·exact .inl (eq_of_beq a).symm
   ·exact .inr a
  ·rintro (a | a)
   ·exact .inl (by rw [a];exact beq_self_eq_true _)
   ·exact .inr a
theorem iT (x:Int) (ns:List Int) (S:Sto):d7 .In (.int x) (.tup (ns.map D.int)) S=.ok (.bl (decide (x∈ns))) S:=by
 have e:i5 64 S (.tup (ns.map D.int))=some (.tuple (ns.map PyData.int)):=by
  show (i4 (i5 63 S) (ns.map D.int)).map PyData.tuple=_;rw [O6 62 S ns];rfl
 show inD false (.int x) (.tup (ns.map D.int)) S=_;unfold inD;rw [e];show kW false (.int x) (ns.map PyData.int) S=_;unfold kW;have hd:PyData.depth (.int x)=0:=by simp [PyData.depth]
 rw [if_pos ⟨rfl,ar ns,by rw [hd];omega⟩,nj];rfl
theorem rO {d:D} (S:Sto) (h:ds.getLast?=some d):ixD (.tup ds) (.int (-1)) S=.ok d S:=by
 have a:ds≠[]:=λz=>by subst z;cases h
 have b:=List.length_pos_iff.mpr a;show eW (atI ds (-1)) S=_;have:atI ds (-1)=some d:=by
  unfold atI ixN;rw [if_neg (by omega),if_pos (by omega)];show ds[((-1:Int)+(ds.length:Int)).toNat]?=some d;rw [show ((-1:Int)+(ds.length:Int)).toNat=ds.length-1 by omega,<- List.getLast?_eq_getElem?];exact h
 rw [this];rfl
def Ex (S S':Sto):Prop:=∃ T,S'=S++T
theorem Ex.refl (S:Sto):Ex S S:=⟨[],by simp⟩
theorem Ex.trans (h:Ex a b) (k:Ex b c):Ex a c:=by
 obtain ⟨t,rfl⟩:=h;obtain ⟨u,rfl⟩:=k;exact ⟨t++u,by simp⟩
theorem Ex.at {S S':Sto} (h:Ex S S') {q:Nat} (hq:q<S.length):S'[q]?=S[q]?:=by
 obtain ⟨t,rfl⟩:=h;rw [EC hq]
theorem pG (e:S[n]?=some (.lst (ns.map D.int))) (a:ns.length<64):P4 (.ref n) S=.ok (.lst ((srt ns).map D.int)) S:=by
 show bind (y4 (.ref n)) _ S=_;rw [b6 (show y4 (.ref n) S=.ok (ns.map D.int) S by simp only [y4,lstOf,e]),Z0];show (if ns.length<64 then ret (D.lst ((srt ns).map D.int)) else bad) S=_;rw [if_pos a];rfl
theorem mW {ys:List D} (e:S[n]?=some (.lst es)) (a:es.length+ys.length<=sizeLine):extD (.ref n) [.tup ys] S=.ok .non (S.set n (.lst (es++ys))):=by
 simp only [extD,e,if_pos a]
theorem de (e:S[n]?=some (.lst es)):lstOf (.ref n) S=.ok es S:=by simp only [lstOf,e]
theorem As (ds:List D) (S:Sto):v9 (.lst ds) S=.ok (.int ds.length) S:=rfl
theorem Bf {y:D} (e:S[n]?=some (.lst es)) (a:es.length<sizeLine):kL (.ref n) [y] S=.ok .non (S.set n (.lst (es++[y]))):=by simp only [kL,e,if_pos a]
def Xn {a:Type} (m:M a) (S:Sto) (Q:Nat->Sto->Prop):Prop:=∃ n S',m S=.exn n S'/\Q n S'
theorem Xn.bind {k:α->M β} {S:Sto} {Q:Nat->Sto->Prop} (h:Xn m S Q):Xn (L3.bind m k) S Q:=by
 obtain ⟨n,S',e,q⟩:=h;exact ⟨n,S',by unfold L3.bind;rw [e],q⟩
theorem Xn.ok {k:α->M β} {S:Sto} {Q:Nat->Sto->Prop} (h:Ok m S λa S1=>Xn (k a) S1 Q):Xn (L3.bind m k) S Q:=by
 obtain ⟨a,S1,e,n,S',b,q⟩:=h;exact ⟨n,S',by unfold L3.bind;rw [e];exact b,q⟩
theorem Xn.cg (e:m=m') (h:Xn m' S Q):Xn m S Q:=e▸h
theorem Ok.nx (h:Ok m S Q):Ok (L3.nx m) S Q:=by
 obtain ⟨a,S1,e,q⟩:=h;exact ⟨a,S1,by unfold L3.nx;rw [e],q⟩
theorem Ok.try_ {b:Nat->Bool} {c:Option Nat} {ρ:L3.Env} {S:Sto} {Q:Fl->Sto->Prop} (k:Ok (g ρ) S Q):Ok (aP g b c h ρ) S Q:=by
 obtain ⟨a,S1,e,q⟩:=k;exact ⟨a,S1,by unfold aP;rw [e],q⟩
theorem Ok.caught {a:Nat->Bool} {b:Option Nat} {ρ:L3.Env} {S:Sto} {Q:Fl->Sto->Prop} (k:Xn (g ρ) S λn S1=>∃ c fs,S1[n]?=some (.exc c fs)/\a c=true/\Ok (h (oN b n ρ)) S1 λd S2=>Q (iV b d) S2):Ok (aP g a b h ρ) S Q:=by
 obtain ⟨n,S1,e,c,fs,j,hs,i⟩:=k;obtain ⟨d,S2,f,q⟩:=i;refine ⟨iV b d,S2,?_,q⟩;unfold aP;rw [e];simp only [j,hs,if_true];unfold L3.bind L3.nx;rw [f];rfl
def nxt {d:Type} (q:EvK) (e:Lc) (c:List Stmt) (k:Fl->M d):Fl->M d:=λb=>match b with
 | .nx a=>k6 q e c a k
 | b=>k b
section
variable {α:Type} {q:EvK} {lc:Lc} {st:Stmt} {sts:List Stmt} {ρ:L3.Env} {k:Fl->M α} {S:Sto} {Q:α->Sto->Prop} {P:Nat->Sto->Prop}
theorem Ok.first (h:Ok (q.s lc st ρ (nxt q lc sts k)) S Q):Ok (k6 q lc (st :: sts) ρ k) S Q:=h
theorem Ok.nxt (h:Ok (q.s lc st ρ (L3.nxt q lc sts k)) S Q):Ok (L3.nxt q lc (st :: sts) k (.nx ρ)) S Q:=h
theorem Xn.first (h:Xn (q.s lc st ρ (nxt q lc sts k)) S P):Xn (k6 q lc (st :: sts) ρ k) S P:=h
theorem Xn.nxt (h:Xn (q.s lc st ρ (L3.nxt q lc sts k)) S P):Xn (L3.nxt q lc (st :: sts) k (.nx ρ)) S P:=h
theorem Ok.pos [Decidable c] {a b:M α} (h:c) (k:Ok a S Q):Ok (if c then a else b) S Q:=by rw [if_pos h];exact k
theorem Ok.neg [Decidable c] {a b:M α} (h:¬ c) (k:Ok b S Q):Ok (if c then a else b) S Q:=by rw [if_neg h];exact k
theorem Xn.pos [Decidable c] {a b:M α} (h:c) (k:Xn a S P):Xn (if c then a else b) S P:=by rw [if_pos h];exact k
theorem Xn.neg [Decidable c] {a b:M α} (h:¬ c) (k:Xn b S P):Xn (if c then a else b) S P:=by rw [if_neg h];exact k
end
def fin {b:Type} (κ:Fl->M b):Fl->M b:=λa=>match a with
 | .nx ρ=>κ (.nx ρ)
 | a=>κ a
theorem Xn.cgS (e:m S=m' S) (h:Xn m' S Q):Xn m S Q:=by
 obtain ⟨n,S1,a,q⟩:=h;exact ⟨n,S1,by rw [e];exact a,q⟩
theorem Xn.eq {k:α->M β} {S S1:Sto} {a:α} {Q:Nat->Sto->Prop} (e:m S=.ok a S1) (h:Xn (k a) S1 Q):Xn (L3.bind m k) S Q:=Xn.ok ⟨a,S1,e,h⟩
theorem Xn.mono (h:Xn m S Q) (i:∀ n S1,Q n S1->Q' n S1):Xn m S Q':=by
 obtain ⟨n,S1,e,q⟩:=h;exact ⟨n,S1,e,i _ _ q⟩
theorem mH (ns:List Int):∃ ms:List Int,R4 (ns.map D.int) none (some 63)=ms.map D.int:=⟨(ns.drop (HT.sIx ns.length 0 none)).take (HT.sIx ns.length ns.length (some 63)-HT.sIx ns.length 0 none),by simp [R4,List.map_drop,List.map_take]⟩
theorem qO (n:Nat) (S:Sto):W9 0 n n S=some none:=by
 show some (if n<n then _ else none)=some none;grind
theorem yM {n i:Nat} (h:i<n) (S:Sto):W9 0 n i S=some (some (.int (i:Int))):=by rw [mf,k4 (List.getElem?_range h)]
structure Sml (n N:Nat) (d:D):Prop where
 pl:Pln 0 d
 dp:dp d<=n
 sz:sz d<=N
theorem Sml.w (h:smB n N d=true:=by decide +kernel):Sml n N d:=⟨(gy h).1,(gy h).2.1,(gy h).2.2⟩
theorem Sml.any (h:Sml n N d) (hn:n<=43):Any 40 N d:=⟨h.pl.ups,by have:=h.dp;omega,h.sz⟩
theorem zE (a b:Int) (S:Sto):d7 .Eq (.int a) (.int b) S=.ok (.bl (decide (a=b))) S:=rfl
theorem oM (a b:Int) (S:Sto):d7 .NotEq (.int a) (.int b) S=.ok (.bl (!decide (a=b))) S:=rfl
theorem iO (a b:Int) (S:Sto):d7 .LtE (.int a) (.int b) S=.ok (.bl (decide (a<=b))) S:=rfl
theorem Ak (a b:Int) (S:Sto):d7 .Lt (.int a) (.int b) S=.ok (.bl (decide (a<b))) S:=rfl
theorem AT (a b:Int) (S:Sto):d7 .Gt (.int a) (.int b) S=.ok (.bl (decide (b<a))) S:=rfl
theorem oI (a b:Nat) (S:Sto):aj (.int (a:Int)) (.int (b:Int)) S=.ok (.int ((a+b:Nat):Int)) S:=by
 show R.ok (D.int ((a:Int)+(b:Int))) S=_;grind
theorem nx_bind {k:α->M β} {S:Sto} {Q:β->Sto->Prop} (h:Ok m S λa S1=>Ok (k a) S1 Q):Ok (L3.bind (L3.nx m) k) S Q:=Ok.bind (Ok.nx h)
theorem F5 (h:Ok m S λd S'=>d=a/\S'=S):m S=.ok a S:=by
 obtain ⟨d,S',e,rfl,rfl⟩:=h;exact e
theorem raise_k {κ:Fl->M α} (b:ds.length=fs.length) (a:ds.all (Q0 S)=true):Xn (L3.bind (K2 c fs ds) λd=>L3.bind (A7 d) κ) S λn S'=>n=S.length/\S'=S++[.exc c (fs.zip ds)]:=by
 refine Xn.ok ⟨_,_,yj b a,Xn.bind ⟨S.length,S++[.exc c (fs.zip ds)],?_,rfl,rfl⟩⟩;simp [A7]
theorem Ok.loop {src:Src} {tg:D->L3.Env->Option L3.Env} {body:L3.Env->M Fl} {n:Nat} (I:Nat->L3.Env->Sto->Prop) (hend:∀ ρ S,I n ρ S->src n S=some none)
  (step:∀ i ρ S,i<n->I i ρ S->∃ d ρ1,src i S=some (some d)/\tg d ρ=some ρ1/\Ok (body ρ1) S λfl S'=>∃ ρ',(fl=.nx ρ'\/fl=.ct ρ')/\I (i+1) ρ' S') {ρ:L3.Env} {S:Sto} (h:I 0 ρ S) :
  Ok (u0 src tg body (n+1) 0 ρ) S λfl S'=>∃ ρ',fl=.nx ρ'/\I n ρ' S':=by
 refine (Ok.for_ (n:=n) I (λ_ _=>False) (λ_ _=>False) hend (λi ρ S hi h=>?_) n 0 ρ S (by omega) h).mono ?_
 ·obtain ⟨d,ρ1,e1,e2,k⟩:=step i ρ S hi h;refine ⟨d,ρ1,e1,e2,k.mono ?_⟩;rintro fl S' ⟨ρ',rfl | rfl,q⟩
  ·exact q
  ·exact q
 ·rintro fl S' hf;cases fl with
  | nx ρ'=>
   rcases hf with q | q
   ·exact ⟨ρ',rfl,q⟩
   ·exact q.elim
  | rt d=>exact hf.elim
  | bk ρ=>exact hf.elim
  | ct ρ=>exact hf.elim
theorem Xn.for_ {i0:Nat} (I:Nat->L3.Env->Sto->Prop)
  (e:∀ i ρ S,i<i0->I i ρ S->∃ d a,src i S=some (some d)/\tg d ρ=some a/\Ok (body a) S λl S'=>∃ c,l=.nx c/\I (i+1) c S')
  (f:∀ ρ S,I i0 ρ S->∃ d a,src i0 S=some (some d)/\tg d ρ=some a/\Xn (body a) S P) :
  ∀ (k i:Nat) (ρ:L3.Env) (S:Sto),i<=i0->i0<k+i->I i ρ S->Xn (u0 src tg body k i ρ) S P
 | 0,i,ρ,S,o,n,_=>by omega
 | k+1,i,ρ,S,o,n,h=>by
  have m:∀ d a,src i S=some (some d)->tg d ρ=some a->u0 src tg body (k+1) i ρ S=L3.bind (body a) (λl=>match l with
    | .nx b=>u0 src tg body k (i+1) b
    | .ct b=>u0 src tg body k (i+1) b
    | .bk b=>L3.ret (.nx b)
    | .rt d=>L3.ret (.rt d)) S:=λd a j g=>by
   conv=>lhs;unfold u0
   simp only [j,g]
   all_goals rfl
  by_cases z:i=i0
  ·subst z;obtain ⟨d,a,j,g,x⟩:=f ρ S h;exact Xn.cgS (m d a j g) (Xn.bind x)
  ·obtain ⟨d,a,j,g,x⟩:=e i ρ S (by omega) h;refine Xn.cgS (m d a j g) (Xn.ok (x.mono ?_));rintro _ S1 ⟨c,rfl,q⟩;exact Xn.for_ I e f k (i+1) c S1 (by omega) (by omega) q
theorem sg (h:Any n N d) (hn:n<=40) (hc:Pln 0 c) (c1:dp c<=50) (neg:Bool) (S:Sto):eqP neg d c S=.ok (.bl (if neg=true then !PyData.eqv (py d) (py c) else PyData.eqv (py d) (py c))) S:=by
 have dp:=h.dp;have hd:=ah d;unfold eqP;rw [L9 S d 64 h.pl (by omega),L9 S c 64 hc (by omega)];show (if PyData.canLay0 (py d)=true/\PyData.canLay0 (py c)=true/\min (PyData.depth (py d)) (PyData.depth (py c))<=60 then ret (D.bl (if neg=true then !PyData.eqv (py d) (py c) else PyData.eqv (py d) (py c))) else bad) S=_;rw [if_pos ⟨U7 _ h.pl,U7 _ hc,by omega⟩];rfl
theorem aH:∀ ns:List Int,o9 (ns.map D.int)=some ns
 | []=>rfl
 | n :: ns=>by
  have:=aH ns;simp only [EG,o9] at *;simp [i4] at *;first | exact this | simp [this]
theorem oG (a:ns.length<4000) (b:(j5 ns).length<64) (S:Sto):D5 (.lst (ns.map D.int)) S=.ok (.lst ((srt (j5 ns)).map D.int)) S:=by
 unfold D5;rw [b6 (show y4 (.lst (ns.map D.int)) S=.ok (ns.map D.int) S from rfl)];simp only [aH,if_pos (And.intro a b)];rfl
def cw (p m c:D):M D:=
 bind (Q8 c (.int 998244353)) λi=>bind (ixD p (.int 3)) λt=>bind (cq (.int 7919) t) λg=>bind (aj i g) λh=>bind (cq h (.int 48271)) λf=>bind (Q8 f (.int 2147483647)) λb=>
 bind (W4 b (.int 13)) λd=>bind (ixD p (.int 3)) λt=>bind (cq (.int 104729) t) λj=>bind (ixD p (.int 3)) λo=>bind (cq j o) λe=>bind (aj d e) λk=>bind (cq k (.int 69621)) λl=>bind (Q8 l (.int 2147483629)) λa=>bind (W4 a (.int 64)) λq=>bind (Q8 q m) λn=>ret n
def cF (p m a:D) (z:Bool):M D:=
 if z=true then bind (W4 a m) λv=>bind (O5 p (.int 2) v) λ_=>bind (Q8 a m) λd=>ret d
 else cw p m a
def J2 (p m b:D):M D:=
 bind (ixD p (.int 1)) λx=>bind (aj x (.int 1)) λv=>bind (O5 p (.int 1) v) λ_=>
 bind (sw (.int 10) (.int 18)) λy=>bind (d7 .GtE b y) λd=>bind (asB d) λc=>if c=true then (bind (ixD p (.int 1)) λa=>bind (ixD p (.int 0)) λcs=>bind (v9 cs) λn=>bind (d7 .LtE a n) λd=>bind (asB d) λz=>cF p m b z) else cF p m b false
def jN (p m:D):M D:=
 bind (ixD p (.int 3)) λx=>bind (aj x (.int 1)) λt=>bind (O5 p (.int 3) t) λ_=>
 bind (ixD p (.int 2)) λx=>bind (d7 .Gt x (.int 0)) λd=>bind (asB d) λz=>if z=true then
  bind (ixD p (.int 2)) λx=>bind (Q8 x m) λf=>bind (ixD p (.int 2)) λx=>bind (W4 x m) λv=>bind (O5 p (.int 2) v) λ_=>ret f
 else bind (ixD p (.int 0)) λc=>bind (d7 .NotEq c (.lst [])) λd=>bind (asB d) λz=>if z=true then
   bind (ixD p (.int 0)) λc=>bind (ixD p (.int 1)) λi=>bind (ixD p (.int 0)) λb=>bind (v9 b) λn=>bind (Q8 i n) λj=>bind (ixD c j) λa=>J2 p m a
  else J2 p m (.int 3)
def i8 (ns:List Int) (a l t:Int):O:=.lst [.lst (ns.map D.int),.int a,.int l,.int t]
section
variable {S:Sto} {p:Nat} {ns:List Int} {a l t:Int} (h:S[p]?=some (i8 ns a l t))
include h
theorem t_0:ixD (.ref p) (.int 0) S=.ok (.lst (ns.map D.int)) S:=by simp only [ixD,h,i8];rfl
theorem t_1:ixD (.ref p) (.int 1) S=.ok (.int a) S:=by simp only [ixD,h,i8];rfl
theorem t_2:ixD (.ref p) (.int 2) S=.ok (.int l) S:=by simp only [ixD,h,i8];rfl
theorem t_3:ixD (.ref p) (.int 3) S=.ok (.int t) S:=by simp only [ixD,h,i8];rfl
theorem DI (v:Int):O5 (.ref p) (.int 1) (.int v) S=.ok .non (S.set p (i8 ns v l t)):=by simp only [O5,h,i8];rfl
theorem Ao (v:Int):O5 (.ref p) (.int 2) (.int v) S=.ok .non (S.set p (i8 ns a v t)):=by simp only [O5,h,i8];rfl
theorem DE (v:Int):O5 (.ref p) (.int 3) (.int v) S=.ok .non (S.set p (i8 ns a l v)):=by simp only [O5,h,i8];rfl
end
theorem sW (ns:List Int) (S:Sto):d7 .NotEq (.lst (ns.map D.int)) (.lst []) S=.ok (.bl (!ns.isEmpty)) S:=by
 show eqP true (.lst (ns.map D.int)) (.lst []) S=_;have e:i5 64 S (.lst (ns.map D.int))=some (.list (ns.map PyData.int)):=by
  show (i4 (i5 63 S) (ns.map D.int)).map PyData.list=_;rw [O6 62 S ns];rfl
 unfold eqP;rw [e];show (if PyData.canLay0 (.list (ns.map PyData.int))=true/\PyData.canLay0 (.list [])=true/\min (PyData.depth (.list (ns.map PyData.int))) (PyData.depth (.list []))<=60 then ret (D.bl (!PyData.eqv (.list (ns.map PyData.int)) (.list []))) else bad) S=_;have hd:PyData.depth (.list [])<=60:=by simp [PyData.depth,PyData.depthAll]
 rw [if_pos ⟨by simp only [PyData.canLay0];exact ar ns,rfl,by omega⟩];cases ns with
 | nil=>rfl
 | cons n ns=>rfl
theorem gM (h:S[p]?=some (i8 ns a l t)) (b:0<m) (e:0<=t) (d:t<2000000):∃ r:Int,cw (.ref p) (.int m) (.int c) S=.ok (.int r) S/\0<=r/\r<m:=by
 unfold cw;rw [b6 (Z3 (by decide) S),b6 (t_3 h),b6 (eT (.inl ⟨by decide,by decide⟩) S),b6 (iX _ _ S),b6 (eT (.inr ⟨by decide,by decide⟩) S),b6 (Z3 (by decide) S),b6 (bw (by decide) (by decide) S),
  b6 (t_3 h),b6 (eT (.inl ⟨by decide,by decide⟩) S),b6 (t_3 h),b6 (eT (.inr ⟨by omega,by omega⟩) S),b6 (iX _ _ S),b6 (eT (.inr ⟨by decide,by decide⟩) S),b6 (Z3 (by decide) S),b6 (bw (by decide) (by decide) S),b6 (Z3 b S)]
 exact ⟨_,rfl,Hv _ (IF b),GU _ b⟩
theorem eA (h:S[p]?=some (i8 ns a l t)) (w:0<=a) (o:0<=l) (u:0<=t) (i:t<2000000) (b:0<m) (j:m<1073741824) :
  ∃ r f,J2 (.ref p) (.int m) (.int c) S=.ok (.int r) (S.set p (i8 ns (a+1) f t))/\0<=r/\r<m/\0<=f:=by
 unfold J2;rw [b6 (t_1 h),b6 (iX _ _ S),b6 (DI h _)];have g:=mJ (o':=i8 ns (a+1) l t) h;have v:sw (.int 10) (.int 18) (S.set p (i8 ns (a+1) l t))=.ok (.int 1000000000000000000) (S.set p (i8 ns (a+1) l t)):=rfl;rw [b6 v];have s:d7 .GtE (.int c) (.int 1000000000000000000) (S.set p (i8 ns (a+1) l t))=.ok (.bl (decide (1000000000000000000<=c))) (S.set p (i8 ns (a+1) l t)):=rfl;rw [b6 s,b6 (show asB _ _=_ from rfl)];have d:∀ z:Bool,(z=true->1000000000000000000<=c)->∃ r f,cF (.ref p) (.int m) (.int c) z (S.set p (i8 ns (a+1) l t))=.ok (.int r) (S.set p (i8 ns (a+1) f t))/\0<=r/\r<m/\0<=f:=λz hz=>by
  unfold cF;cases z with
  | true=>
   rw [if_pos rfl,b6 (bw b j _),b6 (Ao g _),b6 (Z3 b _),set_set];exact ⟨_,c / m,rfl,Hv _ (IF b),GU _ b,Int.ediv_nonneg (Int.le_trans (by decide) (hz rfl)) (Int.le_of_lt b)⟩
  | false=>
   rw [if_neg Ec];obtain ⟨r,e,n,q⟩:=gM g b u i;exact ⟨r,l,e,n,q,o⟩
 by_cases hz:(1000000000000000000:Int)<=c
 ·rw [EE hz,if_pos rfl,b6 (t_1 g),b6 (t_0 g),b6 (fJ ns _)];have k:d7 .LtE (.int (a+1)) (.int (ns.length:Int)) (S.set p (i8 ns (a+1) l t))=.ok (.bl (decide (a+1<=(ns.length:Int)))) (S.set p (i8 ns (a+1) l t)):=rfl;rw [b6 k,b6 (show asB _ _=_ from rfl)];exact d _ λ_=>hz
 ·rw [ES hz,if_neg Ec];exact d _ λz=>by cases z
theorem pf (h:S[p]?=some (i8 ns a l t)) (o:0<=a) (q:0<=l) (A:0<=t) (v:t<1000000) (g:0<m) (k:m<1073741824) :
  ∃ r j f,jN (.ref p) (.int m) S=.ok (.int r) (S.set p (i8 ns j f (t+1)))/\0<=r/\r<m/\0<=j/\0<=f:=by
 unfold jN;rw [b6 (t_3 h),b6 (iX _ _ S),b6 (DE h _)];have b:=mJ (o':=i8 ns a l (t+1)) h;have w:d7 .Gt (.int l) (.int 0) (S.set p (i8 ns a l (t+1)))=.ok (.bl (decide (0<l))) (S.set p (i8 ns a l (t+1))):=rfl;rw [b6 (t_2 b),b6 w,b6 (show asB _ _=_ from rfl)];by_cases hz:0<l
 ·rw [EE hz,if_pos rfl,b6 (t_2 b),b6 (Z3 g _),b6 (t_2 b),b6 (bw g k _),b6 (Ao b _),set_set];exact ⟨_,a,l / m,rfl,Hv _ (IF g),GU _ g,o,Int.ediv_nonneg q (Int.le_of_lt g)⟩
 ·rw [ES hz,if_neg Ec,b6 (t_0 b),b6 (sW ns _),b6 (show asB _ _=_ from rfl)];have i:∀ c:Int,∃ r j f,J2 (.ref p) (.int m) (.int c) (S.set p (i8 ns a l (t+1)))=.ok (.int r) (S.set p (i8 ns j f (t+1)))/\0<=r/\r<m/\0<=j/\0<=f:=λc=>by
   obtain ⟨r,f,e,s,u,y⟩:=eA b o q (by omega) (by omega) g k;rw [set_set] at e;exact ⟨r,a+1,f,e,s,u,by omega,y⟩
  cases ns with
  | nil=>
   rw [show (!([]:List Int).isEmpty)=false from rfl,if_neg Ec];exact i 3
  | cons n d=>
   rw [show (!(n :: d).isEmpty)=true from rfl,if_pos rfl,b6 (t_0 b),b6 (t_1 b),b6 (t_0 b),b6 (fJ _ _)];have x:0<((n :: d).length:Int):=by simp only [Gi];omega
   rw [b6 (Z3 x _)];obtain ⟨z,e⟩:=qX (ns:=n :: d) o (by omega) (S.set p (i8 (n :: d) a l (t+1)));rw [b6 e];exact i z
def Ft (ns:List Int) (p N:Nat) (S:Sto):Prop:=∃ a l t:Int,S[p]?=some (i8 ns a l t)/\0<=a/\0<=l/\0<=t/\t+N<1000000
theorem Ft.less {p N K:Nat} {S:Sto} (h:Ft ns p N S) (f:K<=N):Ft ns p K S:=by
 obtain ⟨a,l,t,e,c,b,d,g⟩:=h;exact ⟨a,l,t,e,c,b,d,by omega⟩
theorem Ft.keep (h:Ft ns p N S) (e:S'[p]?=S[p]?):Ft ns p N S':=by
 obtain ⟨a,l,t,b,c⟩:=h;exact ⟨a,l,t,by rw [e];exact b,c⟩
theorem pW {p N m:Nat} {S:Sto} (h:Ft ns p (N+1) S) (u:0<m) (o:m<1000000):Ok (jN (.ref p) (.int (m:Int))) S λd S'=>∃ r:Nat,d=.int (r:Int)/\r<m/\Ft ns p N S'/\S'.length=S.length/\∀ q,q≠p->S'[q]?=S[q]?:=by
 obtain ⟨a,l,t,e,g,c,s,x⟩:=h;obtain ⟨r,k,n,b,j,v,f,i⟩:=pf (m:=(m:Int)) e g c s (by omega) (by omega) (by omega);obtain ⟨r,rfl⟩:=Iz j;refine ⟨_,_,b,r,rfl,by omega,⟨k,n,t+1,?_,f,i,by omega,by omega⟩,by simp,λq w=>?_⟩
 ·grind
 ·grind
end L3
namespace L3.Rk
open PySem PySem.Spec PyProof.Rows L2
theorem mC (x:Int):∀ s:List Int,s.Pairwise (·<=·)->x∈s->s.findIdx? (λz=>z==x)=some (s.countP λz=>decide (z<x))
 | [],_,h=>by cases h
 | y :: s,hs,h=>by
  have hy:=FD.mp hs;rw [List.findIdx?_cons];by_cases q:y=x
  ·have c0:(y :: s).countP (λz=>decide (z<x))=0:=List.countP_eq_zero.mpr λz hz=>by
    rcases Ea.mp hz with e | e
    ·rw [e,q];simp
    ·have:=hy.1 z e;simp;omega
   rw [c0,q];simp
  ·have hx:x∈s:=(Ea.mp h).resolve_left λz=>q z.symm;have:=hy.1 x hx;have e:(y==x)=false:=by simp [q]
   have c:decide (y<x)=true:=EE (by omega);have cc:(y :: s).countP (λz=>decide (z<x))=s.countP (λz=>decide (z<x))+1:=List.countP_cons_of_pos c;rw [e,mC x s hy.2 hx,cc];rfl
theorem sv (x:Int) (l:List Int):(srt l).countP (λz=>decide (z<x))=l.countP λz=>decide (z<x):=(j6 l).countP_eq _
theorem uO {ns:List Int} {x:Int} {j:Nat} (hj:j<100000) (h:ns.findIdx? (λz=>z==x)=some j) (S:Sto):aB (.lst (ns.map D.int)) [.int x] S=.ok (.int (j:Int)) S:=by
 have e:i5 64 S (.lst (ns.map D.int))=some (.list (ns.map PyData.int)):=by
  show (i4 (i5 63 S) (ns.map D.int)).map PyData.list=_;rw [O6 62 S ns];rfl
 show lG (.lst (ns.map D.int)) (.int x) S=_;unfold lG;rw [show i5 64 S (.int x)=some (.int x) from rfl,e];simp only;have hd:PyData.depth (.int x)=0:=by simp [PyData.depth]
 rw [if_pos ⟨rfl,ar ns,by rw [hd];omega⟩];have f:(ns.map PyData.int).findIdx? (λz=>PyData.eqv z (.int x))=some j:=by
  rw [List.findIdx?_map,<- h];congr 1
 rw [f];simp only;rw [if_pos hj];rfl
def rk (l:List Int) (x:Int):Nat:=l.countP λz=>decide (z<x)
theorem iC (l:List Int) {x y:Int} (h:x<=y):rk l x<=rk l y:=List.countP_mono_left λz _ q=>by
 simp only [Eh] at q ⊢;omega
theorem lx:∀ {l:List Int} {x y:Int},x∈l->x<y->rk l x<rk l y
 | z :: l,x,y,h,q=>by
  unfold rk;rw [List.countP_cons,List.countP_cons];rcases Ea.mp h with e | e
  ·subst e;have:=iC l (Int.le_of_lt q);unfold rk at this;rw [if_neg (by simp),if_pos (by simpa using q)];omega
  ·have:=lx e q;unfold rk at this;by_cases c:z<x
   ·rw [if_pos (by simpa using c),if_pos (by simp;omega)];omega
   ·rw [if_neg (by simpa using c)];omega
theorem wS {l:List Int} {x y:Int} (h:x∈l):rk l x<rk l y↔x<y:=by
 refine ⟨λq=>?_,lx h⟩;by_cases c:x<y
 ·exact c
 ·have:=iC l (show y<=x by omega);omega
end L3.Rk
namespace L3
open PySem PySem.W PyProof.Rows
def bD {b:Type} (c:Nat->Nat->Bool):KasT b->b
 | .ret a=>a
 | .ask i j k=>bD c (k (c i j))
def KIn {c:Type} (n:Nat) (P:c->Prop):KasT c->Prop
 | .ret a=>P a
 | .ask i j k=>i<n/\j<n/\∀ b,KIn n P (k b)
theorem KIn.bd {P:α->Prop} {Q:β->Prop} {f:α->KasT β} (c:∀ a,P a->KIn n Q (f a)):∀ {t:KasT α},KIn n P t->KIn n Q (t.bind f)
 | .ret a,h=>c a h
 | .ask i j k,h=>⟨h.1,h.2.1,λb=>KIn.bd c (h.2.2 b)⟩
theorem KIn.run (b:Nat->Nat->Bool):∀ {t:KasT α},KIn n P t->P (bD b t)
 | .ret a,h=>h
 | .ask i j k,h=>KIn.run b (t:=k (b i j)) (h.2.2 _)
theorem aU {P:α->Prop} {c b:Nat->Nat->Bool} (e:∀ i j,i<n->j<n->c i j=b i j):∀ {t:KasT α},KIn n P t->bD c t=bD b t
 | .ret a,h=>rfl
 | .ask i j k,h=>by
  show bD c (k (c i j))=bD b (k (b i j));rw [e i j h.1 h.2.1];exact aU e (h.2.2 _)
theorem KIn.wp {d:Nat->Nat->Bool} {b:Nat->Nat->(Bool->Shared->Prop)->Shared->Prop} {s:Shared} {Q:α->Shared->Prop} (c:∀ i j (C:Bool->Shared->Prop),i<n->j<n->C (d i j) s->b i j C s):∀ {t:KasT α},KIn n P t->Q (bD d t) s->t.kasWp b Q s
 | .ret a,_,q=>q
 | .ask i j k,h,q=>c i j _ h.1 h.2.1 (KIn.wp c (h.2.2 _) q)
def ALt (n:Nat) (p:Array Nat):Prop:=p.toList.Perm (List.range n)
section
variable {n:Nat} {p:Array Nat}
theorem ALt.at (h:ALt n p) (a:0<n) (i:Nat):p.getD i 0<n:=by
 rw [Array.getD_eq_getD_getElem?];cases e:p[i]? with
 | none=>exact a
 | some x=>exact Fp.mp (h.mem_iff.mp (Array.mem_toList_iff.mpr (Array.mem_of_getElem? e)))
theorem ALt.pm (h:ALt n p) (q:p'.Perm p):ALt n p':=(Array.perm_iff_toList_perm.mp q).trans h
theorem ALt.rv (h:ALt n p) (i j:Nat):ALt n (kas_rev p i j):=h.pm (mirror_perm ..)
theorem gp (a:0<n) (h:ALt n p):∀ f m,KIn n (λ_=>True) (kas_asc p f m)
 | 0,m=>trivial
 | f+1,m=>⟨h.at a _,h.at a _,λb=>by
  show KIn n _ (if b=true then _ else _);split
  ·trivial
  ·exact gp a h f (m+1)⟩
theorem Y8 (a:0<n):∀ f {p:Array Nat} m q,ALt n p->KIn n (λr=>ALt n r.1) (kas_desc f p m q)
 | 0,p,m,q,h=>h
 | f+1,p,m,q,h=>⟨h.at a _,h.at a _,λb=>by
  show KIn n _ (if b=true then (if _ then _ else _) else _);split
  ·split
   ·exact Y8 a f _ _ (h.rv _ _)
   ·exact Y8 a f _ _ h
  ·exact ⟨h.at a _,h.at a _,λd=>by
    show KIn n _ (if d=true then _ else _);split
    ·exact h
    ·exact Y8 a f _ _ h⟩⟩
theorem dh (a:0<n) (h:ALt n p) (m r:Nat):KIn n (λr=>ALt n r.2) (kas_tail3 m r p):=KIn.bd (Q:=λr:Nat×Array Nat=>ALt n r.2) (f:=λq=>.ret (q,kas_rev p 0 m)) (λ_ _=>(h.rv 0 m:ALt n (kas_rev p 0 m))) (gp a (h.rv 0 m) _ _)
theorem V9 (a:0<n) (h:ALt n p) (m r:Nat):KIn n (λr=>ALt n r.2) (kas_descPart m r p):=KIn.bd (λx b=>by
  split
  ·exact dh a (b.rv _ _) _ _
  ·exact dh a b _ _) (Y8 a _ _ _ h)
theorem pi (a:0<n) (h:ALt n p) (r:Nat):KIn n (λr=>ALt n r.2) (kas_count r p):=KIn.bd (λm _=>by
  split
  ·exact h
  ·split
   ·refine ⟨h.at a _,h.at a _,λb=>?_⟩;dsimp only;split
    ·exact h
    ·exact V9 a (h.rv _ _) _ _
   ·exact V9 a h _ _) (gp a h _ _)
theorem al (a:0<n) (h:ALt n p) (k:Nat):∀ f l r,KIn n (λ_=>True) (kas_place p k f l r)
 | 0,l,r=>trivial
 | f+1,l,r=>by
  show KIn n _ (if l≥r then _ else _);split
  ·trivial
  ·refine ⟨h.at a _,h.at a _,λb=>?_⟩;dsimp only;split
   ·exact al a h k f _ _
   ·exact al a h k f _ _
theorem ol (a:0<n):∀ f {p:Array Nat} k,ALt n p->KIn n (ALt n) (kas_bin f p k)
 | 0,p,k,h=>h
 | f+1,p,k,h=>KIn.bd (λl _=>ol a f _ (h.pm (bubble_perm ..))) (al a h k _ _ _)
theorem Y5 (b:0<n):KIn n (ALt n) (kas_sort n):=by
 have h:ALt n (List.toArray (List.range n)):=.refl _;refine KIn.bd (λr a=>?_) (pi b h n);split
 ·exact ol b _ _ a
 ·exact a
end
def sPq (a:Nat->Nat->Bool) (n:Nat):List Nat:=if n<2 then List.range n else (bD a (kas_sort n)).toList
theorem fN (a:Nat->Nat->Bool) (n:Nat):(sPq a n).Perm (List.range n):=by
 unfold sPq;split
 ·exact .refl _
 ·exact KIn.run _ (Y5 (by omega))
theorem gb (h:i∈sPq lt n):i<n:=Fp.mp ((fN lt n).mem_iff.mp h)
theorem P3 (a:Nat->Nat->Bool) (n:Nat):(sPq a n).length=n:=by rw [(fN a n).length_eq,Fv]
theorem kI {b a:Nat->Nat->Bool} {n:Nat} (e:∀ i j,i<n->j<n->b i j=a i j):sPq b n=sPq a n:=by
 unfold sPq;split
 ·rfl
 ·rw [aU e (Y5 (by omega))]
def ltK (a:List Int) (i j:Nat):Bool:=decide (a.getD i 0<a.getD j 0)
abbrev sPl (ks:List Int):List Nat:=sPq (ltK ks) ks.length
section
variable {prog:Program} {w:World} {A:Around} {E:Value->Shared->Prop} {s:Shared} {lt:Nat->Nat->Bool} {κ:SortKind}
def D9 (a:Nat->Nat->Bool) (vs:List Value):Array Value:=((sPq a vs.length).map λi=>vs.getD i Value.none).toArray
theorem nJ (vs:List Value):(List.range vs.length).map (λi=>vs.getD i Value.none)=vs:=by
 apply List.ext_getElem?;intro i;by_cases h:i<vs.length <;> simp [h]
theorem oX {n:Nat} {P:PySem.Fin->Shared->Prop} (r:s.heap.get? a=some (seqObj "list" vs.toArray n)) (t:vs.length<64)
  (u:2<=vs.length->∀ h':Heap,(∀ b o,b≠a->s.heap.get? b=some o->h'.get? b=some o)->∀ Q:SortKind->Shared->Prop,Q κ { s with heap:=h' }->wpAny (model prog w) A (keyKind' vs.toArray) Q (λ_ _=>False) { s with heap:=h' })
  (M:∀ h':Heap,(∀ b o,b≠a->s.heap.get? b=some o->h'.get? b=some o)->∀ i j (C:Bool->Shared->Prop),i<vs.length->j<vs.length->C (lt i j) { s with heap:=h' }->kas_ask prog w A κ vs i j C { s with heap:=h' })
  (h:P (.done (.ret .none)) { s with heap:=sortedHeap s.heap a vs (D9 lt vs) }):wpAny (model prog w) A (Builtin.«list.sort» ⟨[.ref a],[]⟩) P E s:=by
 rw [list_sort_plain];have O:=Dv r;obtain ⟨y,m⟩:∃ y,(s.heap.update a (Obj.mapSeq λ_=>#[])).get? a=some (seqObj "list" #[] y):=⟨_,Hw r (λ_=>#[])⟩;have L:=EX s.heap a (Obj.mapSeq λ_=>(#[]:Array Value));refine Do (listItems_at r rfl ?_);refine Do (Gr r rfl ?_ (by rw [Dy,Ew];omega) (Fe _));refine Do (Ie m rfl ?_);refine Do (IQ ?_ (by show vs.length<=_;rw [Ew];omega));refine Do (Gq ?_ (Fe _));refine Ep ?_;have d:(((s.heap.update a (Obj.mapSeq λ_=>(#[]:Array Value))).push (seqObj "tuple" vs.toArray 0)).push (seqObj "list" #[] 0)).get? a=some (seqObj "list" #[] y):=Dq _ (Dq _ m);have z:∀ b o,b≠a->s.heap.get? b=some o->(((s.heap.update a (Obj.mapSeq λ_=>(#[]:Array Value))).push (seqObj "tuple" vs.toArray 0)).push (seqObj "list" #[] 0)).get? b=some o:=λb o N e=>Dq _ (Dq _ ((L.2 b N).trans e));have k:(D9 lt vs).size<=sizeLine+1:=by
  unfold D9;rw [Dy,Dr,P3,Ew];omega
 dsimp only;by_cases g:vs.toArray.size<2
 ·rw [if_pos g,if_pos g];have f:vs.length<2:=by rw [Dy] at g;exact g
  have l:(arrOf (SortSt.mk' general' (vs.toArray.zip vs.toArray) #[] 7 none)).map (·.2)=D9 lt vs:=by
   show (vs.toArray.zip vs.toArray).map (·.2)=_;unfold D9 sPq;rw [if_pos f,nJ];have:(vs.zip vs).map Prod.snd=vs:=by rw [List.map_snd_zip];exact Dz _
   simpa using this
  refine Do (Dp ?_);rw [StateT.run_pure];refine Do (Dp ?_);refine Do (Ie d rfl ?_);refine Do (Gr d rfl ?_ (Fe _) (by rw [l];exact k));simp only [Gw,EV,Ha];refine Dp ?_;rw [l];exact h
 ·rw [if_neg g,if_neg g];have f:2<=vs.length:=by rw [Dy] at g;omega
  refine Do (Ef (u f _ z (λκ' s'=>κ'=κ/\s'={ s with heap:=((s.heap.update a (Obj.mapSeq λ_=>(#[]:Array Value))).push (seqObj "tuple" vs.toArray 0)).push (seqObj "list" #[] 0) }) ⟨rfl,rfl⟩) (λκ' s' u=>?_) λ_ _ x=>x.elim);obtain ⟨rfl,rfl⟩:=u;refine Do (Ef (kat_run (Q:=λc s'=>∃ p:Array Nat,arrOf c=p.map (kas_item (vs.toArray.zip vs.toArray))/\failedOf c=none/\p=bD lt (kas_sort vs.length)/\s'={ s with heap:=((s.heap.update a (Obj.mapSeq λ_=>(#[]:Array Value))).push (seqObj "tuple" vs.toArray 0)).push (seqObj "list" #[] 0) })
   rfl f t (λK c s' R I G H=>⟨K,I,G,H⟩) (KIn.wp (λi j C D B q=>M _ z i j C D B q) (Y5 (by omega)) ⟨rfl,rfl⟩)) ?_ λ_ _ e=>e)
  rintro ⟨⟨⟩,c⟩ s' ⟨p,v,F,J,rfl⟩;have l:(arrOf c).map (·.2)=D9 lt vs:=by
   rw [kat_snds rfl v,J];unfold D9 sPq;rw [if_neg (by omega)]
  refine Do (Ie d rfl ?_);refine Do (Gr d rfl ?_ (Fe _) (by rw [l];exact k));rw [F];simp;refine Dp ?_;rw [l];exact h
theorem lg (n:s.heap.IsList l vs.toArray) (f:vs.length<64)
  (m:2<=vs.length->∀ h':Heap,(∀ b o,s.heap.get? b=some o->h'.get? b=some o)->∀ Q:SortKind->Shared->Prop,Q κ { s with heap:=h' }->wpAny (model prog w) A.in1.in1 (keyKind' vs.toArray) Q (λ_ _=>False) { s with heap:=h' })
  (p:∀ h':Heap,(∀ b o,s.heap.get? b=some o->h'.get? b=some o)->∀ i j (C:Bool->Shared->Prop),i<vs.length->j<vs.length->C (lt i j) { s with heap:=h' }->kas_ask prog w A.in1.in1 κ vs i j C { s with heap:=h' })
  (h:Q (.ref (s.heap.objs.size+1)) { s with heap:=sortedAll s.heap vs (D9 lt vs) }):wpAny (model prog w) A (call (.builtin "sorted") [.ref l]) Q E s:=by
 refine GK kind_sorted plain_sorted entry_sorted (args_sorted1 _) ?_;refine Do (Dp ?_);refine Do (collect_list n ?_ (by rw [Ew];omega));refine Do (Gq ?_ (by rw [Ew];omega));have hsz:((s.heap.push (seqObj "list" #[] 0)).update s.heap.objs.size (Obj.mapSeq (·++vs.toArray))).objs.size=s.heap.objs.size+1:=by
  rw [Hi,size_push']
 have c:(((s.heap.push (seqObj "list" #[] 0)).update s.heap.objs.size (Obj.mapSeq (·++vs.toArray))).push (seqObj "list" vs.toArray 0)).get? (s.heap.objs.size+1)=some (seqObj "list" vs.toArray 0):=by
  rw [<- hsz];exact Du _ rfl
 have d:∀ b o,s.heap.get? b=some o->(((s.heap.push (seqObj "list" #[] 0)).update s.heap.objs.size (Obj.mapSeq (·++vs.toArray))).push (seqObj "list" vs.toArray 0)).get? b=some o:=λb o q=>by
  have a:=Dv q;rw [Hd _ _ _ (by rw [hsz];exact Dw (El a)),Fw _ _ _ _ (Dw a),Hd _ _ _ (Dw a)];exact q
 rw [hsz];have g:∀ h':Heap,(∀ b o,b≠s.heap.objs.size+1->(((s.heap.push (seqObj "list" #[] 0)).update s.heap.objs.size (Obj.mapSeq (·++vs.toArray))).push (seqObj "list" vs.toArray 0)).get? b=some o->h'.get? b=some o)->∀ b o,s.heap.get? b=some o->h'.get? b=some o:=λh' k b o e=>k b o (Dw (El (Dv e))) (d b o e);refine Do (Ep (EO slot_list_sort ⟨_,c,rfl⟩ entry_list_sort (oX c f (λr h' k=>m r h' (g h' k)) (λh' k=>p h' (g h' k)) ⟨_,rfl,?_⟩) (args_list_sort _)));exact Dp ⟨_,rfl,h⟩
end
end L3
namespace L3
open PySem PySem.Spec PyProof.Rows L2
def PrAt (h:Heap) (v:Value) (k:Int):Prop:=∃ a o xs n t r,v=.ref a/\h.get? a=some o/\o.cls=.type "tuple"/\o.data=.seq xs n/\xs.toList=Value.int k t :: r
theorem PrAt.kp {v:Value} {k:Int} (p:PrAt h v k) (e:∀ b o,h.get? b=some o->h'.get? b=some o):PrAt h' v k:=by
 obtain ⟨a,o,xs,n,t,r,c,f,d⟩:=p;exact ⟨a,o,xs,n,t,r,c,e _ _ f,d⟩
theorem Paired.gt:∀ {xs:List α} {ys:List β} {i:Nat},Paired P xs ys->i<xs.length->∃ x y,xs[i]?=some x/\ys[i]?=some y/\P x y
 | _,_,0,.cons h _,_=>⟨_,_,rfl,rfl,h⟩
 | _,_,i+1,.cons _ t,h=>by
  obtain ⟨x,y,b,a,p⟩:=Paired.gt t (by simpa using h);exact ⟨x,y,by simpa using b,by simpa using a,p⟩
section
variable {prog:Program} {w:World} {A:Around} {E:Value->Shared->Prop} {s:Shared}
theorem qZ {Q:Bool->Shared->Prop} (h:Q true s):wpAny (model prog w) A (eqBool v v) Q E s:=by
 unfold eqBool;try with_reducible refine Ep ?_
 rw [if_pos (by simp)];exact Do (Ge (Dp h))
theorem eZ (h:Q false s):∀ (l:List Value) (i:Nat),PySem.W.KatLex prog w A true false Q (l.zip l) i s
 | [],i=>h
 | v :: l,i=>PySem.W.kat_cons (qZ (PySem.W.kat_yes (eZ h l (i+1))))
theorem At {k j:Int} {Q:Bool->Shared->Prop} (u:PrAt s.heap x k) (q:PrAt s.heap y j) (g:x=y\/k≠j) (h:Q (decide (k<j)) s):wpAny (model prog w) A (keyLt' (tuples' true) x y) Q E s:=by
 obtain ⟨a,o,xs,n,t,r,rfl,m,C,l,i⟩:=u;obtain ⟨b,o',ys,z,t',B,rfl,f,v,d,c⟩:=q;refine PySem.W.kat_lt m l f d ?_;rcases g with e | g
 ·cases e;rw [m] at f;cases f;rw [l] at d;cases d;rw [i] at c;cases c;have e:decide (k<k)=false:=ES (Int.lt_irrefl _);rw [e] at h;have p:decide (xs.size<xs.size)=false:=ES (FN _);rw [p];exact eZ h _ 0
 ·rw [i,c];refine PySem.W.kat_cons ((intKind prog w).eqBool (intKind_is _ _ _ _) (intKind_is _ _ _ _) ?_);rw [ES g];exact PySem.W.kat_no (oneLt_int h)
theorem sA (G:s.heap.IsList l vs.toArray) (d:vs.length<64) (B:Paired (PrAt s.heap) vs ks) (F:ks.Nodup)
  (h:Q (.ref (s.heap.objs.size+1)) { s with heap:=sortedAll s.heap vs (D9 (ltK ks) vs) }):wpAny (model prog w) A (call (.builtin "sorted") [.ref l]) Q E s:=by
 have f:=B.length;refine lg (κ:=tuples' true) G d (λg h' k M q=>?_) (λh' k i j C c J q=>?_) h
 ·obtain ⟨fs,D,c⟩:∃ fs,PySem.W.KatTups h' vs fs/\∀ v∈fs,∃ i t,v=Value.int i t:=by
   clear g d f F h G;induction B with
   | nil=>exact ⟨[],trivial,λ_ m=>nomatch m⟩
   | cons a t I=>
    obtain ⟨fs,L,g⟩:=I;obtain ⟨a,o,xs,n,t,r,rfl,y,u,K,H⟩:=a;refine ⟨.int _ t :: fs,PySem.W.KatTups.cons (k _ _ y) u K (by rw [<- EW,H];rfl) L,λv m=>?_⟩;rcases Ea.mp m with rfl | m
    ·exact ⟨_,_,rfl⟩
    ·exact g v m
  have x:0<fs.length:=by
   cases fs with
   | nil=>cases vs with
    | nil=>simp at g
    | cons _ _=>exact False.elim D
   | cons _ _=>simp
  exact PySem.W.kat_kind (T:=.type "int") D x (λv m=>by obtain ⟨i,t,rfl⟩:=c v m;exact λA Q E s _ q=>Dp q) (by rfl) q
 ·unfold PySem.W.kas_ask;have b:∀ i,i<vs.length->PrAt h' (vs.getD i Value.none) (ks.getD i 0):=λi c=>by
   obtain ⟨v,N,y,u,p⟩:=Paired.gt B c;rw [Ee,Ee,y,u];exact p.kp k
  refine At (b i c) (b j J) ?_ q;by_cases e:i=j
  ·exact .inl (by rw [e])
  ·refine .inr λz=>e ?_;rw [Ee,Ee,Ds (by omega),Ds (by omega)] at z;exact (He F).mp z
end
def F6:List D->Option (List Int)
 | []=>some []
 | .tup (.int k :: _) :: ds=>(F6 ds).map (k :: ·)
 | _=>none
theorem aN:∀ {ds:List D} {a:List Int},F6 ds=some a->a.length=ds.length
 | [],_,e=>by cases e;rfl
 | .tup (.int k :: _) :: ds,_,e=>by
  unfold F6 at e;cases q:F6 ds with
  | none=>rw [q] at e;cases e
  | some js=>rw [q] at e;cases e;simp [aN q]
 | .non :: _,_,e | .bl _ :: _,_,e | .int _ :: _,_,e | .str _ :: _,_,e | .lst _ :: _,_,e | .scr _ :: _,_,e | .ref _ :: _,_,e | .tup [] :: _,_,e=>by cases e
 | .tup (.non :: _) :: _,_,e | .tup (.bl _ :: _) :: _,_,e | .tup (.str _ :: _) :: _,_,e | .tup (.lst _ :: _) :: _,_,e | .tup (.scr _ :: _) :: _,_,e | .tup (.ref _ :: _) :: _,_,e | .tup (.tup _ :: _) :: _,_,e=>by cases e
section
variable {X:Cx} {cl:Nat->Addr} {xe:Addr->Hp->Prop} {pins:List (Addr×Obj)} {σ:L2.St} {H:Hp} {s:Shared} {μ:Mp}
theorem oA (I:L2.Inv X pins σ H s):∀ {ds:List D} {xs:List V} {vs:List Value} {ks:List Int},F6 ds=some ks->RDs X.K μ H ds xs->Vals xs vs->Paired (PrAt s.heap) vs ks
 | [],_,_,_,e,.nil,.nil=>by cases e;exact .nil
 | d :: ds,_,_,ks,e,.cons rd rds,.cons rv rvs=>by
  cases rd with
  | tup ta ra=>
   cases ra with
   | nil=>cases e
   | cons r1 r2=>
    cases r1 with
    | int k=>
     unfold F6 at e;cases q:F6 ds with
     | none=>rw [q] at e;cases e
     | some js=>
      rw [q] at e;cases e;cases rv;refine .cons ?_ (oA I q rds rvs);obtain ⟨its,r',⟨ob,o1,o2,n,o3⟩,_⟩:=I.tuple ta.sq;cases r' with
      | cons h1 h2=>
       obtain ⟨t,rfl⟩:=h1;exact ⟨_,ob,_,n,t,_,rfl,o1,o2,o3,rfl⟩
    | _=>cases e
  | _=>cases e
def o5 {a:Type} (z:a) (b:List Nat) (xs:List a):List a:=b.map λi=>xs.getD i z
theorem cJ (r:RDs X.K μ H ds xs):∀ {a:List Nat},(∀ i∈a,i<ds.length)->RDs X.K μ H (o5 .non a ds) (o5 .non a xs)
 | [],_=>.nil
 | i :: a,h=>by
  obtain ⟨v,e,b⟩:=r.get (Ds (h i Ei));refine .cons ?_ (cJ r λj m=>h j (Ed _ m));show RD X.K μ H (ds.getD i .non) (xs.getD i .non);rw [Ee,Ee,e,Ds (h i Ei)];exact b
theorem T4 (r:Vals xs us):∀ {a:List Nat},(∀ i∈a,i<xs.length)->Vals (o5 .non a xs) (o5 .none a us)
 | [],_=>.nil
 | i :: a,h=>by
  obtain ⟨v,e,b⟩:=r.get (Ds (h i Ei));refine .cons ?_ (T4 r λj m=>h j (Ed _ m));show L2.RelV (xs.getD i .non) (us.getD i .none);rw [Ee,Ee,e,Ds (h i Ei)];exact b
def u5 (d:D):M D:=match d with
 | .lst ds=>(match F6 ds with
  | some a=>if a.length<64/\a.Nodup then ret (.lst (o5 .non (sPl a) ds)) else bad
  | none=>P4 (.lst ds))
 | d=>P4 d
theorem kP:k8 X (.builtin "sorted") (rPs X.K cl xe (one u5)):=O3 λpins s σ H μ S d v us Q I r rd rp p=>by
 have old:Post X.K cl xe μ H (P4 d S) (λr _ μ' H'=>∀ v,RD X.K μ' H' r v->Q v H')->wpAny (model X.prog X.w) X.A (call (.builtin "sorted") us) (EP X pins σ Q) X.xe s:=λp=>mw pins s σ H _ us Q I r ⟨μ,S,[d],.cons rd .nil,rp,p⟩;cases rd with
 | lst ha rds=>
  rename_i a xs ds;unfold u5 at p;dsimp only at p;cases e2:F6 ds with
  | none=>simp_all
  | some ks=>
   rw [e2] at p;obtain ⟨⟨hz,nd⟩,p⟩:=Post.guard p;obtain ⟨u,rfl,ru⟩:=P8 r;cases ru;have hl:=aN e2;obtain ⟨its,rv,pl,hsz⟩:=I.list (ha.sq);have lv:its.length=ks.length:=by rw [<- rv.length,<- rds.length,hl]
   have bd:∀ i∈sPl ks,i<ds.length:=λi m=>by rw [<- hl];exact gb m
   refine sA pl.isList (by omega) (oA I e2 rds rv) nd ?_;obtain ⟨ep,he⟩:=sortedAll_at s.heap its (D9 (ltK ks) its);have hf:=I.hok.fresh (EU _);obtain ⟨l,rp2,rd2⟩:=A1 rp (cJ rds bd) hf;refine ⟨.ref (s.heap.objs.size+1),_,I.laid (λb ob q=>sortedAll_old q) (EU _) ?_,rfl,p μ _ l rp2 _ rd2⟩;refine ⟨by unfold o5;rw [Dr,P3,Ew];omega,o5 .none (sPl ks) its,ep,T4 rv (λi m=>by rw [<- rds.length];exact bd i m),?_⟩;rw [he];unfold D9 o5;rw [lv]
 | _=>exact old p
end
def lY:RuE:=rBf "sorted" "sorted" false (one u5) (by decide) rfl λ_ _=>kP
end L3
namespace L3
open PySem PySem.W PyProof.Rows
section
variable {prog:Program} {w:World} {A:Around} {E:Value->Shared->Prop} {s:Shared} {ks:List Int} {W:Shared->Prop} {a kS:Addr} {f:Value} {vs:List Value}
theorem S3 {h:Heap} {b c:Addr} {g:Obj->Obj} {o:Obj} (e:h.get? b=some o) (n:b≠c):(h.update c g).get? b=some o:=by rw [Fw _ _ _ _ n];exact e
theorem sX (J:s.heap.get? kS=some (seqObj "list" keys e)) (V:s.heap.get? a=some (seqObj "list" #[] o)) (y:kS≠a) (B:IntsAre keys.toList ks) (Y:ks.length=vs.length) (v:vs.length<64) (S:W s) (D:∀ s' b g,W s'->b=kS\/b=a->W { s' with heap:=s'.heap.update b g })
  (h:∀ s',W s'->(∃ c,s'.heap.get? a=some (seqObj "list" (D9 (ltK ks) vs) c))->P (.done (.ret .none)) s'):wpAny (model prog w) A (ksk_end a false vs.toArray o (.ref kS) keys) P E s:=by
 have hsz:keys.size=vs.length:=by
  have O:=B.length;rw [Ej] at O;omega
 have r:(D9 (ltK ks) vs).size<=sizeLine+1:=by
  unfold D9;rw [Dy,Dr,P3,Ew];omega
 have n:∀ st:SortSt,(arrOf st).map (·.2)=D9 (ltK ks) vs->failedOf st=none->wpAny (model prog w) A (ksk_tail a false o (.ref kS) st) P E s:=λst x M=>by
  have L:=D s kS (Obj.mapSeq λ_=>(#[]:Array Value)) S (.inl rfl);have f:(s.heap.update kS (Obj.mapSeq λ_=>(#[]:Array Value))).get? a=some (seqObj "list" #[] o):=S3 V y.symm;refine Do (Gr J rfl ?_ (by rw [hsz,Ew];omega) (Fe _));refine Do (wpAny_letGo ?_);refine Do (Ie f rfl ?_);refine Do (Gr f rfl ?_ (Fe _) (by rw [if_neg Ec,x];exact r));rw [M];simp;have z:=Hw f (λ_=>(arrOf st).map (·.2));rw [x] at z;exact Dp (h _ (D _ a _ L (.inr rfl)) ⟨_,by rw [x];exact z⟩)
 unfold ksk_end;simp only [EV,Ha];by_cases l:vs.toArray.size<2
 ·rw [if_pos l,if_pos l];have k:vs.length<2:=by rw [Dy] at l;exact l
  refine Do (Dp ?_);rw [StateT.run_pure];refine Do (Dp ?_);refine n _ ?_ rfl;unfold D9 sPq;rw [if_pos k,nJ];have:(keys.toList.zip vs).map Prod.snd=vs:=List.map_snd_zip (by have e:keys.toList.length=keys.size:=Ej;omega);apply Array.toList_inj.mp;rw [Array.toList_map,ksk_zip];exact this
 ·rw [if_neg l,if_neg l];have k:2<=vs.length:=by rw [Dy] at l;omega
  rw [ksk_kind B (by omega)];refine Do (Dp ?_);have K:keys=keys.toList.toArray:=by rw [GA]
  have H:keys.toList.length=vs.length:=by rw [Ej,hsz]
  have d:∀ i,i<vs.length->∃ t,keys.toList.getD i Value.none=.int (ks.getD i 0) t:=λi I=>by
   obtain ⟨t,e⟩:=HE B i _ (Ds (by omega));refine ⟨t,?_⟩;rw [Ee,Ds (by omega)];exact e
  rw [K];refine Do (Ef (kat_run (Q:=λm s'=>(arrOf m).map (·.2)=D9 (ltK ks) vs/\failedOf m=none/\s'=s)
   (G:=λp s'=>p=bD (ltK ks) (kas_sort vs.length)/\s'=s) H k v (λZ m s' X N U F=>⟨?_,U,F.2⟩) (KIn.wp (λi j C I T q=>?_) (Y5 (by omega)) ⟨rfl,rfl⟩)) ?_ λ_ _ e=>e)
  ·rw [kat_snds H N,F.1];unfold D9 sPq;rw [if_neg (by omega)]
  ·unfold kas_ask;obtain ⟨t,o⟩:=d i I;obtain ⟨u,R⟩:=d j T;rw [o,R];exact kat_lt_int q
  ·grind
theorem me (F:s.heap.get? kS=some (seqObj "list" #[] 0)) (M:s.heap.get? a=some (seqObj "list" #[] e1)) (u:kS≠a) (N:ks.length=vs.length) (y:vs.length<64) (L:W s) (B:∀ s' b g,W s'->b=kS\/b=a->W { s' with heap:=s'.heap.update b g })
  (O:∀ (i:Nat) (v:Value) (k:Int) (s':Shared),vs[i]?=some v->ks[i]?=some k->W s'->(∃ o,s'.heap.get? kS=some o)->(∃ o,s'.heap.get? a=some o)->wpAny (model prog w) A (call f [v]) (λr m=>(∃ t,r=.int k t)/\W m/\m.heap.get? kS=s'.heap.get? kS/\m.heap.get? a=s'.heap.get? a) (λ_ _=>False) s')
  (h:∀ s',W s'->(∃ c,s'.heap.get? a=some (seqObj "list" (D9 (ltK ks) vs) c))->P (.done (.ret .none)) s'):wpAny (model prog w) A (ksk_rest a f false vs.toArray e1 (.ref kS)) P E s:=by
 refine Do (Ge ?_);first
  | rw [List.forIn_toArray]
  | (rw [<- Array.forIn_toList];simp)
  | rw [<- Array.forIn_toList]
 refine Do (ksk_fold (λi s'=>W s'/\s'.heap.get? a=some (seqObj "list" #[] e1)/\∃ n e,s'.heap.get? kS=some (seqObj "list" n e)/\IntsAre n.toList (ks.take i)) vs 0 s ⟨L,M,#[],0,F,by simpa using IntsAre.nil⟩ ?step ?done)
 case step=>
  rintro j x s' D ⟨w',l,n,e,d,p⟩;simp only [Nat.zero_add] at p ⊢;have R:=(Eb.mp D).1;obtain ⟨k,q⟩:∃ k,ks[j]?=some k:=⟨_,Ds (by omega)⟩;have hz:n.size<=vs.length:=by
   have H:=p.length;rw [Ej,Fn] at H;omega
  refine Do (Gp (Ef (O j x k s' D q w' ⟨_,d⟩ ⟨_,l⟩) (λv m J=>?_) λ_ _ Q=>Q.elim));obtain ⟨⟨t,rfl⟩,I,k2,C⟩:=J;rw [d] at k2;rw [l] at C;refine Do (Gr k2 rfl ?_ (by rw [Ew];omega) (EQ (Nat.le_of_eq (Array.size_push ..)) (by rw [Ew];omega)));have G:ks.take (j+1)=ks.take j++[k]:=by rw [List.take_add_one,q];simp
  refine Dp ⟨rfl,B _ kS _ I (.inl rfl),S3 C u.symm,n.push (.int k t),_,Hw k2 (·.push (.int k t)),?_⟩;rw [Ic,G];exact ksk_snoc p
 case done=>
  rintro s' ⟨w',l,n,e,d,p⟩;have z:IntsAre n.toList ks:=by
   have K:ks.take (0+vs.length)=ks:=Gn (by omega);rw [K] at p;exact p
  refine Do (listItems_at d rfl ?_);exact sX d l u z N y w' B h
theorem pP {l q:Addr} {Q:Value->Shared->Prop} (hl:s.heap.IsList l vs.toArray) (hlen:ks.length=vs.length) (h64:vs.length<64)
  (hw:∀ h':Heap,(∀ b o,s.heap.get? b=some o->h'.get? b=some o)->W { s with heap:=h' }) (hu:∀ s' b g,W s'->s.heap.objs.size<=b->W { s' with heap:=s'.heap.update b g })
  (hc:∀ (i:Nat) (v:Value) (k:Int) (s':Shared) (x y:Addr),vs[i]?=some v->ks[i]?=some k->W s'->s.heap.objs.size<=x->s.heap.objs.size<=y->(∃ o,s'.heap.get? x=some o)->(∃ o,s'.heap.get? y=some o)->wpAny (model prog w) A.in1.in1 (call (.ref q) [v]) (λr s''=>(∃ t,r=.int k t)/\W s''/\s''.heap.get? x=s'.heap.get? x/\s''.heap.get? y=s'.heap.get? y) (λ_ _=>False) s')
  (h:∀ s' D c,s.heap.objs.size<=D->W s'->s'.heap.get? D=some (seqObj "list" (D9 (ltK ks) vs) c)->Q (.ref D) s'):wpAny (model prog w) A (call (.builtin "sorted") [.ref l] [(Str.ofString "key",.ref q)]) Q E s:=by
 refine call_function_entry_kw kind_sorted plain_sorted entry_sorted (ksk_s1 _ _) ?_;unfold Builtin.«sorted»;refine Do (m:=checkCount "sorted" 1 1 _) (Dp ?_);refine Do (collect_list hl ?_ (by rw [Ew];omega));refine Do (Gq ?_ (by rw [Ew];omega));have hsz:((s.heap.push (seqObj "list" #[] 0)).update s.heap.objs.size (Obj.mapSeq (·++vs.toArray))).objs.size=s.heap.objs.size+1:=by
  rw [Hi,size_push']
 have hoL:(((s.heap.push (seqObj "list" #[] 0)).update s.heap.objs.size (Obj.mapSeq (·++vs.toArray))).push (seqObj "list" vs.toArray 0)).get? (s.heap.objs.size+1)=some (seqObj "list" vs.toArray 0):=by
  rw [<- hsz];exact Du _ rfl
 have keep:∀ b o,s.heap.get? b=some o->(((s.heap.push (seqObj "list" #[] 0)).update s.heap.objs.size (Obj.mapSeq (·++vs.toArray))).push (seqObj "list" vs.toArray 0)).get? b=some o:=λb o q=>by
  have hlt:b<s.heap.objs.size:=Dv q;rw [Hd _ _ _ (by rw [hsz];exact Dw (El hlt)),Fw _ _ _ _ (Dw hlt),Hd _ _ _ (Dw hlt)];exact q
 have hsz2:(((s.heap.push (seqObj "list" #[] 0)).update s.heap.objs.size (Obj.mapSeq (·++vs.toArray))).push (seqObj "list" vs.toArray 0)).objs.size=s.heap.objs.size+2:=by
  rw [size_push',hsz]
 show wpAny _ _ _ _ _ { s with heap:=((s.heap.push (seqObj "list" #[] 0)).update s.heap.objs.size (Obj.mapSeq (·++vs.toArray))).push (seqObj "list" vs.toArray 0) };rw [hsz];generalize (((s.heap.push (seqObj "list" #[] 0)).update s.heap.objs.size (Obj.mapSeq (·++vs.toArray))).push (seqObj "list" vs.toArray 0))=g at *;refine Do (Ep (wpAny_call_entry_kw slot_list_sort ⟨_,hoL,rfl⟩ entry_list_sort ?body (ksk_l1 _ _)));rw [ksk_t1];unfold ksk_tree;obtain ⟨e1,ho1⟩:∃ e1,(g.update (s.heap.objs.size+1) (Obj.mapSeq λ_=>(#[]:Array Value))).get? (s.heap.objs.size+1)=some (seqObj "list" #[] e1):=⟨_,Hw hoL λ_=>#[]⟩;refine Do (listItems_at (s:={ s with heap:=g }) hoL rfl ?_);refine Do (Gr (s:={ s with heap:=g }) hoL rfl ?_ (by rw [Dy,Ew];omega) (Fe _));refine Do (Ie ho1 rfl ?_);refine Do (IQ ?_ (by show vs.length<=_;rw [Ew];omega));refine Do (Gq ?_ (Fe _));refine Ep ?_;have hkS:((g.update (s.heap.objs.size+1) (Obj.mapSeq λ_=>(#[]:Array Value))).push (seqObj "tuple" vs.toArray 0)).objs.size=s.heap.objs.size+3:=by rw [size_push',Hi,hsz2]
 refine me (a:=s.heap.objs.size+1) (s:={ s with heap:=((g.update (s.heap.objs.size+1) (Obj.mapSeq λ_=>(#[]:Array Value))).push (seqObj "tuple" vs.toArray 0)).push (seqObj "list" #[] 0) }) (kS:=((g.update (s.heap.objs.size+1) (Obj.mapSeq λ_=>(#[]:Array Value))).push (seqObj "tuple" vs.toArray 0)).objs.size) (W:=W) (ks:=ks)
  (Du _ rfl) (Dq _ (Dq _ ho1)) (by rw [hkS];exact FW (by omega)) hlen h64 (hw _ λb o e=>?_) (λs' b gg w hb=>hu s' b gg w ?_) (λi v k s' hv hk w h1 h2=>hc i v k s' _ _ hv hk w ?_ ?_ h1 h2) λs' w' ⟨c,hc'⟩=>⟨_,rfl,Dp ⟨_,rfl,h s' _ c (EU _) w' hc'⟩⟩
 ·exact Dq _ (Dq _ (S3 (keep b o e) (Dw (El (Dv e)))))
 ·rcases hb with rfl | rfl
  ·rw [hkS];omega
  ·omega
 ·rw [hkS];omega
 ·omega
end
end L3
namespace L3
open PySem PySem.Spec PyProof.Rows L2
theorem bv {a b:Nat} {c:Value} (l:List Value) (h:TriplesOk l):TriplesOk (l++[rawInt a,rawInt b,c]):=by
 fun_induction TriplesOk l with
 | case1=>exact trivial
 | case2 _ _ _ _ _ rest ih=>exact ih h
 | case3=>exact h.elim
theorem fm {pos:Pos} {a b:Nat} {c cv:Value} (l:List Value) (h:TriplesOk l) (e:codeAmong pos (l++[rawInt a,rawInt b,c])=some cv):codeAmong pos l=some cv\/cv=c:=by
 fun_induction TriplesOk l with
 | case1=>
  right
  simp only [Hs,codeAmong,rawInt] at e;split at e
  ·exact (EA e).symm
  ·cases e
 | case2 l1 t1 l2 t2 x rest ih=>
  simp only [List.cons_append,codeAmong] at e ⊢;split at e
  ·rename_i z;left;rw [if_pos z];exact e
  ·rename_i z;rw [if_neg z];exact ih h e
 | case3=>exact h.elim
structure LamOk (h:Heap) (H:Hp) (f:Addr) (q:Str) (ps:Arguments) (body:Expr) (sc:Scope):Prop where
 ex:∃ (pm ctv:Value) (c:Addr) (o:Obj) (vs:Array Value) (t:Tok) (u:HO),h.get? f=some { cls:=.type "function",data:=.func (PySem.W.kla_fn "<lambda>" q ps body sc [] pm (.ref c) ctv) }/\H c=some (.frz o u)/\o.data=.fields vs/\vs[1]?=some (.str q t)
section
variable {X:Cx} {pins:List (Addr×Obj)} {σ:L2.St} {H:Hp} {s:Shared} {E:Value->Shared->Prop}
theorem qD {c P:Addr} {q:Str} {Q:Value->Shared->Prop} (I:L2.Inv X pins σ H s) (U:args.defaults=[]) (Z:args.kw_defaults=[]) (a:∀ x∈scope.names,x.2≠.free) (i:X.env.code=.ref c) (hC:PySem.W.codeHdIn X.K c P=true) (hq:X.env.qual ++ "<lambda>" = q) (D:H P=some (.tbl #[.str q 0]))
  (h:∀ f H' s',L2.Inv X pins σ H' s'->(∀ b u,H b=some u->H' b=some u)->(∀ b,H b=none->b<s.heap.objs.size->H' b=none)->H' f=none->s.heap.objs.size<=f->(∀ b o,s.heap.get? b=some o->H b=none->s'.heap.get? b=some o)->LamOk s'.heap H' f q args body scope->Q (.ref f) s') :
  wpAny (model X.prog X.w) X.A (eval (.Lambda args body scope pos) X.env) Q E s:=by
 rw [arm_eval_Lambda];have ed:defaultsOf args X.env=([],[]):=by
  rw [defaultsOf_eq,U,Z];rfl
 rw [ed];refine Do (Dp ?_);refine Do (Ep (Dp ?_));rw [hq];obtain ⟨tb,eP,M,hc⟩:=I.hok P _ D;have kp:=I.bk;have nb:∀ b o,X.base.get? b=some o->b≠P:=λb o e z=>by
  have:=(I.bs b o e).2;rw [z,D] at this;cases this
 have hg:=I.ok.mod.glob.keeps kp;have gP:mainGlobals≠P:=by
  obtain ⟨o,es,ep,e,_⟩:=I.ok.mod.glob;exact nb _ _ e
 have hb:s.heap.BuiltinsAt X.mg P:=by
  obtain ⟨bm,ob,h1,h2,O,h4,h5,h6⟩:=I.ok.mod.bm;refine ⟨bm,ob,h1,h2,λz=>?_,nb _ _ O,kp _ _ O,h4,h5,h6⟩;obtain ⟨o,es,ep,e,d,_⟩:=I.ok.mod.glob;rw [<- z,O] at e;cases e;rw [h6] at d;cases d
 have CH:=PySem.W.codeHd_of_K (I.kIn) hC;cases W:codeAmong pos tb.toList with
 | some V=>
  refine PySem.W.kla_makeFunctionHit (closureFor_none a) I.ok.glob hg i CH eP M W hb λj h' tk k sz=>?_;obtain ⟨p,o,vs,t,K,rfl,ow,N,L,e4⟩:=hc pos V W;have R:K=q:=by
   have:(#[Value.str q 0]:Array Value)[0]?=some (.str q 0):=rfl;rw [this] at e4;cases e4;rfl
  subst R;have r:∀ b o,s.heap.get? b=some o->(h'.push { cls:=.type "function",data:=.func (PySem.W.kla_fn "<lambda>" K args body scope [] ((X.mg "__name__").getD .none) (.ref p) j) }).get? b=some o:=λb o e=>Dq _ (k b o e);refine h _ H _ (I.kept r) (λ_ _ e=>e) (λ_ e _=>e) (I.hok.fresh sz) sz (λb o e _=>r b o e) ⟨_,j,p,o,vs,t,_,Du _ rfl,ow,N,L⟩
 | none=>
  refine PySem.W.kla_makeFunction (closureFor_none a) I.ok.glob hg i CH eP M W gP hb λp j h' tk hx m G J w=>?_;have v:=I.hok.fresh m;obtain ⟨c2,A,vs,t,ec,e1,N,L⟩:=J;cases ec;have C:=EQ m (FV G);generalize S:(PySem.W.kla_obj "<lambda>" q args body scope [] ((X.mg "__name__").getD .none) p j)=ob;have r:∀ b o,b≠P->s.heap.get? b=some o->(h'.push ob).get? b=some o:=λb o n e=>Dq _ (hx b o n e);have Y:∀ b,H b=none->b≠P:=λb e z=>by rw [z,D] at e;cases e
  have un:Un X.fs [] H (upd H p (.frz A (.own P))) s.heap (h'.push ob):=by
   refine ⟨λb o e n _ _=>r b o (Y b n) e,λb o e n _ _=>⟨o.slots,r b o (Y b n) e⟩,λb o e n _=>?_,λb o e _=>?_,λb xs e=>?_,λb o u e=>?_,λb ps e=>⟨#[],?_⟩⟩
   ·rw [a8 (Dw (Eg (Dv e) m))];exact n
   ·by_cases z:b=P
    ·subst z;exact ⟨_,Dq _ w⟩
    ·exact ⟨o,r b o z e⟩
   ·rw [a8 (b9 e v)];exact e
   ·rw [a8 (b9 e v)];exact e
   ·rw [a8 (b9 e v),e];simp
  have T:HOk X.prog X.w (upd H p (.frz A (.own P))) (h'.push ob):=λb u e=>by
   by_cases B:b=p
   ·subst B;rw [b8] at e;cases e;exact ⟨Dq _ e1,A,Dq _ e1⟩
   ·rw [a8 B] at e;by_cases F:b=P
    ·subst F;rw [D] at e;cases e;refine ⟨_,Dq _ w,by rw [Array.toList_append];exact bv _ M,λpos' V z=>?_⟩;rw [Array.toList_append] at z;rcases fm _ M z with z | z
     ·obtain ⟨d,o,ws,t',K,g1,g2,g4,g5,g6⟩:=hc pos' V z;exact ⟨d,o,ws,t',K,g1,by rw [a8 (b9 g2 v)];exact g2,g4,g5,g6⟩
     ·exact ⟨p,A,vs,t,q,z,b8,N,L,rfl⟩
    ·refine (I.hok b u e).stay (λd o hd g=>r d o (λy=>?_) g) (λd g=>by rw [a8 (b9 g v)];exact g) (λd xs g=>by rw [a8 (b9 g v)];exact g) λd o u g=>by rw [a8 (b9 g v)];exact g
     rcases hd with rfl | hd
     ·exact F y
     ·rw [y,D] at hd;cases hd
  refine h _ _ _ (I.un un T) (λb u e=>by rw [a8 (b9 e v)];exact e) (λb e l=>by rw [a8 (Dw (Eg l m))];exact e) (by rw [a8 (FW G)];exact I.hok.fresh C) C (λb o e n=>r b o (Y b n) e) ⟨_,j,p,A,vs,t,_,by rw [<- S];exact Du _ rfl,b8,N,L⟩
end
def aY (a:Pos):Arguments:=⟨[],[⟨"part",none,a⟩],none,[],[],none,[]⟩
def W7 (a b c:Pos) (n:Nat):Expr:=.Subscript (.Name "part" a) (.Constant (.int 0) n b) c
section
variable {X:Cx} {pins:List (Addr×Obj)} {σ:L2.St} {H:Hp} {s:Shared}
theorem ph {q:Str} {ap p1 p2 p3:Pos} {n:Nat} {sc:Scope} {k:Int} {xs:List V} {j:Nat} (I:L2.Inv X pins σ H s) (L:LamOk s.heap H f q (aY ap) (W7 p1 p2 p3 n) sc) (hf:H f=none) (nf:f∉frs X.stack) (S:FnScope ["part"] ["part"] sc) (hv:sc.names.lookup ("part" : Str)=some .local)
  (hx:SqT X.K H a (.int k :: xs)) (hr:Room false (j+1) X.A.in1.in1) (hfr:X.A.in1.in1.frames=X.A.frames) :
  wpAny (model X.prog X.w) X.A.in1.in1 (call (.ref f) [.ref a]) (λr s'=>(∃ t,r=.int k t)/\L2.Inv X pins σ H s'/\LamOk s'.heap H f q (aY ap) (W7 p1 p2 p3 n) sc/\∀ b o,s.heap.get? b=some o->H b=none->b∉frs X.stack->s'.heap.get? b=some o) (λ_ _=>False) s:=by
 obtain ⟨pm,ctv,c,oc,vc,tc,uc,ho,hc1,hc2,hc3⟩:=L.ex;have hcd':s.heap.CodeRec (.ref c) q:=⟨c,oc,vc,tc,rfl,(I.hok c _ hc1).1,hc2,hc3⟩;have e0:Env0 X.prog X.w X.K X.mg X.base X.A.in1.in1 X.stack s H:=by
  have z:=I.env0;exact ⟨by rw [hfr];exact z.frames,z.mod,z.bs,z.bsz,z.funs,z.frf,z.hok,z.bare⟩
 have KX:=e0.mod.kin.keeps λb o e=>(e0.bs b o e).1;have lim:=e0.mod.nolimit.keeps λb o e=>(e0.bs b o e).1;have main:codeAny (model X.prog X.w) X.A.in1.in1 (.call (.ref f) ⟨[.ref a],[]⟩) (CR CX0 X.stack X.prog X.w H s (λv H'=>v=.int k/\H'=H) E0) s:=by
  have hkind:∀ y∈[(("part" : Str),Value.ref a)],sc.names.lookup y.1=some .local\/(sc.names.lookup y.1=some .cell/\((cellsFrom (s.heap.objs.size+1) sc.names []).lookup y.1).isSome=true):=λy hy=>by
   rw [EJ.mp hy];exact .inl hv
  refine PySem.W.kla_callFunE hr.depth ho rfl S.co S.gen rfl hcd' ?_;have eb:bindArgs (PySem.W.kla_fn "<lambda>" q (aY ap) (W7 p1 p2 p3 n) sc [] pm (.ref c) ctv) ⟨[.ref a],[]⟩=pure [(("part" : Str),Value.ref a)]:=by
   first | rfl | kernel_rfl
  rw [eb];refine Dp ?_;refine HG S.kind hkind λenv he s1 y=>?_;subst he;refine ⟨lim.keeps y.toInCall.keep,PySem.W.kla_codeExpr ?_⟩;have J:L2.Inv (X0 CX0 X.prog X.w X.K X.mg X.base ["part"] q sc f (.ref c) X.A.in1.in1 X.stack s H E0) [] (start ["part"] [.ref a]) H s1:=bh S (λ_=>hr.hd rfl) e0 rfl (.cons rfl .nil) y;have pe:PE (X0 CX0 X.prog X.w X.K X.mg X.base ["part"] q sc f (.ref c) X.A.in1.in1 X.stack s H E0) (W7 p1 p2 p3 n) _:=vS pN (fh (i:=0) rfl (.inl hv)) nE (λ_ _=>rfl);refine Ef (pe [] s1 _ H (λv H'=>v=.int k/\H'=H) J ?_) (λv s' hq=>?_) λe s' hq=>hq
  ·refine ⟨_,rfl,?_⟩;exact ⟨a,_,((0:Nat):Int),_,rfl,rfl,hx,cX rfl,rfl,rfl⟩
  ·obtain ⟨w,H',J',rw_,hw⟩:=hq;exact ⟨w,H',J'.os,J'.bare,J'.base,J'.hok,rw_,hw⟩
 refine Gc (Ff main λr s' hq=>?_);cases r with
 | error e=>exact hq.elim
 | ok fl=>
  cases fl with
  | ret u=>
   obtain ⟨v,H',os,bare,un,hok,rv,rfl,rfl⟩:=hq;obtain ⟨t,rfl⟩:=rv;have kk:=λb o e nn hb=>un.keep b o e nn hb (by simp);refine ⟨⟨t,rfl⟩,I.call' os un hok bare (λb z=>absurd z (by simp)),?_,kk⟩;exact ⟨pm,ctv,c,oc,vc,tc,uc,kk f _ ho hf nf,hc1,hc2,hc3⟩
  | next=>exact hq.elim
  | brk=>exact hq.elim
  | cont=>exact hq.elim
end
section
variable {X:Cx} {cl:Nat->Addr} {xe:Addr->Hp->Prop} {pins:List (Addr×Obj)} {σ:L2.St} {H:Hp} {s:Shared} {μ:Mp}
theorem nc:∀ {ds:List D} {xs:List V} {vs:List Value} {ks:List Int} {i:Nat} {v:Value} {k:Int},F6 ds=some ks->RDs X.K μ H ds xs->Vals xs vs->vs[i]?=some v->ks[i]?=some k->∃ b ys,v=.ref b/\SqT X.K H b (.int k :: ys)
 | [],_,_,_,_,_,_,e,.nil,.nil,e1,_=>by simp at e1
 | d :: ds,_,_,ks,i,v,k,e,.cons rd rds,.cons rv rvs,e1,e2=>by
  cases rd with
  | tup ta ra=>
   cases ra with
   | nil=>cases e
   | cons r1 r2=>
    cases r1 with
    | int k'=>
     unfold F6 at e;cases q:F6 ds with
     | none=>rw [q] at e;cases e
     | some js=>
      rw [q] at e;cases e;cases i with
      | zero=>
       simp at e1 e2;subst e1;subst e2;cases rv;exact ⟨_,_,rfl,ta.sq⟩
      | succ i=>
       simp at e1 e2;exact nc q rds rvs e1 e2
    | _=>cases e
  | _=>cases e
theorem sN (I:L2.Inv X pins σ H s) (h:H a=none) (i:X.s₀.heap.objs.size<=a) (r:a≠X.env.locals) (k:∀ x c,X.env.cells.lookup x=some c->c≠a) (l:∀ p∈X.pn++pins,p.1≠a) (g:ObjOk X.prog X.w (upd H a o) s.heap a o):L2.Inv X pins σ (upd H a o) s:=by
 have d:∀ b u,H b=some u->b≠a:=λb u e z=>by rw [z,h] at e;cases e
 have st:HOk X.prog X.w (upd H a o) s.heap:=λb u e=>by
  by_cases f:b=a
  ·subst f;rw [b8] at e;cases e;exact g
  ·rw [a8 f] at e;exact (I.hok b u e).stay (λ_ _ _ q=>q) (λc q=>by rw [a8 (d _ _ q)];exact q) (λc xs q=>by rw [a8 (d _ _ q)];exact q) λc o u q=>by rw [a8 (d _ _ q)];exact q
 have z:=I.step (d':=s.drawn) (t':=s.toks) (λb f=>by rw [EJ.mp f];exact ⟨.inr i,r,k,l⟩) (λb o _ _ _ e _=>e) (λb o _ _ _ e _=>⟨o.slots,e⟩) (λb o f _ n=>by rw [a8 (λz=>f (by simp [z]))];exact n) (λb o _ e=>⟨o,e⟩)
  (λb xs e=>by rw [a8 (d _ _ e)];exact e) (λb o u e=>by rw [a8 (d _ _ e)];exact e) (λb ps e=>⟨#[],by rw [a8 (d _ _ e),e];simp⟩) (λm j=>j) st I.bare
 exact z
theorem O7 {h:Shared} (I:L2.Inv X pins σ H s) {b:Addr} (f:s.heap.objs.size<=b):H b=none/\X.s₀.heap.objs.size<=b/\b≠X.env.locals/\(∀ x c,X.env.cells.lookup x=some c->c≠b)/\(∀ p∈X.pn++pins,p.1≠b)/\b∉frs X.stack:=by
 have d:∀ c o,s.heap.get? c=some o->c≠b:=λc o e=>Dw (Eg (Dv e) f);refine ⟨I.hok.fresh f,EQ I.sz f,?_,λx c e=>?_,λp g=>?_,λz=>?_⟩
 ·obtain ⟨m,⟨o,_,_,a,_⟩,_⟩:=I.loc;exact (d _ o a).symm
 ·obtain ⟨v,o,a,_⟩:=I.cell x c e;exact d c o a
 ·exact d _ _ (I.pin p g).1
 ·obtain ⟨_,o,a,_⟩:=I.stack.mem z;exact d b o a rfl
def D4 (d:D):M D:=match d with
 | .lst ds=>(match F6 ds with
  | some a=>if a.length<64 then ret (.lst (o5 .non (sPl a) ds)) else bad
  | none=>bad)
 | _=>bad
theorem jj {p pos kp lpos ap u1 u2 u3:Pos} {n:Nat} {sc:Scope} {k:Nat} (hg:Gl X "sorted") (hm:X.mg "sorted" = none) (hc:∃ c,X.env.code=.ref c/\PySem.W.codeHdIn X.K c (cl 1000000)=true/\uK X.K cl/\X.env.qual ++ "<lambda>" = hF X.K (cl 1000000)) (hr:Room false (k+3) X.A)
  (S:FnScope ["part"] ["part"] sc) (hv:sc.names.lookup ("part" : Str)=some .local) (he:PE X e (tD X.K cl xe f)) (hn:noStar e=true) :
  PE X (.Call (.Name "sorted" p) [e] [⟨some "key",.Lambda (aY ap) (W7 u1 u2 u3 n) sc lpos,kp⟩] pos) (tD X.K cl xe λρ=>bind (f ρ) D4):=by
 intro pins s σ H Q I ⟨μ,S0,ρ,eo,rp,pp⟩;obtain ⟨c,hc1,hc2,hc3,hc4⟩:=hc;refine EI (w8 I hg hm (by rfl) ?_ (by decide) (by decide));refine callWith_kw ?_ (by rw [c9 hn];rfl) (by rw [c9 hn];rfl) rfl rfl;rw [c9 hn];refine Fm (thn (he pins s σ H (λv H1=>∃ μ1 S1 d,RD X.K μ1 H1 d v/\Rep X.K cl μ1 S1 H1/\Post X.K cl xe μ1 H1 (D4 d S1) λr _ μ' H'=>∀ v,RD X.K μ' H' r v->Q v H') I ⟨μ,S0,ρ,eo,rp,pp.bind.imp λd S1 μ1 H1 l1 r1 p1 v rv=>⟨μ1,S1,d,rv,r1,p1⟩⟩) λu s1 ⟨v,H1,I1,ru,μ1,S1,d,rd,r1,p1⟩=>?_);refine Fq ?_;cases rd with
 | lst ha rds=>
  rename_i a xs ds;unfold D4 at p1;dsimp only at p1;cases e2:F6 ds with
  | none=>rw [e2] at p1;exact p1.elim
  | some ks=>
   rw [e2] at p1;obtain ⟨hz,p1⟩:=Post.guard p1;cases ru;refine kws_cons ?_;obtain ⟨t1,t2,t3⟩:=r1.tb hc3;refine qD I1 rfl rfl S.nofree hc1 hc2 hc4 t3 λf H2 s2 I2 sub2 fr2 hf2 szf kp2 L=>?_;refine kws_nil ?_;have l2:Lat μ1 H1 μ1 H2:=⟨λ_ _ e=>e,λb o e _=>sub2 b o e,λ_ m=>.inl m,rfl⟩;have r2:=r1.keep l2 λb m=>by obtain ⟨w,ew⟩:=r1.tracked m;rw [ew];exact sub2 b w ew
   have rds2:=rds.later l2;have ha2:LstAt μ1 H2 a xs:=⟨sub2 _ _ ha.1,ha.2⟩;have hl:=aN e2;obtain ⟨its,rv,pl,hsz⟩:=I2.list (ha2.sq);have lv:its.length=ks.length:=by rw [<- rv.length,<- rds.length,hl]
   have bd:∀ i∈sPl ks,i<ds.length:=λi m=>by rw [<- hl];exact gb m
   have fl:f<s2.heap.objs.size:=by obtain ⟨_,_,_,_,_,_,_,z,_⟩:=L.ex;exact Dv z
   have nfs:=(O7 (h:=s2) I1 szf).2.2.2.2.2;refine pP (W:=λs'=>L2.Inv X pins σ H2 s'/\LamOk s'.heap H2 f (hF X.K (cl 1000000)) (aY ap) (W7 u1 u2 u3 n) sc) pl.isList lv.symm (by omega) (λh' kk=>⟨I2.kept kk,?_⟩) (λs' b g ⟨J,L'⟩ hb=>⟨?_,?_⟩) (λi v k0 s' y z hv' hk' ⟨J,L'⟩ hy hz' ⟨oy,ey⟩ ⟨oz,ez⟩=>?_) λs' D c0 hD ⟨J,L'⟩ eD=>?_
   ·obtain ⟨pm,ctv,c',o,vs,t,w,z1,z2⟩:=L.ex;exact ⟨pm,ctv,c',o,vs,t,w,kk _ _ z1,z2⟩
   ·obtain ⟨n1,n2,n3,n4,n5,_⟩:=O7 (h:=s2) I2 hb;exact J.turned (λb' o nb e=>S3 e nb) n1 n3.symm.symm (.inr n2) n4 n5
   ·obtain ⟨pm,ctv,c',o,vs,t,w,z1,z2⟩:=L'.ex;exact ⟨pm,ctv,c',o,vs,t,w,S3 z1 (Dw (Eg fl hb)),z2⟩
   ·obtain ⟨b,ys,rfl,hb⟩:=nc e2 rds2 rv hv' hk';refine Ef (ph J L' hf2 nfs S hv hb (hr.in1.in1) rfl) (λr s'' ⟨q1,q2,q3,q4⟩=>⟨q1,⟨q2,q3⟩,?_,?_⟩) λ_ _ z=>z
    ·obtain ⟨n1,_,_,_,_,n6⟩:=O7 (h:=s2) I2 hy;rw [ey];exact q4 y oy ey n1 n6
    ·obtain ⟨n1,_,_,_,_,n6⟩:=O7 (h:=s2) I2 hz';rw [ez];exact q4 z oz ez n1 n6
   ·obtain ⟨n1,n2,n3,n4,n5,_⟩:=O7 (h:=s2) I2 hD;obtain ⟨l,rp2,rd2⟩:=A1 r2 (cJ rds2 bd) n1;refine ⟨.ref D,_,sN J n1 n2 n3 n4 n5 ?_,rfl,p1 μ1 _ (l2.trans l) rp2 _ rd2⟩;refine ⟨by unfold o5;rw [Dr,P3,Ew];omega,o5 .none (sPl ks) its,c0,T4 rv (λi m=>by rw [<- rds.length];exact bd i m),?_⟩;rw [eD];unfold D9 o5;rw [lv]
 | _=>exact False.elim p1
end
def oR (b:Arguments):Bool:=b.posonlyargs.isEmpty&&b.vararg.isNone&&b.kwonlyargs.isEmpty&&b.kw_defaults.isEmpty&&b.kwarg.isNone&&b.defaults.isEmpty&&(match b.args with
 | [a]=>decide (a.arg = "part")&&a.annotation.isNone
 | _=>false)
theorem lu (h:oR as=true):∃ b,as=aY b:=by
 obtain ⟨i,c,j,e,g,k,d⟩:=as;simp only [oR,Dt,List.isEmpty_iff,Ey] at h;obtain ⟨⟨⟨⟨⟨⟨rfl,rfl⟩,rfl⟩,rfl⟩,rfl⟩,rfl⟩,h⟩:=h;cases c with
 | nil=>cases h
 | cons a r=>
  cases r with
  | nil=>
   obtain ⟨x,f,b⟩:=a;simp at h;obtain ⟨rfl,rfl⟩:=h;exact ⟨b,rfl⟩
  | cons _ _=>cases h
def qA (e:Expr):Bool:=match e with
 | .Subscript a b _=>(match a with
  | .Name x _=>decide (x = "part")
  | _=>false)&&(match b with
  | .Constant c _ _=>(match c with
   | .int i=>decide (i=0)
   | _=>false)
  | _=>false)
 | _=>false
theorem mx (h:qA e=true):∃ u1 u2 u3 n,e=W7 u1 u2 u3 n:=by
 cases e with
 | Subscript a b u3=>
  simp only [qA,Dt] at h;obtain ⟨h1,h2⟩:=h;cases a with
  | Name x u1=>
   obtain rfl:x = "part":=Fi h1;cases b with
   | Constant c n u2=>
    cases c with
    | int i=>
     obtain rfl:i=0:=Fi h2;exact ⟨u1,u2,u3,n,rfl⟩
    | _=>cases h2
   | _=>cases h2
  | _=>cases h1
 | _=>cases h
def lV (a:Scope):Bool:=Y0 ⟨["part"],["part"],a,[],[]⟩&&decide (a.names.lookup ("part" : Str)=some .local)
def yO (d:List Keyword):Bool:=match d with
 | [k]=>decide (k.arg=some "key")&&(match k.value with
  | .Lambda a b c _=>oR a&&qA b&&lV c
  | _=>false)
 | _=>false
theorem rA (h:yO kw=true):∃ ap u1 u2 u3 n sc lpos kp,kw=[⟨some "key",.Lambda (aY ap) (W7 u1 u2 u3 n) sc lpos,kp⟩]/\lV sc=true:=by
 cases kw with
 | nil=>cases h
 | cons k r=>
  cases r with
  | cons _ _=>cases h
  | nil=>
   obtain ⟨a,v,kp⟩:=k;simp only [yO,Dt,Eh] at h;obtain ⟨rfl,h⟩:=h;cases v with
   | Lambda as b sc lpos=>
    simp at h;obtain ⟨⟨h1,h2⟩,h3⟩:=h;obtain ⟨ap,rfl⟩:=lu h1;obtain ⟨u1,u2,u3,n,rfl⟩:=mx h2;exact ⟨ap,u1,u2,u3,n,sc,lpos,kp,rfl,h3⟩
   | _=>cases h
def rQ:RuE where
 is Γ lc e:=match e with
  | .Call (.Name x _) [a] m _=>decide (x = "sorted")&&yO m&&(Γ.gl.lookup ("sorted" : Str)).isNone&&glB lc.sc "sorted" && !quiet lc&&noStar a&&lc.fr&&lc.mu.contains ("lam" : Str)
  | _=>false
 run r _ _ lc e ρ:=match e with
  | .Call (.Name _ _) [a] _ _=>bind (r.e lc a ρ) D4
  | _=>bad
 ok {T k r Γ C lc X} e R TX h hi:=by
  split at hi
  ·simp only [Dt,Eh,Ey,Fa] at hi;obtain ⟨⟨⟨⟨⟨⟨⟨rfl,i⟩,c⟩,f⟩,p⟩,l⟩,s⟩,g⟩:=hi;obtain ⟨z,v,A,y,n,t,b,u,rfl,hs⟩:=rA i;simp only [lV,Dt,Eh] at hs;have w:=TX.k3;obtain ⟨j,rfl⟩:∃ j,k=j+3:=⟨k-3,by omega⟩;exact jj (h.gl f) (TX.none h (by decide) c) (by rw [h.K];exact h.code s g) (h.room0 p) (O2 hs.1) hs.2 (R.ex h _) l
  ·cases hi
 runK q _ _ lc e ρ _ k:=match e with
  | .Call (.Name _ _) [a] _ _=>q.e lc a ρ λd=>bind (D4 d) k
  | _=>bad
 eq e ρ _ k h:=by
  split
  ·simp only [h.e,bind_assoc]
  ·first
   | rfl
   | (rename_i o;split;exact (o _ _ _ _ _ rfl).elim;rfl)
def xr (K:PySem.W.Frag) (f P:Addr):Bool:=match Q6 K f with
 | some (.ref c)=>PySem.W.codeHdIn K c P
 | _=>false
theorem tV {K:PySem.W.Frag} {f P:Addr} (h:xr K f P=true):∃ c,Q6 K f=some (.ref c)/\PySem.W.codeHdIn K c P=true:=by
 unfold xr at h;grind
theorem uC {P:Program} {w:World} {K:PySem.W.Frag} {mg mb:Str->Option Value} {CX:CXT} {k:Nat} {fa a tA c:Addr} {fd:FuncData} {x q:Str} {sp:Sp} {s₁:Shared} {vs:List Value} {ns:List Int}
  (KX:K.In s₁.heap) (hns:s₁.heap.Ns mainGlobals mg) (hb:s₁.heap.Ns builtinsNs mb) (hbb:∀ x:Str,x ≠ "__name__"->mb x=bootBuiltins x) (hlim:s₁.heap.NoLimit) (hbm:Bi mg s₁.heap) (hg:s₁.gens=#[])
  (ha:s₁.heap.get? a=some { cls:=.type "list",data:=.seq vs.toArray }) (hi:IntsAre vs ns) (hl:ns.length<=sizeLine) (hr:Room false k callerA)
  (ht:s₁.heap.get? tA=some (PySem.W.tabObj #[])) (hC:PySem.W.codeHdIn K c tA=true) (hK:K.lookup tA=none)
  (F:∀ base:Heap,K.In base->base.Ns mainGlobals mg->FnOk P w K mg base CX k fa fd [x] sp) (hbind:∀ (s:Shared) (u:Value),BindsTo s fd ⟨[u],[]⟩ [(x,u)])
  (hsp:∀ H:Hp,H tA=some (.tbl #[.str q 0])->SqL K H a (ns.map V.int)->sp [.ref a] H (λv _=>v=.bl true) λ_ _ _=>False)
  (hCX:∀ H e s',CX [] H s₁ (λ_ _ _=>False) e s'->False) :
  codeAny (model P w) callerA (.call (.ref fa) ⟨[.ref a],[]⟩) (λr s'=>r=.ok (.ret (.bool true))/\OldK s₁.heap s'.heap/\s'.os=s₁.os/\AllBare s'.gens) s₁:=by
 have rv:=L2.vals_ints hi;have nT:a≠tA:=λz=>by rw [z,ht] at ha;cases ha
 obtain ⟨H,hT,hA,hO,hok,hS⟩:∃ H:Hp,H tA=some (.tbl #[.str q 0])/\(∀ b u,H b=some u->b=tA\/b=a/\u=.frz { cls:=.type "list",data:=.seq vs.toArray } (.lst (ns.map V.int))/\K.lookup a=none)/\True/\HOk P w H s₁.heap/\SqL K H a (ns.map V.int):=by
  have tok:∀ H:Hp,ObjOk P w H s₁.heap tA (.tbl #[.str q 0]):=λH=>⟨#[],ht,trivial,λpos cv z=>by cases z⟩;cases hk:K.lookup a with
  | some o=>
   have e:=KX a o hk;rw [ha] at e;cases e;refine ⟨λb=>if b=tA then some (.tbl #[.str q 0]) else none,if_pos rfl,λb u z=>?_,trivial,λb u z=>?_,.inr ⟨_,vs.toArray,_,hk,rfl,rfl,rfl,by rw [Dy,hi.length];exact hl,by simpa using rv⟩⟩
   ·by_cases hb:b=tA
    ·exact .inl hb
    ·have z':=(if_neg hb).symm.trans z;cases z'
   ·by_cases hb:b=tA
    ·subst hb;have z':=(if_pos rfl).symm.trans z;cases z';exact tok _
    ·have z':=(if_neg hb).symm.trans z;cases z'
  | none=>
   refine ⟨λb=>if b=tA then some (.tbl #[.str q 0]) else if b=a then some (.frz { cls:=.type "list",data:=.seq vs.toArray } (.lst (ns.map V.int))) else none,if_pos rfl,λb u z=>?_,trivial,λb u z=>?_,.inl (.inr ⟨_,(if_neg nT).trans (if_pos rfl)⟩)⟩
   ·by_cases hb:b=tA
    ·exact .inl hb
    ·have z:=(if_neg hb).symm.trans z;by_cases hb2:b=a
     ·have z':=(if_pos hb2).symm.trans z;cases z';exact .inr ⟨hb2,rfl,rfl⟩
     ·have z':=(if_neg hb2).symm.trans z;cases z'
   ·by_cases hb:b=tA
    ·subst hb;have z':=(if_pos rfl).symm.trans z;cases z';exact tok _
    ·have z:=(if_neg hb).symm.trans z;by_cases hb2:b=a
     ·have z':=(if_pos hb2).symm.trans z;cases z';subst hb2;exact ⟨ha,by rw [Dr];exact hl,vs,_,rv,ha⟩
     ·have z':=(if_neg hb2).symm.trans z;cases z'
 have un_of:∀ {b:Addr} {o:Obj},s₁.heap.get? b=some o->(∀ ps,o.data≠.fields ps)->(∀ xs n,o.data≠.seq xs n)->H b=none:=λ{b o} e h1 h2=>by
  cases z:H b with
  | none=>rfl
  | some u=>
   rcases hA b u z with rfl | ⟨rfl,_⟩
   ·rw [ht] at e;cases e;exact absurd rfl (h1 _)
   ·rw [ha] at e;cases e;exact absurd rfl (h2 _ _)
 have nsK:∀ {b:Addr} {m:Str->Option Value},s₁.heap.Ns b m->(eI s₁.heap H).Ns b m:=λ{b m} ⟨o,es,ep,e,d,r⟩=>⟨o,es,ep,ag e (un_of e (λps z=>by rw [d] at z;cases z) λxs n z=>by rw [d] at z;cases z),d,r⟩;have hKb:K.In (eI s₁.heap H):=λb o e=>ag (KX b o e) (by
  cases z:H b with
  | none=>rfl
  | some u=>
   rcases hA b u z with rfl | ⟨rfl,_,z2⟩
   ·rw [hK] at e;cases e
   ·rw [z2] at e;cases e)
 have hM:Mod K mg (eI s₁.heap H):=⟨hKb,nsK hns,⟨mb,nsK hb,hbb⟩,let ⟨mc,h1,h2⟩:=hlim;⟨mc,nsK h1,h2⟩,let ⟨bm,ob,h1,h2,h3,h4,h5,h6⟩:=hbm;⟨bm,ob,h1,h2,ag h3 (un_of h3 (λps z=>by rw [h6] at z;cases z) λxs n z=>by rw [h6] at z;cases z),h4,h5,h6⟩⟩;have e0:Env0 P w K mg (eI s₁.heap H) callerA [] s₁ H:=⟨rfl,hM,λb o e=>rq e,Nat.le_of_eq (kU _ _),trivial,λb hb=>absurd (show b∈([]:List Addr) from hb) (by simp),hok,.of_eq hg⟩;refine Ff ((F _ hKb (nsK hns)).run callerA [] s₁ H ⟨[.ref a],[]⟩ [.ref a] [.ref a] _ _ hr.any e0 (hbind s₁ (.ref a)) (.cons rfl .nil) (hsp H hT hS)) λr s' h=>?_;cases r with
 | error e=>exact (hCX H e s' h).elim
 | ok fl=>
  cases fl with
  | next=>exact False.elim h
  | brk=>exact False.elim h
  | cont=>exact False.elim h
  | ret u=>
   obtain ⟨v,H',os,bare,un,hok',r',q'⟩:=h;have q2:v=.bl true:=q';subst q2;obtain rfl:u=Value.bool true:=r';refine ⟨rfl,⟨λb o e=>?_,λb o e=>un.there b o e (by simp)⟩,os,bare⟩;cases z:H b with
   | none=>exact .inl (un.keep b o e z (by intro y;exact absurd (show b∈([]:List Addr) from y) (by simp)) (by simp))
   | some u=>
    rcases hA b u z with rfl | ⟨rfl,rfl,_⟩
    ·rw [hT] at z;obtain ⟨more,z2⟩:=un.tbls _ _ hT;obtain ⟨tb,e2,_⟩:=hok' _ _ z2;rw [ht] at e;cases e;obtain ⟨o,vs',file,tf,flags,tg,inF,text,tt,g1,g2,g3,g4,_⟩:=PySem.W.codeHd_of_K KX hC;exact .inr (.inl ⟨⟨c,o,vs',g1,g2,g3,g4⟩,rfl,#[],tb,rfl,by rw [e2];simp⟩)
    ·have z2:=un.frzs _ _ _ z;obtain ⟨e1,_⟩:=hok _ _ z;obtain ⟨e2,_⟩:=hok' _ _ z2;rw [e] at e1;cases e1;exact .inl e2
theorem walk_tab {l:PySem.W.OpenLaw} {n k:Nat} {q:Program} {g:List Str} {R:(Str->Option Value)->Heap->Prop} {C:World->Heap->Prop} {d:DefRec} {K:Params->PySem.W.Frag} {p:Addr} {x:Str}
  (M:l.most=some n) (A:n<=sizeLine) (B:d.params.defaults=[]) (S:Room false k callerA)
  (L:∀ (w:World) (h:Heap),C w h->(K w.params).In h/\h.get? p=some (PySem.W.tabObj #[]))
  (F:∀ (w:World) (j:Str->Option Value) (v:Addr) (h:Heap),(K w.params).In h->h.Ns mainGlobals j->j d.name=some (.ref v) ->
   ∃ (fd:FuncData) (c:Addr) (cl:Nat->Addr),PySem.W.codeHdIn (K w.params) c p=true/\(K w.params).lookup p=none/\cl 1000000=p/\(∀ (s:Shared) (u:Value),BindsTo s fd ⟨[u],[]⟩ [(x,u)]) /\
    ∀ b:Heap,(K w.params).In b->b.Ns mainGlobals j->FnOk l.prog w (K w.params) j b CX0 k v fd [x] (cV (K w.params) cl)) :
  PySem.W.WalkO q g R C l.row.toRowW d [] (λf vs=>PySem.call f vs):=by
 refine Att.attach_call M B λw I E j Z v o pm cd Q a vs ns G Y ho hd X y m i r P=>?_;obtain ⟨D,N⟩:=L w _ Y;obtain ⟨fd,c,cl,T,J,t,O,U⟩:=F w j v _ D G.T.g y;refine uC (q:=hF (K w.params) p) D G.T.g G.T.b G.T.builtins G.T.nolimit G.T.bmain P m i (EQ r A) S N T J U O (λH W V=>⟨⟨a,ns,rfl,V,λ_=>rfl⟩,λ_=>?_⟩) λH e s' z=>z;rw [t];exact ⟨by simp,by simp,by unfold tbO;rw [t];exact W⟩
section
variable {X:Cx} {cl:Nat->Addr} {xe:Addr->Hp->Prop}
def ext2D (x:D) (ds:List D):M D:=match x,ds with
 | .ref n,[.ref q]=>λS=>match S[q]? with
  | some (.lst ys)=>(match S[n]? with
   | some (.lst es)=>if es.length+ys.length<=sizeLine then .ok .non (S.set n (.lst (es++ys))) else .bad
   | _=>.bad)
  | _=>.bad
 | x,ds=>extD x ds
theorem kZ:wX X.K cl xe (λx vs H Q=>∃ l b xs zs,x=.ref l/\vs=[.ref b]/\H l=some (.lst xs)/\(SqL X.K H b zs\/SqT X.K H b zs)/\xs.length+zs.length<=sizeLine/\Q .non (upd H l (.lst (xs++zs)))) ext2D:=λμ S H x v ds vs Q rx rvs rp p=>by
 unfold ext2D at p;split at p
 ·rename_i n q;cases rvs with
  | cons h t=>
   cases t;cases rx with
   | ref e=>
    cases h with
    | ref e2=>
     rename_i a b;cases q2:S[q]? with
     | none=>rw [q2] at p;exact p.elim
     | some o2=>
      rw [q2] at p;cases o2 with
      | dct _=>exact p.elim
      | exc _ _=>exact p.elim
      | lst ys=>
       obtain ⟨zs,g1,g2⟩:=rp.ats q _ b q2 e2;cases q1:S[n]? with
       | none=>rw [q1] at p;exact p.elim
       | some o=>
        rw [q1] at p;cases o with
        | dct _=>exact p.elim
        | exc _ _=>exact p.elim
        | lst es=>
         obtain ⟨xs,h1,h2⟩:=rp.ats n _ a q1 e;dsimp only at p;by_cases hz:es.length+ys.length<=sizeLine
         ·rw [if_pos hz] at p;have ml:=ET e;refine ⟨a,b,xs,zs,rfl,rfl,h1,.inl (.inl (.inl g1)),by rw [<- h2.length,<- g2.length];exact hz,?_⟩;have la:Lat μ H μ (upd H a (.lst (xs++zs))):=Lat.wrote ml;exact p μ _ la (rp.wrote e ⟨_,b8,(h2.append g2).later la⟩) _ .non
         ·rw [if_neg hz] at p;exact p.elim
 ·exact eJ μ S H x v ds vs Q rx rvs rp p
end
def ou:RuE:=rMt "extend" lstOf ext2D λ_ f d c b e a=>jJ Gj Il Im aT Z6 kZ f d c b e a
theorem xM (e:S[n]?=some (.lst es)) (a:S[q]?=some (.lst ys)) (b:es.length+ys.length<=sizeLine):ext2D (.ref n) [.ref q] S=.ok .non (S.set n (.lst (es++ys))):=by
 simp only [ext2D,e,a,if_pos b]
end L3
namespace L2
open PySem PySem.Spec PyProof.Rows
section
variable {prog:Program} {w:World} {A:Around} {R:Result->Shared->Prop} {s:Shared}
theorem mK {elt t0 i0 target iter:Expr} {ifs0 ifs:List Expr} {scope:Scope} {pos:Pos} {it acc:Value} {env:PySem.Env} (I:Nat->Shared->Prop)
  (turn:∀ n s,I n s->wpAny (model prog w) A (pyNext it) (λr s₁=>match r with
   | none=>R (.ok .next) s₁
   | some v=>wpAny (model prog w) A (letOwnedTupleGo t0 it v) (λ_ s₀=>wpAny (model prog w) A (assign t0 env v) (λ_ s₂=>
     wpAny (model prog w) A (forIn ifs0 true λc r=>if r=true then do let ok <- isTrue c env (eval c env);pure (ForInStep.yield ok) else pure (ForInStep.yield r)) (λok s₃=>
      if ok=true then wpAny (model prog w) A (eval iter env) (λx s₄=>
       wpAny (model prog w) A (pyIter x) (λitv s₅=>codeAny (model prog w) A (.compStart (.ListComp elt [⟨t0,i0,ifs0,0⟩,⟨target,iter,ifs,0⟩] scope pos) 1 itv acc env) (λr s₆=>match r with
        | .ok _=>∃ m,m<n/\I m s₆
        | .error _=>False) s₅) (λ_ _=>False) s₄) (λ_ _=>False) s₃
      else ∃ m,m<n/\I m s₃) (λ_ _=>False) s₂) (λ_ _=>False) s₀) (λ_ _=>False) s₁) (λ_ _=>False) s)
  (n:Nat) (h:I n s) (hfs:∀ x,foldedSetIterable iter env x=pure x) :
  codeAny (model prog w) A (.compLoop (.ListComp elt [⟨t0,i0,ifs0,0⟩,⟨target,iter,ifs,0⟩] scope pos) 0 it acc env) R s:=by
 refine IC rfl I (λn s hI=>?_) n h;refine IM ?_;rw [W2];refine Do (EZ (Do (Ef (turn n s hI) (λr s₁ h₁=>?_) λ_ _ h'=>h'.elim)));cases r with
 | none=>exact Dp h₁
 | some v=>
  refine Do (Ef h₁ (λ_ s₀ h₁=>?_) λ_ _ h'=>h'.elim);refine Do (Ef h₁ (λ_ s₂ h₂=>Do (Ef h₂ (λok s₃ h₃=>?_) λ_ _ h'=>h'.elim)) λ_ _ h'=>h'.elim);cases ok with
  | false=>exact Dp ⟨rfl,h₃⟩
  | true=>
   refine Do (Ef h₃ (λx s₄ h₄=>Do (EZ ?_)) λ_ _ h'=>h'.elim);rw [hfs x];refine Do (Dp (Do (Ep (Ef h₄ (λitv s₅ h₅=>?_) λ_ _ h'=>h'.elim))));refine Do (wpAny_runOwn (Ff h₅ λr s₆ h₆=>?_));cases r with
   | ok f=>exact Dp ⟨rfl,h₆⟩
   | error e=>exact h₆.elim
end
def iR (caps:List Nat) (E:TI) (r:TG) (B:TT) (n:TI) (o:TT) (te:TE):TE:=λσ H Q=>E σ H λJ w=>∀ a,w a=none->∃ W:Nat->Nat->List V->Hp->Prop,(∃ m,W 0 m [] (upd w a (.lst []))) /\
 ∀ i m ys f,W i m ys f->f a=some (.lst ys)/\((J.stop i f/\Q (.ref a) f)\/(J.go i f/\∀ x A,J.yld i f x A->r x (none :: none :: none :: i6 caps σ) A λe D=>∃ p q,e=p :: q :: none :: i6 caps σ/\B e D λb v=>
  if b=true then n e v λs C=>∃ l:Nat->Nat->List V->Hp->Prop,(∃ k,l 0 k ys C) /\
   ∀ j k d g,l j k d g->g a=some (.lst d)/\((s.stop j g/\∃ m',m'<m/\W (i+1) m' d g)\/(s.go j g/\∀ y t,s.yld j g y t->o (p :: q :: some y :: i6 caps σ) t λF u=>
    if F=true then te (p :: q :: some y :: i6 caps σ) u λz h=>h a=some (.lst d)/\d.length<sizeLine/\∃ c,c<k/\l (j+1) c (d++[z]) (upd h a (.lst (d++[z])))
    else ∃ c,c<k/\l (j+1) c d u))
  else ∃ m',m'<m/\W (i+1) m' ys v))
theorem cj {X:Cx} {elt iter iter2 tg:Expr} {tgp:TG} {y g:Str} {py pg spos:Pos} {ig:Nat} {ifs ifs2:List Expr} {scope:Scope} {pos:Pos} {N':List Str} {caps:List Nat} {wi wi1:TI} {tc tc1:TT} {te:TE}
  (hsw:swapsWith (.ListComp elt [⟨tg,iter,ifs,0⟩,⟨.Name y py,iter2,ifs2,0⟩] scope pos) (some (.Name g pg)) spos.line X.env=pure true) (hNX:X.N.Nodup) (hig:X.N[ig]?=some g) (hgl:Loc X.env.scope g) (hf:X.fn g=true\/X.env.scope.names.lookup g=some .local)
  (T:CompText X.N X.env N' 3 caps scope) (hc:X.calm=true) (hN:N'.Nodup) (hg:∀ pins C fp s H,PG (b7 X pins N' scope C fp s H) tg tgp) (hy0:N'[2]?=some y) (hyl:scope.names.lookup y=some .local) (hi:PI X tg iter wi)
  (ht:∀ pins C fp s H,PTL (b7 X pins N' scope C fp s H) ifs tc) (hi1:∀ pins C fp s H,PI (b7 X pins N' scope C fp s H) (.Name y py) iter2 wi1) (ht1:∀ pins C fp s H,PTL (b7 X pins N' scope C fp s H) ifs2 tc1)
  (he:∀ pins C fp s H,PE (b7 X pins N' scope C fp s H) elt te)
  (hs:∀ x,foldedSetIterable iter X.env x=pure x) (hs2:∀ env x,foldedSetIterable iter2 env x=pure x):PS X (.Assign [.Name g pg] (.ListComp elt [⟨tg,iter,ifs,0⟩,⟨.Name y py,iter2,ifs2,0⟩] scope pos) spos) (pK (iR caps wi tgp tc wi1 tc1 te) (aw ig)):=by
 intro pins s σ H D I h;have fr:∀ x∈scope.names,x.2=NameKind.free->∃ c,X.env.cells.lookup x.1=some c:=λx hx hk=>I.ok.has x.1 (T.free x hx hk).2;rw [exec_Assign_Name_used _ _ _ _ hsw];refine Do (EZ (Do ?_));show wpAny _ X.A (do let _ <- comprehension (.ListComp elt [⟨tg,iter,ifs,0⟩,⟨.Name y py,iter2,ifs2,0⟩] scope pos) scope X.env _ (newList []) false (eval iter X.env) (some (assign (.Name g pg) X.env))) _ _ s;refine Do (Ef (FE (use:=some (assign (.Name g pg) X.env)) (Q:=λ_ s'=>SP X pins D .next s') rfl hs (u4 fr) T.kind T.loc ?_) (λ_ s' hq=>Dp (Dp hq)) λ_ _ e=>e);refine thn (hi pins s σ H _ I h) λv s1 h1=>thn h1 λitv s2 h2=>?_;obtain ⟨it,fp,tn,J,H2,rfl,I2,Tn,st2,f2,h2⟩:=h2;obtain ⟨W,⟨m0,w0⟩,turn⟩:=h2 s2.heap.objs.size (I2.hok.fresh (Dz _));have hlt:∀ b∈fp,b<s2.heap.objs.size:=λb hb=>let ⟨o,e,_⟩:=Tn.obj _ _ st2 b hb;Dv e
 refine Ez (FY T.cell (by intro y hy;simp at hy) (λh₁ hns₁ hsb₁=>?_) T.kind);dsimp only at hns₁ hsb₁ ⊢;have hC:(s2.heap.push { cls:=.type "list",dict:=none,data:=.seq ([]:List Value).toArray }).objs.size=s2.heap.objs.size+1:=EL ..;rw [hC] at hns₁ hsb₁;have old:∀ b o,s2.heap.get? b=some o->h₁.get? b=some o:=λb o e=>hsb₁.extBut b o (Dw (El (Dv e))) (Dq _ (Dq _ e));have hacc:h₁.get? s2.heap.objs.size=some { cls:=.type "list",data:=.seq #[] }:=hsb₁.extBut _ _ (Dw (Ek _)) (Dq _ (Du _ rfl));have hst₁:tn 0 h₁:=Tn.keep _ _ _ st2 λb _ o e=>old b o e;have I3:Inv (b7 X pins N' scope (s2.heap.objs.size+1) fp s2 H2) [] (none :: none :: none :: i6 caps σ) (upd H2 s2.heap.objs.size (.lst [])) { s2 with heap:=h₁,toks:=s2.toks+([]:List (Str×Value)).length }:=B9 (t:=s2.toks+([]:List (Str×Value)).length) T I2 f2 hlt hns₁ old hacc;have stat:∀ {H':Hp},(∀ b∈fp,H' b=none)->∀ b∈fp,E1 (b7 X pins N' scope (s2.heap.objs.size+1) fp s2 H2) [] H' b:=λhn b hb=>by
  refine ⟨hn b hb,(I3.ok.exf b hb).1,I3.ok.exfs b hb,.inl hb,(I3.ok.exf b hb).2,λp hp=>?_⟩;have hp':p∈X.pn++pins:=by
   have:p∈(X.pn++pins)++[]:=hp;rwa [EH] at this
  exact (f2 b hb).2.2.2.2.2 p hp'
 have loop:∀ s3:Shared,s3={ s2 with heap:=h₁,toks:=s2.toks+([]:List (Str×Value)).length } ->
   codeAny (model X.prog X.w) X.A (.compLoop (.ListComp elt [⟨tg,iter,ifs,0⟩,⟨.Name y py,iter2,ifs2,0⟩] scope pos) 0 (.ref it) (.ref s2.heap.objs.size) (compEnvC scope (E2 X.env.cells scope.names) (s2.heap.objs.size+1) X.env))
    (compPost (model X.prog X.w) X.A X.xe (some (assign (.Name g pg) X.env)) (λ_ s'=>SP X pins D .next s') (.ref s2.heap.objs.size) (s2.heap.objs.size+1)) s3:=by
  rintro s3 rfl;refine mK (λn s'=>∃ i ys H',Inv (b7 X pins N' scope (s2.heap.objs.size+1) fp s2 H2) [] (none :: none :: none :: i6 caps σ) H' s'/\tn i s'.heap/\(∀ b∈fp,H' b=none)/\W i n ys H') ?_ m0
   ⟨0,[],_,I3,hst₁,λb hb=>by rw [a8 (Dw (hlt b hb))];exact (f2 b hb).1,w0⟩ (hs2 _)
  rintro n s4 ⟨i,ys,H4,I4,st4,fr4,w4⟩;obtain ⟨hacc4,turn4⟩:=turn i n ys H4 w4;rcases turn4 with ⟨stop,q⟩ | ⟨go,step⟩
  ·refine thn (Tn.done (b7 X pins N' scope (s2.heap.objs.size+1) fp s2 H2) rfl rfl rfl hc i [] s4 _ H4 (λ_ _=>False) I4 (stat fr4) st4 stop) λr s5 ⟨hr,I5⟩=>?_;subst hr;obtain ⟨m5,hn5,_⟩:=id I5.loc;have IX:Inv X pins σ H4 s5:=I2.call' (ch:=fp) I5.os I5.base I5.hok I5.bare λb hb=>by
    have:=f2 b hb;exact ⟨this.2.2.2.1,this.2.1,this.2.2.2.2.1,this.2.2.2.2.2⟩
   have C0:s2.heap.objs.size<=s2.heap.objs.size+1:=EU _;have cC:∀ z c,X.env.cells.lookup z=some c->c≠s2.heap.objs.size+1:=λz c e=>by
    obtain ⟨v,oc,ho,_⟩:=I2.cell z c e;exact Dw (El (Dv ho))
   have lC:X.env.locals≠s2.heap.objs.size+1:=Dw (El I2.lt);show wpAny _ X.A (assign (.Name g pg) X.env (.ref s2.heap.objs.size)) (λ_ s''=>∃ m,s''.heap.Ns (s2.heap.objs.size+1) m/\∀ h',Heap.SameBut (s2.heap.objs.size+1) s''.heap h'->SP X pins D .next { s'' with heap:=h' }) X.xe s5;refine HY (U1 (v:=.ref s2.heap.objs.size) IX hNX hig hgl rfl (λs6 I6 ⟨a,sb,ha⟩=>?_) hf);have aC:s2.heap.objs.size+1≠a:=λz=>by
    rcases ha with ha | ha
    ·exact lC (by rw [<- ha,<- z])
    ·exact cC _ _ ha z.symm
   refine ⟨m5,hn5.sameBut sb aC,λh' hs'=>?_⟩;refine ⟨_,H4,I6.turned (t':=s6.toks) (it:=s2.heap.objs.size+1) (λb o hb e=>hs'.extBut b o hb e) I5.free lC.symm (.inr (EQ I2.sz C0)) cC (λp hp=>?_),q⟩;exact Dw (El (Dv (I2.pin p hp).1))
  ·refine thn (Tn.item (b7 X pins N' scope (s2.heap.objs.size+1) fp s2 H2) rfl rfl rfl hc i [] s4 _ H4 (λ_ _=>False) I4 (stat fr4) st4 go) λr s5 ⟨u,hr,h5⟩=>?_;subst hr;dsimp only;refine c7 (thn h5 λ_ s6 ⟨xv,H6,I6,r6,y6,st6,fr6⟩=>?_);have I6':=I6.pinned (stat fr6) (Tn.obj _ _ st6);refine c7 (thn (hg pins _ fp s2 H2 _ s6 _ H6 xv u _ I6' r6 (step xv _ y6)) λ_ s7 ⟨σ7,H7,I7,va,vb,e7,q7⟩=>?_);subst e7;have back:∀ {σ8:St} {H8:Hp} {s8:Shared},Inv (b7 X pins N' scope (s2.heap.objs.size+1) fp s2 H2) ([]++f9 fp s6.heap) σ8 H8 s8->tn (i+1) s8.heap/\∀ b∈fp,H8 b=none:=λ{σ8 H8 s8} I8=>by
    refine ⟨Tn.keep _ _ _ st6 λb hb o e=>(I8.pin (b,o) (Dx _ (Dx _ (e8 hb e)))).1,λb hb=>?_⟩;obtain ⟨o,e,d⟩:=Tn.obj _ _ st6 b hb;exact (I8.pin (b,o) (Dx _ (Dx _ (e8 hb e)))).2.1
   refine c7 (thn (ht pins _ fp s2 H2 _ s7 _ _ _ I7 q7) λb s8 ⟨H8,I8,q8⟩=>?_);have wk:∀ {H9:Hp} {s9:Shared},Inv (b7 X pins N' scope (s2.heap.objs.size+1) fp s2 H2) ([]++f9 fp s6.heap) (va :: vb :: none :: i6 caps σ) H9 s9->Inv (b7 X pins N' scope (s2.heap.objs.size+1) fp s2 H2) [] (none :: none :: none :: i6 caps σ) H9 s9:=λ{H9 s9} I9=>
    I9.unpinned.weak rfl λj v e=>by
     match j with
     | 0=>simp at e
     | 1=>simp at e
     | j+2=>simpa using e
   cases b with
   | false=>
    obtain ⟨m',hm,w'⟩:=q8;exact ⟨m',hm,i+1,ys,H8,wk I8,(back I8).1,(back I8).2,w'⟩
   | true=>
    rw [if_pos rfl] at q8 ⊢;refine c7 (thn (hi1 pins _ fp s2 H2 _ s8 _ H8 _ I8 q8) λv9 s9 h9=>c7 (thn h9 λitv1 s10 h10=>?_));obtain ⟨it1,fp1,tn1,J1,H10,rfl,I10,Tn1,st10,f10,W1,⟨m1,w1⟩,turn1⟩:=h10;have stat1:∀ {H':Hp},(∀ b∈fp1,H' b=none)->∀ b∈fp1,E1 (b7 X pins N' scope (s2.heap.objs.size+1) fp s2 H2) ([]++f9 fp s6.heap) H' b:=λhn b hb=>⟨hn b hb,(f10 b hb).2⟩;have loop1:∀ s11:Shared,s11=s10->codeAny (model X.prog X.w) X.A (.compLoop (.ListComp elt [⟨tg,iter,ifs,0⟩,⟨.Name y py,iter2,ifs2,0⟩] scope pos) 1 (.ref it1) (.ref s2.heap.objs.size) (compEnvC scope (E2 X.env.cells scope.names) (s2.heap.objs.size+1) X.env))
      (λr s₆=>match r with
       | .ok _=>∃ m,m<n/\∃ i ys H',Inv (b7 X pins N' scope (s2.heap.objs.size+1) fp s2 H2) [] (none :: none :: none :: i6 caps σ) H' s₆/\tn i s₆.heap/\(∀ b∈fp,H' b=none)/\W i m ys H'
       | .error _=>False) s11:=by
     rintro s11 rfl;refine ja (λn1 s'=>∃ j zs H',Inv (b7 X pins N' scope (s2.heap.objs.size+1) fp s2 H2) ([]++f9 fp s6.heap) (va :: vb :: none :: i6 caps σ) H' s'/\tn1 j s'.heap/\(∀ b∈fp1,H' b=none)/\W1 j n1 zs H') ?_ m1
      ⟨0,ys,H10,I10,st10,λb hb=>(f10 b hb).1,w1⟩ (λ_=>rfl)
     rintro n1 t4 ⟨j,zs,G4,K4,ct4,cr4,v4⟩;obtain ⟨hacc5,turn5⟩:=turn1 j n1 zs G4 v4;refine c7 ?_;rcases turn5 with ⟨stop1,m',hm',w'⟩ | ⟨go1,step1⟩
     ·refine thn (Tn1.done (b7 X pins N' scope (s2.heap.objs.size+1) fp s2 H2) rfl rfl rfl hc j _ t4 _ G4 (λ_ _=>False) K4 (stat1 cr4) ct4 stop1) λr t5 ⟨hr,K5⟩=>?_;subst hr;exact ⟨m',hm',i+1,zs,G4,wk K5,(back K5).1,(back K5).2,w'⟩
     ·refine thn (Tn1.item (b7 X pins N' scope (s2.heap.objs.size+1) fp s2 H2) rfl rfl rfl hc j _ t4 _ G4 (λ_ _=>False) K4 (stat1 cr4) ct4 go1) λr t5 ⟨u1,hr,g5⟩=>?_;subst hr;dsimp only;refine c7 (w6 (u:=letOwnedTupleGo (.Name y py) (.ref it1) u1) rfl (thn g5 λ_ t6 ⟨yv,G6,K6,rr6,yy6,ct6,cr6⟩=>?_));have K6':=K6.pinned (stat1 cr6) (Tn1.obj _ _ ct6);refine thn (w9 (X:=b7 X pins N' scope (s2.heap.objs.size+1) fp s2 H2) (i:=2) hN hy0 (.inl (En hyl)) (.inr (En hyl)) _ t6 _ G6 yv u1 (λσ2 H4=>σ2=va :: vb :: some yv :: i6 caps σ/\H4=G6) K6' rr6 ⟨rfl,rfl⟩) λ_ t7 ⟨σ7,G7,K7,e7,e7'⟩=>?_;subst e7 e7';have back1:∀ {σ8:St} {H8:Hp} {s8:Shared},Inv (b7 X pins N' scope (s2.heap.objs.size+1) fp s2 H2) (([]++f9 fp s6.heap)++f9 fp1 t6.heap) σ8 H8 s8->tn1 (j+1) s8.heap/\∀ b∈fp1,H8 b=none:=λ{σ8 H8 s8} I8=>by
       refine ⟨Tn1.keep _ _ _ ct6 λb hb o e=>(I8.pin (b,o) (Dx _ (Dx _ (e8 hb e)))).1,λb hb=>?_⟩;obtain ⟨o,e,d⟩:=Tn1.obj _ _ ct6 b hb;exact (I8.pin (b,o) (Dx _ (Dx _ (e8 hb e)))).2.1
      have wk1:∀ {H9:Hp} {s9:Shared},Inv (b7 X pins N' scope (s2.heap.objs.size+1) fp s2 H2) (([]++f9 fp s6.heap)++f9 fp1 t6.heap) (va :: vb :: some yv :: i6 caps σ) H9 s9->Inv (b7 X pins N' scope (s2.heap.objs.size+1) fp s2 H2) ([]++f9 fp s6.heap) (va :: vb :: none :: i6 caps σ) H9 s9:=λ{H9 s9} I9=>
       I9.unpinned.weak rfl λj v e=>by
        match j with
        | 0=>simpa using e
        | 1=>simpa using e
        | 2=>simp at e
        | j+3=>simpa using e
      refine c7 (thn (ht1 pins _ fp s2 H2 _ t7 _ _ _ K7 (step1 yv _ yy6)) λb2 t8 ⟨G8,K8,p8⟩=>?_);cases b2 with
      | false=>
       obtain ⟨m1',hm,w'⟩:=p8;exact ⟨m1',hm,j+1,zs,G8,wk1 K8,(back1 K8).1,(back1 K8).2,w'⟩
      | true=>
       refine c7 (thn (he pins _ fp s2 H2 _ t8 _ G8 _ K8 p8) λz t9 ⟨zv,G9,K9,rr9,hacc9,hl9,m1',hm,w'⟩=>?_);refine c7 (thn (B5 (X:=b7 X pins N' scope (s2.heap.objs.size+1) fp s2 H2) _ t9 _ G9 (.ref s2.heap.objs.size) [zv] (.ref s2.heap.objs.size) [z] (λ_ H'=>H'=upd G9 s2.heap.objs.size (.lst (zs++[zv]))) K9 rfl (.cons rr9 .nil) ⟨_,zs,zv,rfl,rfl,hacc9,hl9,rfl⟩) λ_ t10 ⟨_,G10,K10,_,e10⟩=>?_);subst e10;exact ⟨m1',hm,j+1,zs++[zv],_,wk1 K10,(back1 K10).1,(back1 K10).2,w'⟩
    exact eV (loop1 _ rfl) (Tn1.self _ 0 _ _ _ st10 (loop1 _ rfl))
 have fin:=FM (loop _ rfl) (Tn.self _ 0 _ _ _ hst₁ (loop _ rfl));rw [<- hC] at fin;exact fin
end L2
namespace L3
open PySem PySem.Spec PyProof.Rows L2
def un2 {c:Type} (g:D->D->M c) (d:D):M c:=match d with
 | .tup [a,b]=>g a b
 | _=>bad
def c2 {d:Type} (t:Env->M d) (c:Env):D->M d:=un2 λa b=>t (some a :: some b :: none :: c)
def c3 {e:Type} (t:Env->M e) (c:Env) (d f:D):M e:=un2 (λa b=>t (some a :: some b :: some f :: c)) d
def cf (caps:List Nat) (c:Env->M (Src×Nat)) (t:Env->M Bool) (a:Env->M (Src×Nat)) (d:Env->M Bool) (f:Env->M D) (ρ:Env):M (List D):=bind (c ρ) λb=>k9 b.1 (c2 t (d4 caps ρ)) (c2 a (d4 caps ρ)) (c3 d (d4 caps ρ)) (c3 f (d4 caps ρ)) b.2 0 []
abbrev w2T {K:PySem.W.Frag} (cl:Nat->Addr) (xe:Addr->Hp->Prop) (caps:List Nat) (fi1:Env->M (Src×Nat)) (t t1:Env->M Bool) (f:Env->M D) (σ:L2.St) (ρ:Env) (Q:VK) (μ1:Mp) (H1:Hp) (acc:Addr) (src:Src) (i m:Nat) (ys:List V) (H2:Hp):Prop:=∃ μ2 S2 es,HLat μ1 H1 acc μ2 H2/\acc∉μ2.pl/\H2 acc=some (.lst ys)/\EnvOk K μ2 H2 ρ σ/\Rep K cl μ2 S2 H2/\RDs K μ2 H2 es ys/\Post K cl xe μ1 H1 (k9 src (c2 t (d4 caps ρ)) (c2 fi1 (d4 caps ρ)) (c3 t1 (d4 caps ρ)) (c3 f (d4 caps ρ)) m i es S2) (λds _ μ' H'=>∀ acc ys,LstAt μ' H' acc ys->RDs K μ' H' ds ys->Q (.ref acc) H')
abbrev w2U {K:PySem.W.Frag} (cl:Nat->Addr) (xe:Addr->Hp->Prop) (caps:List Nat) (fi1:Env->M (Src×Nat)) (t t1:Env->M Bool) (f:Env->M D) (σ:L2.St) (ρ:Env) (Q:VK) (μ1:Mp) (H1:Hp) (acc:Addr) (src:Src) (src1:Src) (da db:D) (va vb:V) (i m:Nat) (μ6:Mp) (H6:Hp) (j m1:Nat) (zs:List V) (H7:Hp):Prop:=∃ μ7 S7 es7,HLat μ1 H1 acc μ7 H7/\LatU μ6 H6 μ7 H7/\acc∉μ7.pl/\H7 acc=some (.lst zs)/\EnvOk K μ7 H7 ρ σ/\Rep K cl μ7 S7 H7/\RDs K μ7 H7 es7 zs/\RD K μ7 H7 da va/\RD K μ7 H7 db vb/\Post K cl xe μ1 H1 (bind (d9 src1 (c3 t1 (d4 caps ρ) (.tup [da,db])) (c3 f (d4 caps ρ) (.tup [da,db])) m1 j es7) (λes'=>k9 src (c2 t (d4 caps ρ)) (c2 fi1 (d4 caps ρ)) (c3 t1 (d4 caps ρ)) (c3 f (d4 caps ρ)) m (i+1) es') S7) (λds _ μ' H'=>∀ acc ys,LstAt μ' H' acc ys->RDs K μ' H' ds ys->Q (.ref acc) H')
theorem cY {K:PySem.W.Frag} {cl:Nat->Addr} {xe:Addr->Hp->Prop} {caps:List Nat} {fi u:Env->M (Src×Nat)} {t E:Env->M Bool} {f:Env->M D} {σ:L2.St} {H:Hp} {μ:Mp} {S:Sto} {ρ:Env} {Q:VK} (eo:EnvOk K μ H ρ σ) (rp:Rep K cl μ S H)
  (p:Post K cl xe μ H (cf caps fi t u E f ρ S) λds _ μ' H'=>∀ s ys,LstAt μ' H' s ys->RDs K μ' H' ds ys->Q (.ref s) H'):iR caps (tIt K cl xe fi) (xb K 2 BZ) (tBo K cl xe t) (tIt K cl xe u) (tBo K cl xe E) (tD K cl xe f) σ H Q:=by
 refine ⟨μ,S,ρ,eo,rp,p.bind.imp λsm S1 μ1 H1 l1 r1 p1 J yl s g=>?_⟩;obtain ⟨src,m0⟩:=sm;have nrs:=r1.notrs g;refine ⟨w2T cl xe caps u t E f σ ρ Q μ1 H1 s src,⟨m0,μ1.hold s,S1,[],?_,r1.notin g,b8,T1 r1 g (eo.later l1),T0 r1 g,.nil,p1⟩,?_⟩
 ·refine ⟨⟨λ_ _ e=>e,λa o e _=>by rw [a8 (b9 e g)];exact e,λa m=>.inl m,λa m=>?_⟩,rfl⟩;rcases Ea.mp (m) with rfl | m
  ·exact .inr g
  ·exact .inl m
 rintro i m ys H2 ⟨μ2,S2,es,hl,npl,e2,Z,r2,T,O⟩;refine ⟨e2,?_⟩;cases m with
 | zero=>exact O.elim
 | succ m=>
  have y:S4 K cl J i μ2 H2 S2 (src i S2):=yl i μ2 H2 S2 hl.r.u r2;simp only [k9] at O;cases e1:src i S2 with
  | none=>rw [e1] at O;exact O.elim
  | some o=>
   rw [e1] at O y;cases o with
   | none=>
    refine .inl ⟨y,O μ2.free H2 (hl.lat (Lat.refl _ _)) (J8 r2) s ys ⟨e2,npl,?_⟩ (P0 T)⟩;show s∉μ2.rs.tail;rw [hl.rs];exact nrs
   | some d=>
    obtain ⟨y1,y2⟩:=y;refine .inr ⟨y1,λx H3 hy=>?_⟩;obtain ⟨l3,r3,rd3⟩:=y2 x H3 hy;have h3:=hl.step l3;cases rd3 with
    | tup ht rs=>
     cases rs with
     | nil=>exact False.elim O
     | cons ra rs=>
      cases rs with
      | nil=>exact False.elim O
      | cons rb rs=>
       cases rs with
       | cons _ _=>exact False.elim O
       | nil=>
        rename_i k va A vb;refine ⟨_,_,rfl,ht.sq,rfl,va,[vb],rfl,vb,[],rfl,rfl,some va,some vb,rfl,?_⟩;have ev:EnvOk K μ2 H3 (some k :: some A :: none :: d4 caps ρ) (some va :: some vb :: none :: i6 caps σ):=Z8 (nN (Z.later l3) rb) ra;refine ⟨μ2,S2,some k :: some A :: none :: d4 caps ρ,ev,r3,(Post.at O h3).imp λb S5 μ5 H5 l5 r5 p5=>?_⟩;have h5:=h3.step l5;have P:=l3.trans l5;have a5:=P.oth _ _ e2 npl;have n5:=P.out e2 npl;cases b with
        | false=>exact ⟨m,Ek _,μ5,S5,es,h5,n5,a5,Z.later P,r5,T.later P,p5⟩
        | true=>
         refine kc ?_;rw [if_pos rfl] at p5;refine ⟨μ5,S5,some k :: some A :: none :: d4 caps ρ,ev.later l5,r5,(Post.at p5 h5).imp λsm S6 L H6 l6 r6 p6 J1 yl1=>?_⟩;obtain ⟨c,R⟩:=sm;have h6:=h5.step l6;have l36:=P.trans l6;have a6:=l6.oth _ _ a5 n5;have n6:=l6.out a5 n5;refine ⟨w2U cl xe caps u t E f σ ρ Q μ1 H1 s src c k A va vb i m L H6,
          ⟨R,L,S6,es,h6,(Lat.refl _ _).r.u,n6,a6,Z.later l36,r6,T.later l36,(ra.later l5).later l6,(rb.later l5).later l6,p6⟩,?_⟩
         rintro j R zs H7 ⟨G,N,h,h7,u7,n7,a7,Y,r7,F,rda,rdb,p7⟩;refine ⟨a7,?_⟩;cases R with
         | zero=>exact p7.elim
         | succ R=>
          have z:S4 K cl J1 j G H7 N (c j N):=yl1 j G H7 N u7 r7;cases f1:c j N with
          | none=>
           have:bind (d9 c (c3 E (d4 caps ρ) (.tup [k,A])) (c3 f (d4 caps ρ) (.tup [k,A])) (R+1) j h) (λes'=>k9 src (c2 t (d4 caps ρ)) (c2 u (d4 caps ρ)) (c3 E (d4 caps ρ)) (c3 f (d4 caps ρ)) m (i+1) es') N=.bad:=by
            unfold bind;simp only [d9,f1]
           rw [this] at p7;exact p7.elim
          | some o=>
           rw [f1] at z;cases o with
           | none=>
            have:bind (d9 c (c3 E (d4 caps ρ) (.tup [k,A])) (c3 f (d4 caps ρ) (.tup [k,A])) (R+1) j h) (λes'=>k9 src (c2 t (d4 caps ρ)) (c2 u (d4 caps ρ)) (c3 E (d4 caps ρ)) (c3 f (d4 caps ρ)) m (i+1) es') N=k9 src (c2 t (d4 caps ρ)) (c2 u (d4 caps ρ)) (c3 E (d4 caps ρ)) (c3 f (d4 caps ρ)) m (i+1) h N:=by
             conv=>lhs;unfold bind
             simp only [d9,f1]
            rw [this] at p7;exact .inl ⟨z,m,Ek _,G,N,h,h7,n7,a7,Y,r7,F,p7⟩
           | some d2=>
            have un:bind (d9 c (c3 E (d4 caps ρ) (.tup [k,A])) (c3 f (d4 caps ρ) (.tup [k,A])) (R+1) j h) (λes'=>k9 src (c2 t (d4 caps ρ)) (c2 u (d4 caps ρ)) (c3 E (d4 caps ρ)) (c3 f (d4 caps ρ)) m (i+1) es') N =
              bind (E (some k :: some A :: some d2 :: d4 caps ρ)) (λb=>bind (if b=true then bind (f (some k :: some A :: some d2 :: d4 caps ρ)) (λy=>if h.length<sizeLine then d9 c (c3 E (d4 caps ρ) (.tup [k,A])) (c3 f (d4 caps ρ) (.tup [k,A])) R (j+1) (h++[y]) else bad) else d9 c (c3 E (d4 caps ρ) (.tup [k,A])) (c3 f (d4 caps ρ) (.tup [k,A])) R (j+1) h) (λes'=>k9 src (c2 t (d4 caps ρ)) (c2 u (d4 caps ρ)) (c3 E (d4 caps ρ)) (c3 f (d4 caps ρ)) m (i+1) es')) N:=by
             rw [<- jX];exact vX (by simp only [d9,f1,c3,un2])
            rw [un] at p7;obtain ⟨z1,z2⟩:=z;refine .inr ⟨z1,λyv H8 hy2=>?_⟩;obtain ⟨l8,r8,rd8⟩:=z2 yv H8 hy2;have h8:=h7.step l8;have rxa:=rda.later l8;have rxb:=rdb.later l8;have ev8:EnvOk K G H8 (some k :: some A :: some d2 :: d4 caps ρ) (some va :: some vb :: some yv :: i6 caps σ):=Z8 (mj (Y.later l8) rxb rd8) rxa;refine ⟨G,N,some k :: some A :: some d2 :: d4 caps ρ,ev8,r8,(Post.at p7 h8).imp λb2 S9 μ9 H9 l9 r9 p9=>?_⟩;have h9:=h8.step l9;have B:=l8.trans l9;have a9:=B.oth _ _ a7 n7;have n9:=B.out a7 n7;have I:∀ {μx:Mp} {Hx:Hp},Lat G H7 μx Hx->LatU L H6 μx Hx:=λ{μx Hx} l=>by
             refine ⟨λn a e=>l.pre n a (u7.pre n a e),λa o e n1 n2=>?_,λa mm=>?_,λa mm=>?_⟩
             ·obtain ⟨q1,q2,q3⟩:=u7.out a o e n1 n2;exact l.oth a o q1 q2
             ·rcases l.new a mm with q | q
              ·exact u7.new a q
              ·by_cases n1:a∈L.pl
               ·exact .inl n1
               ·by_cases n2:a∈L.rs
                ·exfalso;obtain ⟨_,w,hw⟩:=r7.res a (by rw [h7.rs,<- h6.rs];exact n2);rw [hw] at q;cases q
                ·right
                 cases e:H6 a with
                 | none=>rfl
                 | some o=>rw [(u7.out a o e n1 n2).1] at q;cases q
             ·exact u7.rsw a (by rw [<- l.rsv];exact mm)
            cases b2 with
            | false=>exact ⟨R,Ek _,μ9,S9,h,h9,I B,n9,a9,Y.later B,r9,F.later B,rda.later B,rdb.later B,p9⟩
            | true=>
             refine kc ?_;rw [if_pos rfl] at p9;rw [jX] at p9;refine ⟨μ9,S9,some k :: some A :: some d2 :: d4 caps ρ,ev8.later l9,r9,(Post.at p9 h9).imp λyy S10 μ10 H10 W r10 V v rv=>?_⟩;have U:=h9.step W;have C:=B.trans W;have a10:=W.oth _ _ a9 n9;have n10:=W.out a9 n9;by_cases hz:h.length<sizeLine
             ·rw [if_pos hz] at V;have er:=U.rs;have X:=I C;refine ⟨a10,by rw [<- F.length];exact hz,R,Ek _,μ10,S10,h++[yy],?_,?_,n10,b8,?_,M6 er a10 r10,M5 er ((F.later C).append (.cons rv .nil)),B7 er (rda.later C),B7 er (rdb.later C),V⟩
              ·refine ⟨⟨U.r.pre,λa o e n=>?_,U.r.new,U.r.rsw⟩,er⟩;rw [a8 (b9 e g)];exact U.r.oth a o e n
              ·refine ⟨X.pre,λa o e n1 n2=>?_,X.new,X.rsw⟩;have:a≠s:=λq=>n2 (by rw [h6.rs,q];exact Ei ..);rw [a8 this];exact X.oth a o e n1 n2
              ·have eo6:=Y.later C;exact ⟨eo6.1,λj e he=>let ⟨w,q,r⟩:=eo6.2 j e he;⟨w,q,B7 er r⟩⟩
             ·rw [if_neg hz] at V;exact V.elim
    | _=>exact False.elim O
def P9 (r:Ev) (c:Lc) (f:Expr) (x z y:Str) (k j g i:Pos) (h:Nat) (d b:Expr) (ifs e:List Expr) (a:Scope) (ρ:Env):M (List D):=match i4 (f8 c.N) (k7 a) with
 | some caps=>nx (cf caps (r.i c (.Tuple [.Name x k,.Name z j] h g) d) (testsE r (d8 c a [x,z,y]) ifs) (r.i (d8 c a [x,z,y]) (.Name y i) b) (testsE r (d8 c a [x,z,y]) e) (r.e (d8 c a [x,z,y]) f) ρ)
 | none=>bad
def ck (q:EvK) (c:Lc) (f:Expr) (x z y:Str) (n m i l:Pos) (j:Nat) (d b:Expr) (ifs e:List Expr) (a:Scope) (ρ:Env) {h:Type} (k:List D->M h):M h:=match i4 (f8 c.N) (k7 a) with
 | some caps=>bind (nx (q.i c (.Tuple [.Name x n,.Name z m] j i) d ρ λg=>k9 g.1 (c2 (testsK q (d8 c a [x,z,y]) ifs) (d4 caps ρ)) (c2 (λρ=>q.i (d8 c a [x,z,y]) (.Name y l) b ρ ret) (d4 caps ρ)) (c3 (testsK q (d8 c a [x,z,y]) e) (d4 caps ρ)) (c3 (λρ=>q.e (d8 c a [x,z,y]) f ρ ret) (d4 caps ρ)) g.2 0 [])) k
 | none=>bad
theorem jz (h:EqK r q) (f:Expr) (x z y:Str) (m l i j:Pos) (g:Nat) (d b:Expr) (ifs c:List Expr) (a:Scope) (ρ:Env) {n:Type} (k:List D->M n):ck q lc f x z y m l i j g d b ifs c a ρ k=bind (P9 r lc f x z y m l i j g d b ifs c a ρ) k:=by
 unfold ck P9;cases i4 (f8 lc.N) (k7 a) with
 | none=>rfl
 | some caps=>
  have e:∀ ifs,testsK q (d8 lc a [x,z,y]) ifs=testsE r (d8 lc a [x,z,y]) ifs:=λifs=>funext λρ=>tests_eq h ifs ρ;simp only [h.i,h.e,D3,e,cf]
set_option genInjectivity false in
set_option genSizeOf false in
structure C2 where
 g:Str
 p:Pos
 elt:Expr
 x:Str
 px:Pos
 z:Str
 pz:Pos
 kk:Nat
 tp:Pos
 iter:Expr
 ifs:List Expr
 y:Str
 py:Pos
 iter2:Expr
 ifs2:List Expr
 scope:Scope
 pos2:Pos
 pos:Pos
def C2.v (c:C2):Expr:=.ListComp c.elt [⟨.Tuple [.Name c.x c.px,.Name c.z c.pz] c.kk c.tp,c.iter,c.ifs,0⟩,⟨.Name c.y c.py,c.iter2,c.ifs2,0⟩] c.scope c.pos2
def nmV:Expr->Option (Str×Pos)
 | .Name x p=>some (x,p)
 | _=>none
theorem bo (h:nmV e=some a):e=.Name a.1 a.2:=by
 unfold nmV at h;grind
def tpV:Expr->Option (List Expr×Nat×Pos)
 | .Tuple a k p=>some (a,k,p)
 | _=>none
theorem xu (h:tpV e=some a):e=.Tuple a.1 a.2.1 a.2.2:=by
 unfold tpV at h;grind
def lcV:Expr->Option (Expr×List Comprehension×Scope×Pos)
 | .ListComp a b c d=>some (a,b,c,d)
 | _=>none
theorem yJ (h:lcV e=some a):e=.ListComp a.1 a.2.1 a.2.2.1 a.2.2.2:=by
 unfold lcV at h;grind
def tW {c:Type}:List c->Option (c×c)
 | [a,b]=>some (a,b)
 | _=>none
theorem jH (h:tW l=some a):l=[a.1,a.2]:=by
 unfold tW at h;grind
def asV:Stmt->Option (Expr×Expr×Pos)
 | .Assign [t] v p=>some (t,v,p)
 | _=>none
theorem wE (h:asV e=some a):e=.Assign [a.1] a.2.1 a.2.2:=by
 unfold asV at h;grind
def c2v (e:Stmt):Option C2:=
 (asV e).bind λa=>(nmV a.1).bind λg=>(lcV a.2.1).bind λl=>(tW l.2.1).bind λc=>(tpV c.1.target).bind λt=>(tW t.1).bind λu=>(nmV u.1).bind λx=>(nmV u.2).bind λz=>(nmV c.2.target).bind λy=>
  if c.1.is_async=0/\c.2.is_async=0 then some ⟨g.1,g.2,l.1,x.1,x.2,z.1,z.2,t.2.1,t.2.2,c.1.iter,c.1.ifs,y.1,y.2,c.2.iter,c.2.ifs,l.2.2.1,l.2.2.2,a.2.2⟩ else none
theorem wM (h:c2v e=some c):e=.Assign [.Name c.g c.p] c.v c.pos:=by
 obtain ⟨a,i,h⟩:=EF.mp h;obtain ⟨g,s,h⟩:=EF.mp h;obtain ⟨l,f,h⟩:=EF.mp h;obtain ⟨q,p,h⟩:=EF.mp h;obtain ⟨t,m,h⟩:=EF.mp h;obtain ⟨u,o,h⟩:=EF.mp h;obtain ⟨x,d,h⟩:=EF.mp h;obtain ⟨z,n,h⟩:=EF.mp h;obtain ⟨y,j,h⟩:=EF.mp h;by_cases b:q.1.is_async=0/\q.2.is_async=0
 ·rw [if_pos b] at h;cases h;obtain ⟨⟨k,v,B,D⟩,⟨r,C,A,w⟩⟩:=q;obtain ⟨rfl,rfl⟩:=b;rw [wE i,bo s,yJ f,jH p];rw [show k=_ from xu m,show r=_ from bo j,jH o,bo d,bo n];rfl
 ·grind
def gz:RuS where
 is _ lc e:=match c2v e with
  | some c=>dL lc c.g&&A0 lc c.scope [c.x,c.z,c.y]&&n8 c.iter&&n8 c.iter2&&swB lc c.v c.scope c.g c.p
  | none=>false
 run r _ _ lc e ρ:=match c2v e with
  | some c=>bind (bind (P9 r lc c.elt c.x c.z c.y c.px c.pz c.tp c.py c.kk c.iter c.iter2 c.ifs c.ifs2 c.scope ρ) λds=>ret (.lst ds)) (X6 lc c.g ρ)
  | none=>bad
 ok {T k r Γ C lc X} e R TX h hf o:=by
  cases Q:c2v e with
  | none=>grind
  | some c=>
   simp only [Q] at o;have V:=wM Q;obtain ⟨g,p,l,x,A,z,F,B,E,f,ifs,y,w,b,d,a,j,pos⟩:=c;rw [Dt,Dt,Dt,Dt] at o;obtain ⟨⟨⟨⟨W,hc⟩,hn⟩,M⟩,I⟩:=o;have v:=W;rw [dL,Dt,Fj] at v;obtain ⟨⟨i,o⟩,U⟩:=v;have K:X.N[i]?=some g:=by rw [h.N];exact u6 o
   have L:L2.Loc X.env.scope g:=by rw [h.sc];exact F7 U
   have J:X.fn g=true\/X.env.scope.names.lookup g=some .local:=.inl (h.fn1 hf);have N:=vt h l [⟨.Tuple [.Name x A,.Name z F] B E,f,ifs,0⟩,⟨.Name y w,b,d,0⟩] a g p pos j;have I:swB lc (.ListComp l [⟨.Tuple [.Name x A,.Name z F] B E,f,ifs,0⟩,⟨.Name y w,b,d,0⟩] a j) a g p=true:=I;rw [I] at N;rw [V];show PS X (.Assign [.Name g p] (.ListComp l [⟨.Tuple [.Name x A,.Name z F] B E,f,ifs,0⟩,⟨.Name y w,b,d,0⟩] a j) pos) (sD X.K T.cl (xOf X) λρ=>bind (bind (P9 r lc l x z y A F E w B f b ifs d a ρ) λds=>ret (.lst ds)) (X6 lc g ρ));unfold P9;cases hm:i4 (f8 lc.N) (k7 a) with
   | none=>exact PS.imp fK λD Y H ⟨μ,S,ρ,P,O,p⟩=>p.bind.elim
   | some caps=>
    obtain ⟨t1,n,u,t,G⟩:=E5 h hc hm;have e1:=λpins C m s H=>PTL.x0 (tests_ok (ifs:=ifs) R (o4 h t G n pins C m s H));have Z:=λpins C m s H=>PI.x0 (R.ix (o4 h t G n pins C m s H) (.Name y w) b);have e3:=λpins C m s H=>PTL.x0 (tests_ok (ifs:=d) R (o4 h t G n pins C m s H));have e4:=λpins C m s H=>PE.x0 (R.ex (o4 h t G n pins C m s H) l);refine dD (k:=k) o ?_;exact PS.imp (cj N h.nd' K L J t1 (h.calm t) n (λpins C m s H=>fU (X:=b7 X pins _ a C m s H) (h.calm t) (G5 (w9 n rfl (.inl (En (u x (by simp)))) (.inr (En (u x (by simp))))) (G5 (w9 n rfl (.inl (En (u z (by simp)))) (.inr (En (u z (by simp))))) cD))) rfl (u y (by simp)) (PI.x0 (R.ix h _ _)) e1 Z e3 e4 (v6 hn) (λ_=>v6 M)) λD Y H ⟨μ,S,ρ,P,O,p⟩=>cY P O p
 runK q _ _ lc e ρ _ k:=match c2v e with
  | some c=>ck q lc c.elt c.x c.z c.y c.px c.pz c.tp c.py c.kk c.iter c.iter2 c.ifs c.ifs2 c.scope ρ λds=>E6 lc c.g ρ (.lst ds) k
  | none=>bad
 eq e ρ _ k h:=by
  cases c2v e with
  | none=>rfl
  | some c=>simp only [jz h,bind_assoc,i7,cu]
end L3
namespace L2
open PySem PySem.Spec PyProof.Rows
section
variable {prog:Program} {w:World} {A:Around} {E:Value->Shared->Prop} {s:Shared}
theorem ak {it t:Addr} {items:Array Value} (h:t≠it):∀ (n i:Nat) (s:Shared) (Q:List Value->Shared->Prop),s.heap.IsListIter it t i->s.heap.IsList t items->i+n<=items.size ->
  (∀ h':Heap,h'.IsListIter it t (i+n)->Heap.SameBut it s.heap h'->Q ((items.toList.drop i).take n) { s with heap:=h' })->wpAny (model prog w) A (draw (.ref it) n) Q E s
 | 0,i,s,Q,e,_,_,j=>by
  show wpAny _ _ (pure []) Q E s;exact Dp (by simpa using j s.heap e (Heap.SameBut.refl ..))
 | n+1,i,s,Q,e,k,m,j=>by
  have f:i<items.size:=by omega
  refine Do (wpAny_pyNext_list_item e k (x:=items[i]) (by simp [f]) λl c a=>?_);refine Do (Ep (ak h n (i+1) _ _ c (k.extBut a.extBut h) (by omega) λg b d=>Dp ?_));have hd:items.toList.drop i=items[i] :: items.toList.drop (i+1):=by simp [HX,f]
  have:=j g (by rw [show i+(n+1)=i+1+n by omega];exact b) (a.trans d);rw [hd,List.take_succ_cons] at this;exact this
theorem R3 (n:A.handled=none) (h:s.heap.IsList t items)
  (m:∀ h',Heap.ExtBut s.heap.objs.size s.heap h'->Q items.toList { s with heap:=h' }):wpAny (model prog w) A (unpackItems (.ref t) items.size none) Q E s:=by
 have i:t≠s.heap.objs.size:=by obtain ⟨o,p,_⟩:=h;exact Dw (Dv p)
 refine Do ?_
 ·unfold notIterableAtAll;refine Do (IK h.typeIs slot_list_iter.lookup ?_);refine Dp ?_;refine Do (Ep (Gx h ?_));refine Do (Ep (ak i items.size 0 _ _ ⟨_,Du _ rfl,rfl,rfl⟩ (h.push _) (by omega) λl c a=>?_));have g:List.take items.size (List.drop 0 items.toList)=items.toList:=by
   rw [HM];exact Gn (by simp)
  rw [g];rw [if_neg (by simp)];have f:=(h.push _).extBut a.extBut i;refine Do (Ep (wpAny_pyNext_list_end n c f (by simp) λj d=>?_));refine Dp (m j λb o k e=>d b o k (a.extBut b o k (Dq _ e)))
theorem N4 {a:List Expr} {x1} {pos:Pos} {t:Addr} {items:Array Value} {Q:Unit->Shared->Prop} (e:A.handled=none) (c:s.heap.IsList t items)
  (d:(assignEach a env).length=items.size) (b:(assignEach a env).findIdx? (·.1)=none)
  (h:∀ h',Heap.ExtBut s.heap.objs.size s.heap h'->wpAny (model prog w) A (assignInOrder ((assignEach a env).map (·.2)) items.toList) Q E { s with heap:=h' }) :
  wpAny (model prog w) A (assign (.Tuple a x1 pos) env (.ref t)) Q E s:=by
 rw [assign_Tuple];refine Do (EZ ?_);unfold unpack;rw [d,b];exact Do (Ep (R3 e c h))
end
section
variable {X:Cx} {pos:Pos}
def Bs (K:PySem.W.Frag) (n:Nat) (t:TGs):TG:=λv σ H Q=>∃ a xs,v=.ref a/\SqL K H a xs/\xs.length=n/\t xs σ H Q
theorem uP {k:Nat} {t:TGs} {n:Nat} (l:X.calm=true) (h:PGs X es t)
  (j:(assignEach es X.env).length=n:=by rfl) (g:(assignEach es X.env).findIdx? (·.1)=none:=by rfl):PG X (.Tuple es k pos) (Bs X.K n t):=by
 intro pins s σ H v u Q I r f;obtain ⟨a,xs,m,z,w,f⟩:=f;subst m;cases r;obtain ⟨y,i,⟨o,q,e,c,_,d⟩,hz⟩:=I.list z;refine N4 (I.ok.hd l) ⟨o,e,c,q,d⟩ (by simp [j,<- w,i.length]) g λh' x=>?_;have p:=I.kept (t':=s.toks) λb o e=>x b o (Dw (Dv e)) e;exact h pins _ σ H xs _ Q p (by simpa using i) f
end
end L2
namespace L3
open PySem PySem.Spec PyProof.Rows L2
def W6 (a:List Nat) (d:D) (ρ:Env):Option Env:=match d with
 | .lst ds=>U5 a ds ρ
 | _=>none
section
variable {X:Cx} {cl:Nat->Addr} {xe:Addr->Hp->Prop} {e:Expr} {f:Env->M D} {pos:Pos}
theorem su (hc:X.calm=true) (hN:X.N.Nodup) (h:NamesAt X ts is):PG X (.Tuple ts k pos') (nP X.K cl (W6 is)):=
 PG.imp (uP hc (bI hN h) (B2 h).1 (B2 h).2) λv σ H Q ⟨μ,S,ρ,d,ρ',eo,rp,rd,e,q⟩=>by
  cases rd with
  | lst h1 h2=>exact ⟨_,_,rfl,h1.sq,by rw [<- h2.length];exact N3 e,μ,_,ρ,ρ',eo,h2,e,q⟩
  | _=>cases e
theorem oe (n:X.calm=true) (s:X.N.Nodup) (h:NamesAt X ts is) (u:PE X e (tD X.K cl xe f)) (m:m7 e=true) (i:bO e=true):PS X (.Assign [.Tuple ts k pos'] e pos) (sD X.K cl xe λρ=>bind (f ρ) λd=>A6 (W6 is) d ρ):=
 PS.imp (cK u (su n s h) (by unfold swapsWithSole;exact A4 m) (by cases e <;> first | rfl | (exact absurd i (by simp [bO]))) rfl) λD σ H ⟨μ,S,ρ,l,r,p⟩=>
  ⟨μ,S,ρ,l,r,p.bind.imp λd S1 a o t j b v q=>by
   cases c:W6 is d ρ with
   | none=>simp only [A6,c] at b;exact b.elim
   | some g=>simp only [A6,c] at b;exact ⟨a,S1,ρ,d,g,l.later t,j,q,c,b.ret a o (Lat.refl _ _) j⟩⟩
end
def BF:RuS where
 is _ lc e:=match e with
  | .Assign [.Tuple ts _ _] e _=>decide (("[;]" : Str)∈lc.mu)&&((j3 lc ts).isSome&&m7 e&&bO e&&!quiet lc)
  | _=>false
 run r _ _ lc e ρ:=match e with
  | .Assign [.Tuple ts _ _] e _=>(match j3 lc ts with
   | some is=>bind (r.e lc e ρ) λd=>A6 (W6 is) d ρ
   | none=>bad)
  | _=>bad
 ok {T k r Γ C lc X} e R TX h hf hi:=by
  split at hi
  ·rename_i ts n p e pos;simp at hi;obtain ⟨_,⟨⟨h1,h2⟩,h3⟩,h4⟩:=hi;show PS X _ (sD X.K T.cl (xOf X) λρ=>(match j3 lc ts with
    | some is=>bind (r.e lc e ρ) λd=>A6 (W6 is) d ρ
    | none=>bad))
   cases e1:j3 lc ts with
   | none=>exact F1
   | some is=>exact oe (h.calm h4) h.nd' (L0 h hf e1) (R.ex h _) h2 h3
  ·cases hi
 runK q _ _ lc e ρ _ k:=match e with
  | .Assign [.Tuple ts _ _] e _=>(match j3 lc ts with
   | some is=>q.e lc e ρ λd=>bind (A6 (W6 is) d ρ) k
   | none=>bad)
  | _=>bad
 eq {r q Γ C lc} e ρ _ k h:=by
  split
  ·rename_i ts n p e pos;cases j3 lc ts with
   | none=>rfl
   | some is=>simp only [h.e,bind_assoc]
  ·first
   | rfl
   | (rename_i hn;split;exact (hn _ _ _ _ _ rfl).elim;rfl)
end L3
namespace L3.K51
open PySem PySem.Spec PyProof.Rows L2
def nth (l:List Stmt) (i:Nat):Stmt:=l.getD i (.Pass ⟨0,0,0,0⟩)
def top (i:Nat):Stmt:=nth PySem.Challenge.pw_handnames_k51_told_rings.main.body i
def v1:Stmt->List Stmt
 | .For _ _ b _ _=>b
 | .While _ b _ _=>b
 | _=>[]
def qQ:Stmt->List Stmt
 | .Try b _ _ _ _=>b
 | _=>[]
def sE:Stmt->List Stmt
 | .Try _ [.ExceptHandler _ _ b _] _ _ _=>b
 | _=>[]
abbrev zQ:Fd:=j7 (top 9) []
abbrev AG:Fd:=j7 (top 10) []
abbrev CG:Fd:=j7 (top 11) []
abbrev Cm:Fd:=j7 (top 12) []
abbrev Df:Fd:=j7 (top 15) ["cell"]
abbrev Bm:Fd:=j7 (top 16) []
abbrev zO:Fd:=j7 (top 17) []
abbrev DD:Fd:=j7 (top 18) []
abbrev Dh:Fd:=j7 (top 19) ["seen"]
abbrev ir:Fd:=j7 (top 20) []
abbrev Cz:Fd:=j7 (top 24) []
abbrev vp:Fd:=j7 (top 26) []
abbrev Dl:Fd:=j7 (top 27) []
abbrev Dk:Fd:=j7 (top 28) ["lam"]
abbrev vN:Fd:=j7 (top 29) []
abbrev Cl:Fd:=j7 (top 32) []
abbrev Dm:Fd:=j7 (top 33) []
abbrev Dc:Fd:=j7 (top 34) []
abbrev Dn:Fd:=j7 (top 35) []
abbrev zj:Fd:=j7 (top 36) []
abbrev BE:Fd:=j7 (top 37) []
abbrev ny:Fd:=j7 (top 39) ["return"]
abbrev ve:Fd:=j7 (top 40) []
abbrev Di:Fd:=j7 (top 41) ["_law_found"]
abbrev vx:Fd:=j7 (top 42) []
abbrev jS:Fd:=j7 (top 43) []
abbrev Dj:Fd:=j7 (top 44) ["_law_found"]
abbrev putL_F:Fd:=j7 (top 45) []
abbrev vG:Fd:=j7 (top 46) []
abbrev BC:Fd:=j7 (top 47) []
abbrev Bc:Fd:=j7 (top 48) []
abbrev Dd:Fd:=j7 (top 49) ["_law_met"]
abbrev De:Fd:=j7 (top 50) []
abbrev DV:Fd:=j7 (top 51) []
abbrev vP:Fd:=j7 (top 52) ["~"]
abbrev Av:Fd:=j7 (top 53) []
abbrev zZ:Fd:=j7 (top 54) []
abbrev BT:Fd:=j7 (top 55) ["[;]"]
abbrev Dg:Fd:=j7 (top 56) []
abbrev law_F:Fd:=j7 (top 57) ["_law_some"]
abbrev BD:Nat:=2
abbrev Bu:Nat:=4
abbrev wq:Nat:=5
abbrev Bp:Nat:=7
abbrev wu:Nat:=8
abbrev xh:Nat:=9
abbrev AR:Nat:=10
abbrev xZ:Nat:=11
abbrev oq:Nat:=12
abbrev wL:Nat:=13
abbrev xt:Nat:=14
abbrev nY:Nat:=15
abbrev vk:Nat:=16
abbrev wF:Nat:=17
abbrev xj:Nat:=18
abbrev aE:Nat:=19
abbrev wA:Nat:=21
abbrev yi:Nat:=22
abbrev wV:Nat:=23
abbrev yY:Nat:=24
abbrev nO:Nat:=25
abbrev fR:Nat:=26
abbrev cG:Nat:=27
abbrev pY:Nat:=28
abbrev yc:Nat:=31
abbrev zC:Nat:=32
abbrev AL:Nat:=33
abbrev xl:Nat:=34
abbrev zh:Nat:=35
abbrev Ac:Nat:=36
abbrev wb:Nat:=37
abbrev lN:Nat:=38
abbrev lf:Nat:=39
def Tb:List Fd:=[zQ,AG,CG,Cm,Df,Bm,zO,DD,Dh,ir,Cz,vp,Dl,Dk,vN,Cl,Dm,Dc,Dn,zj,BE,ny,ve,Di,vx,jS,Dj,putL_F,vG,BC,Bc,Dd,De,DV,vP,Av,zZ,BT,Dg,law_F]
def Γ:Gm:=⟨("HandError",.err 0 []) :: ("NoStep",.err 1 ["hand"]) :: ("NoPaper",.err 2 ["word","at"]) :: ("NoStand",.err 3 ["word","at"]) :: ("TooMany",.err 4 ["word"]) :: ("NoType",.err 5 ["type_here"]) :: ("NoRow",.err 6 []) :: ("MOST_ROUNDS",.val (.int 4)) :: ("MOST_HANDS",.val (.int 6)) :: ("MOST_GREAT",.val (.int 1000000000)) :: ("MOST_ENTRIES",.val (.int 81)) :: ("is_whole",.fn 0 1) :: ("is_within",.fn 1 3) :: ("is_tuple_of",.fn 2 2) :: ("are_rising_hands",.fn 3 2) :: ("are_rounds",.fn 4 2) :: ("is_round",.fn 5 2) :: ("is_block",.fn 6 2) :: ("hands_of_round",.fn 7 1) :: ("seen_in",.fn 8 2) :: ("view_of",.fn 9 2) :: ("are_greats",.fn 10 1) :: ("type_of",.fn 11 2) :: ("hands_in",.fn 12 1) :: ("placed",.fn 13 3) :: ("type_at",.fn 14 3) :: ("lets_ring",.fn 15 2) :: ("check_entries",.fn 16 2) :: ("is_entry",.fn 17 2) :: ("types_of",.fn 18 1) :: ("told_ring",.fn 19 1) :: ("parted",.fn 20 2) :: ("_law_tape",.fn 21 1) :: ("_law_draw",.fn 22 2) :: ("_law_hands",.fn 23 1) :: ("_law_seen",.fn 24 2) :: ("_law_view",.fn 25 2) :: ("_law_in_view",.fn 26 1) :: ("_law_put",.fn 27 3) :: ("_law_type",.fn 28 2) :: ("_law_whole",.fn 29 3) :: ("_law_rises",.fn 30 1) :: ("_law_is_round",.fn 31 2) :: ("_law_are_rounds",.fn 32 2) :: ("_law_are_greats",.fn 33 2) :: ("_law_refused",.fn 34 1) :: ("_law_ring_types",.fn 35 1) :: ("_law_is_ring_entry",.fn 36 2) :: ("_law_ring_due",.fn 37 2) :: ("_law_told",.fn 38 2) :: ("law",.fn 39 1) :: [],λc c0=>c0==0||c==c0,["hand","word","at","type_here"],[34]⟩
def Rs:Rules:=⟨[wn,zI,CC,Cb,rIx,DA,Cg,rFn,CJ,Cu,BQ,AJ,By,qP,uN,tU,CL,wP,BK,rQ,lY,Db,DC,zq,rIf,CF,DP,rSl,DW,wc,yG,ym,yS,rAppend,ou,rR,wl],[xk,Aq,CY,cI,yr],[xN,Ci,sIf,Ce,Bh,Ca,Bz,mi,gz,Ck,BF,CW,zD,AS,zW,zB],[qR,rf,BL,CI]⟩
abbrev rn (k i:Nat) (ds:List D):M D:=O0 Rs Γ Tb k i ds
def cA:Lc:=A9 Df
section
variable (C:Cf) {α:Type} (κ:Fl->M α) {ua ub uc ud:D} {qa qb qc qd qe qf qg:Option D}
theorem xx:runK Rs Γ C Df [ua,ub]=k6 (evK Rs Γ C 40) cA Df.body [some ua,some ub,none,none,none] endD:=by kernel_rfl
theorem xT:Df.body=[nth Df.body 0,nth Df.body 1,nth Df.body 2,nth Df.body 3]:=by kernel_rfl
theorem DL:(evK Rs Γ C 40).s cA (nth Df.body 0) [qa,some ua,qb,qc,qd] κ=bind (U4 "tuple" (λ_=>false) ua) λx1=>bind (o7 x1) λz2=>if (!z2)=true then (κ (.rt (.bl false))) else (bind (v9 ua) λx3=>bind (d7 .LtE (.int 1) x3) λx4=>bind (asB x4) λz5=>if z5=true then (bind (d7 .LtE x3 (.int 4)) λx6=>bind (asB x6) λz7=>if (!z7)=true then (κ (.rt (.bl false))) else (κ (.nx [qa,some ua,qb,qc,qd]))) else (if (!false)=true then (κ (.rt (.bl false))) else (κ (.nx [qa,some ua,qb,qc,qd])))):=by kernel_rfl
theorem DT:(evK Rs Γ C 40).s cA (nth Df.body 1) [some ua,qa,qb,qc,qd] κ=bind (Z2 ua) λx1=>κ (.nx [some ua,qa,some x1,qc,qd]):=by kernel_rfl
def K0:List Stmt:=v1 (nth Df.body 2)
def ib (C:Cf):L3.Env->M Fl:=λρ'=>k6 (evK Rs Γ C 39) cA K0 ρ' ret
theorem Cs:(evK Rs Γ C 40).s cA (nth Df.body 2) [qa,some ua,qb,qc,qd] κ=bind (q9 ua) λsm1=>bind (u0 sm1.1 (λd ρ=>some (ρ.set 3 (some d))) (ib C) sm1.2 0 [qa,some ua,qb,qc,qd]) κ:=by kernel_rfl
theorem Cy:(evK Rs Γ C 40).s cA (nth Df.body 3) [qa,qb,qc,qd,qe] κ=κ (.rt (.bl true)):=by kernel_rfl
theorem gT:K0=[nth K0 0,nth K0 1,nth K0 2]:=by kernel_rfl
theorem pc:(evK Rs Γ C 39).s cA (nth K0 0) [some ua,qa,qb,some ub,qc] κ=bind (C 5 [ua,ub]) λx1=>bind (o7 x1) λz2=>if (!z2)=true then (κ (.rt (.bl false))) else (κ (.nx [some ua,qa,qb,some ub,qc])):=by kernel_rfl
theorem lP:(evK Rs Γ C 39).s cA (nth K0 1) [qa,qb,some ua,some ub,qc] κ=bind (C 7 [ub]) λx1=>κ (.nx [qa,qb,some x1,some ub,some ua]):=by kernel_rfl
theorem lJ:(evK Rs Γ C 39).s cA (nth K0 2) [qa,qb,some ua,qc,some ub] κ=bind (nx (bind (q9 ua) λsm2=>d9 sm2.1 (λd1=>ret true) (λd1=>bind (d7 .In d1 ub) λx3=>ret x3) sm2.2 0 [])) λl4=>bind (xq (.lst l4)) λx5=>bind (o7 x5) λz6=>if (!z6)=true then (κ (.rt (.bl false))) else (κ (.nx [qa,qb,some ua,qc,some ub])):=by kernel_rfl
def av:Lc:=A9 Dh
theorem rE:runK Rs Γ C Dh [ua,ub]=k6 (evK Rs Γ C 40) av Dh.body [some ua,some ub,none,none] endD:=by kernel_rfl
theorem sF:Dh.body=[nth Dh.body 0,nth Dh.body 1,nth Dh.body 2]:=by kernel_rfl
theorem zL:(evK Rs Γ C 40).s av (nth Dh.body 0) [qa,qb,qc,qd] κ=bind (newL []) λx1=>κ (.nx [qa,qb,some x1,qd]):=by kernel_rfl
def L7:List Stmt:=v1 (nth Dh.body 1)
def dY (C:Cf):L3.Env->M Fl:=λρ'=>k6 (evK Rs Γ C 39) av L7 ρ' ret
theorem zH:(evK Rs Γ C 40).s av (nth Dh.body 1) [some ua,qa,qb,qc] κ=bind (q9 ua) λsm1=>bind (u0 sm1.1 (λd ρ=>some (ρ.set 3 (some d))) (dY C) sm1.2 0 [some ua,qa,qb,qc]) κ:=by kernel_rfl
theorem Ag:(evK Rs Γ C 40).s av (nth Dh.body 2) [qa,qb,some ua,qc] κ=bind (u5 ua) λx1=>κ (.rt x1):=by kernel_rfl
theorem eU:L7=[nth L7 0,nth L7 1]:=by kernel_rfl
theorem kr:(evK Rs Γ C 39).s av (nth L7 0) [qa,qb,some ua,some ub] κ=bind (lstOf ua) λ_=>bind (ext2D ua [ub]) λx1=>κ (.nx [qa,qb,some ua,some ub]):=by kernel_rfl
theorem je:(evK Rs Γ C 39).s av (nth L7 1) [qa,some ua,qb,some ub] κ=bind (d7 .In ua ub) λx1=>bind (asB x1) λz2=>if z2=true then (κ (.bk [qa,some ua,qb,some ub])) else (κ (.nx [qa,some ua,qb,some ub])):=by kernel_rfl
theorem iw:runK Rs Γ C ir [ua,ub]=bind (o7 ua) λz1=>if (!z1)=true then (ret (.tup [ub,(.tup [])])) else (bind (cr (.int 1)) λx2=>bind (kR x2) λn3=>bind (slD ua none n3) λx4=>bind (nx (bind (cr (.int 1)) λx6=>bind (ixD ua x6) λx7=>bind (C 8 [x7,ub]) λx8=>bind (q9 x8) λsm9=>d9 sm9.1 (λd5=>ret true) (λd5=>bind (C 9 [x4,d5]) λx10=>ret x10) sm9.2 0 [])) λl11=>bind (U6 (.lst l11)) λx12=>ret (.tup [ub,x12])):=by kernel_rfl
theorem tj:runK Rs Γ C vp [ua,ub]=bind (nx (bind (C 12 [ub]) λx2=>bind (q9 x2) λsm3=>d9 sm3.1 (λd1=>ret true) (λd1=>bind (ixD ua d1) λx4=>ret x4) sm3.2 0 [])) λl5=>bind (D5 (.lst l5)) λx6=>bind (C 13 [ua,x6,ub]) λx7=>ret x7:=by kernel_rfl
def qF:Lc:=A9 Dl
theorem iM:runK Rs Γ C Dl [ua]=k6 (evK Rs Γ C 40) qF Dl.body [some ua,none,none] endD:=by kernel_rfl
theorem il:Dl.body=[nth Dl.body 0,nth Dl.body 1]:=by kernel_rfl
theorem vr:(evK Rs Γ C 40).s qF (nth Dl.body 0) [some ua,qa,qb] κ=bind (A6 (y3 [1,2]) ua [some ua,qa,qb]) κ:=by kernel_rfl
theorem vJ:(evK Rs Γ C 40).s qF (nth Dl.body 1) [qa,some ua,some ub] κ=bind (nx (bind (q9 ub) λsm3=>k9 sm3.1 (λd1=>ret true) (λd1=>bind (C 12 [d1]) λx4=>bind (q9 x4) λsm5=>ret sm5) (λd1 d2=>ret true) (λd1 d2=>ret d2) sm3.2 0 [])) λl6=>bind (aj (.lst [ua]) (.lst l6)) λx7=>κ (.rt x7):=by kernel_rfl
def jC:Lc:=A9 Dk
theorem jW:runK Rs Γ C Dk [ua,ub,uc]=k6 (evK Rs Γ C 40) jC Dk.body [some ua,some ub,some uc,none,none,none] endD:=by kernel_rfl
theorem jG:Dk.body=[nth Dk.body 0,nth Dk.body 1,nth Dk.body 2]:=by kernel_rfl
theorem vT:(evK Rs Γ C 40).s jC (nth Dk.body 0) [qa,qb,some ua,qc,qd,qe] κ=bind (A6 (y3 [3,4]) ua [qa,qb,some ua,qc,qd,qe]) κ:=by kernel_rfl
theorem vj:(evK Rs Γ C 40).s jC (nth Dk.body 1) [some ua,some ub,qa,qb,some uc,qc] κ=bind (nx (bind (q9 uc) λsm2=>d9 sm2.1 (λd1=>ret true) (λd1=>bind (C 13 [ua,ub,d1]) λx3=>ret x3) sm2.2 0 [])) λl4=>κ (.nx [some ua,some ub,qa,qb,some uc,some (.lst l4)]):=by kernel_rfl
theorem vL:(evK Rs Γ C 40).s jC (nth Dk.body 2) [some ua,some ub,qa,some uc,qb,some ud] κ=bind (sqK ub) λ_=>bind (ixD ua uc) λx1=>bind (aB ub [x1]) λx2=>bind (D4 ud) λx3=>bind (U6 x3) λx4=>κ (.rt (.tup [x2,x4])):=by kernel_rfl
theorem sC:runK Rs Γ C vN [ua,ub,uc]=bind (C 9 [ub,uc]) λx1=>bind (C 11 [ua,x1]) λx2=>ret x2:=by kernel_rfl
def N1:Lc:=A9 Cl
theorem hW:runK Rs Γ C Cl [ua,ub]=k6 (evK Rs Γ C 40) N1 Cl.body [some ua,some ub,none,none,none,none,none] endD:=by kernel_rfl
theorem hG:Cl.body=[nth Cl.body 0,nth Cl.body 1,nth Cl.body 2,nth Cl.body 3,nth Cl.body 4]:=by kernel_rfl
theorem vI:(evK Rs Γ C 40).s N1 (nth Cl.body 0) [some ua,some ub,qa,qb,qc,qd,qe] κ=bind (C 16 [ua,ub]) λx1=>κ (.nx [some ua,some ub,qa,qb,qc,qd,qe]):=by kernel_rfl
theorem zp:(evK Rs Γ C 40).s N1 (nth Cl.body 1) [qa,some ua,qb,qc,qd,qe,qf] κ=bind (ixD ua (.int 0)) λx1=>bind (C 18 [x1]) λx2=>bind (A6 (y3 [2,3]) x2 [qa,some ua,qb,qc,qd,qe,qf]) κ:=by kernel_rfl
def D2:List Stmt:=v1 (nth Cl.body 2)
def eC (C:Cf):L3.Env->M Fl:=λρ'=>k6 (evK Rs Γ C 39) N1 D2 ρ' ret
theorem zn:(evK Rs Γ C 40).s N1 (nth Cl.body 2) [qa,some ua,qb,qc,qd,qe,qf] κ=bind (v9 ua) λx1=>bind (C8 [(.int 1),x1]) λsm2=>bind (u0 sm2.1 (λd ρ=>some (ρ.set 4 (some d))) (eC C) sm2.2 0 [qa,some ua,qb,qc,qd,qe,qf]) κ:=by kernel_rfl
theorem AQ:(evK Rs Γ C 40).s N1 (nth Cl.body 3) [qa,qb,some ua,some ub,qc,qd,qe] κ=bind (d7 .NotEq ub ua) λx1=>bind (asB x1) λz2=>if z2=true then (bind (K2 2 ["word","at"] [(.str "ring"),(.int 0)]) λx3=>bind (A7 x3) (fin κ)) else (κ (.nx [qa,qb,some ua,some ub,qc,qd,qe])):=by kernel_rfl
theorem AZ:(evK Rs Γ C 40).s N1 (nth Cl.body 4) [qa,qb,qc,qd,qe,qf,qg] κ=κ (.rt (.bl true)):=by kernel_rfl
theorem ef:D2=[nth D2 0,nth D2 1,nth D2 2]:=by kernel_rfl
theorem kf:(evK Rs Γ C 39).s N1 (nth D2 0) [qa,some ua,qb,qc,some ub,qd,qe] κ=bind (ixD ua ub) λx1=>bind (C 18 [x1]) λx2=>bind (A6 (y3 [5,6]) x2 [qa,some ua,qb,qc,some ub,qd,qe]) κ:=by kernel_rfl
theorem kl:(evK Rs Γ C 39).s N1 (nth D2 1) [qa,qb,qc,some ua,some ub,some uc,some ud] κ=bind (d7 .NotIn ua (.tup [uc,ud])) λx1=>bind (asB x1) λz2=>if z2=true then (bind (K2 2 ["word","at"] [(.str "link"),ub]) λx3=>bind (A7 x3) (fin κ)) else (κ (.nx [qa,qb,qc,some ua,some ub,some uc,some ud])):=by kernel_rfl
theorem bQ:(evK Rs Γ C 39).s N1 (nth D2 2) [qa,qb,qc,some ua,qd,some ub,some uc] κ=bind (d7 .Eq ua ub) λx1=>bind (asB x1) λz2=>if z2=true then (κ (.nx [qa,qb,qc,some uc,qd,some ub,some uc])) else (κ (.nx [qa,qb,qc,some ub,qd,some ub,some uc])):=by kernel_rfl
def og:Lc:=A9 Dm
theorem lz:runK Rs Γ C Dm [ua,ub]=k6 (evK Rs Γ C 40) og Dm.body [some ua,some ub,none,none] endD:=by kernel_rfl
theorem oY:Dm.body=[nth Dm.body 0,nth Dm.body 1]:=by kernel_rfl
theorem Br:(evK Rs Γ C 40).s og (nth Dm.body 0) [qa,some ua,qb,qc] κ=bind (U4 "tuple" (λ_=>false) ua) λx1=>bind (o7 x1) λz2=>if (!z2)=true then (bind (K2 2 ["word","at"] [(.str "shape"),(.int 0)]) λx3=>bind (A7 x3) (fin κ)) else (bind (v9 ua) λx4=>bind (Q8 x4 (.int 2)) λx5=>bind (d7 .Eq x5 (.int 0)) λx6=>bind (asB x6) λz7=>if z7=true then (bind (K2 2 ["word","at"] [(.str "shape"),(.int 0)]) λx8=>bind (A7 x8) (fin κ)) else (bind (v9 ua) λx9=>bind (d7 .Gt x9 (.int 81)) λx10=>bind (asB x10) λz11=>if z11=true then (bind (K2 2 ["word","at"] [(.str "shape"),(.int 0)]) λx12=>bind (A7 x12) (fin κ)) else (κ (.nx [qa,some ua,qb,qc])))):=by kernel_rfl
def bu:List Stmt:=v1 (nth Dm.body 1)
def cp (C:Cf):L3.Env->M Fl:=λρ'=>k6 (evK Rs Γ C 39) og bu ρ' ret
theorem zk:(evK Rs Γ C 40).s og (nth Dm.body 1) [qa,some ua,qb,qc] κ=bind (bi ua) λsm1=>bind (u0 sm1.1 (y3 [2,3]) (cp C) sm1.2 0 [qa,some ua,qb,qc]) κ:=by kernel_rfl
theorem ab:bu=[nth bu 0]:=by kernel_rfl
theorem eG:(evK Rs Γ C 39).s og (nth bu 0) [some ua,qa,some ub,some uc] κ=bind (C 17 [ua,uc]) λx1=>bind (o7 x1) λz2=>if (!z2)=true then (bind (K2 2 ["word","at"] [(.str "entry"),ub]) λx3=>bind (A7 x3) (fin κ)) else (κ (.nx [some ua,qa,some ub,some uc])):=by kernel_rfl
def bF:Lc:=A9 Dc
theorem sf:runK Rs Γ C Dc [ua,ub]=k6 (evK Rs Γ C 40) bF Dc.body [some ua,some ub,none,none] endD:=by kernel_rfl
theorem uA:Dc.body=[nth Dc.body 0,nth Dc.body 1,nth Dc.body 2,nth Dc.body 3,nth Dc.body 4]:=by kernel_rfl
theorem BI:(evK Rs Γ C 40).s bF (nth Dc.body 0) [qa,some ua,qb,qc] κ=bind (C 2 [ua,(.int 2)]) λx1=>bind (o7 x1) λz2=>if (!z2)=true then (κ (.rt (.bl false))) else (κ (.nx [qa,some ua,qb,qc])):=by kernel_rfl
theorem AE:(evK Rs Γ C 40).s bF (nth Dc.body 1) [qa,some ua,qb,qc] κ=bind (A6 (y3 [2,3]) ua [qa,some ua,qb,qc]) κ:=by kernel_rfl
theorem Aa:(evK Rs Γ C 40).s bF (nth Dc.body 2) [qa,qb,some ua,qc] κ=bind (C 10 [ua]) λx1=>bind (o7 x1) λz2=>if (!z2)=true then (κ (.rt (.bl false))) else (bind (v9 ua) λx3=>bind (d7 .NotEq x3 (.int 2)) λx4=>bind (asB x4) λz5=>if z5=true then (κ (.rt (.bl false))) else (κ (.nx [qa,qb,some ua,qc]))):=by kernel_rfl
theorem Au:(evK Rs Γ C 40).s bF (nth Dc.body 3) [some ua,qa,qb,some ub] κ=bind (C 4 [(.int 2),ub]) λx1=>bind (o7 x1) λz2=>if (!z2)=true then (κ (.rt (.bl false))) else (bind (v9 ub) λx3=>bind (d7 .NotEq x3 ua) λx4=>bind (asB x4) λz5=>if z5=true then (κ (.rt (.bl false))) else (κ (.nx [some ua,qa,qb,some ub]))):=by kernel_rfl
theorem zo:(evK Rs Γ C 40).s bF (nth Dc.body 4) [qa,qb,qc,some ua] κ=bind (nx (bind (cr (.int 1)) λx2=>bind (ixD ua x2) λx3=>bind (q9 x3) λsm4=>d9 sm4.1 (λd1=>ret true) (λd1=>bind (v9 d1) λx5=>ret x5) sm4.2 0 [])) λl6=>bind (oS (.lst l6)) λx7=>bind (d7 .Eq x7 (.int 2)) λx8=>κ (.rt x8):=by kernel_rfl
def nt:Lc:=A9 Dn
theorem rM:runK Rs Γ C Dn [ua]=k6 (evK Rs Γ C 40) nt Dn.body [some ua,none,none] endD:=by kernel_rfl
theorem rP:Dn.body=[nth Dn.body 0,nth Dn.body 1]:=by kernel_rfl
theorem AN:(evK Rs Γ C 40).s nt (nth Dn.body 0) [some ua,qa,qb] κ=bind (A6 (y3 [1,2]) ua [some ua,qa,qb]) κ:=by kernel_rfl
theorem AU:(evK Rs Γ C 40).s nt (nth Dn.body 1) [qa,some ua,some ub] κ=bind (C 14 [ua,ub,(.int 0)]) λx1=>bind (C 14 [ua,ub,(.int 1)]) λx2=>κ (.rt (.tup [x1,x2])):=by kernel_rfl
theorem uS:runK Rs Γ C ny [ua]=bind (slD ua none (some 63)) λx1=>bind (nF x1) λx2=>bind (newL [x2,(.int 0),(.int 0),(.int 0)]) λx3=>ret x3:=by kernel_rfl
theorem tr (C:Cf) (p x:D):runK Rs Γ C ve [p,x]=jN p x:=by kernel_rfl
def bV:Lc:=A9 Di
theorem sL:runK Rs Γ C Di [ua]=k6 (evK Rs Γ C 40) bV Di.body [some ua,none,none] endD:=by kernel_rfl
theorem tR:Di.body=[nth Di.body 0,nth Di.body 1,nth Di.body 2]:=by kernel_rfl
theorem Aj:(evK Rs Γ C 40).s bV (nth Di.body 0) [qa,qb,qc] κ=bind (newL []) λx1=>κ (.nx [qa,some x1,qc]):=by kernel_rfl
def Y7:List Stmt:=v1 (nth Di.body 1)
def fL (C:Cf):L3.Env->M Fl:=λρ'=>k6 (evK Rs Γ C 39) bV Y7 ρ' ret
theorem AC:(evK Rs Γ C 40).s bV (nth Di.body 1) [some ua,qa,qb] κ=bind (q9 ua) λsm1=>bind (u0 sm1.1 (λd ρ=>some (ρ.set 2 (some d))) (fL C) sm1.2 0 [some ua,qa,qb]) κ:=by kernel_rfl
theorem Bj:(evK Rs Γ C 40).s bV (nth Di.body 2) [qa,some ua,qb] κ=bind (u5 ua) λx1=>κ (.rt x1):=by kernel_rfl
theorem fI:Y7=[nth Y7 0]:=by kernel_rfl
theorem kg:(evK Rs Γ C 39).s bV (nth Y7 0) [qa,some ua,some ub] κ=bind (lstOf ua) λ_=>bind (ext2D ua [ub]) λx1=>κ (.nx [qa,some ua,some ub]):=by kernel_rfl
theorem rV:runK Rs Γ C vx [ua,ub]=bind (nx (bind (v9 ua) λx2=>bind (C8 [x2]) λsm3=>d9 sm3.1 (λd1=>bind (ixD ua d1) λx4=>bind (d7 .In ub x4) λx5=>bind (asB x5) λz6=>ret z6) (λd1=>ret d1) sm3.2 0 [])) λl7=>bind (ixD (.lst l7) (.int 0)) λx8=>bind (aj x8 (.int 1)) λx9=>bind (kR x9) λn10=>bind (slD ua none n10) λx11=>bind (C 23 [x11]) λx12=>ret x12:=by kernel_rfl
theorem im:runK Rs Γ C jS [ua,ub]=bind (d7 .Eq ua (.tup [])) λx1=>bind (asB x1) λz2=>if z2=true then (ret (.tup [ub,(.tup [])])) else (bind (nx (bind (cr (.int 1)) λx4=>bind (ixD ua x4) λx5=>bind (C 24 [x5,ub]) λx6=>bind (q9 x6) λsm7=>d9 sm7.1 (λd3=>ret true) (λd3=>bind (cr (.int 1)) λx8=>bind (kR x8) λn9=>bind (slD ua none n9) λx10=>bind (C 25 [x10,d3]) λx11=>ret x11) sm7.2 0 [])) λl12=>bind (U6 (.lst l12)) λx13=>ret (.tup [ub,x13])):=by kernel_rfl
def bN:Lc:=A9 Dj
theorem tG:runK Rs Γ C Dj [ua]=k6 (evK Rs Γ C 40) bN Dj.body [some ua,none,none] endD:=by kernel_rfl
theorem rJ:Dj.body=[nth Dj.body 0,nth Dj.body 1,nth Dj.body 2]:=by kernel_rfl
theorem zA:(evK Rs Γ C 40).s bN (nth Dj.body 0) [some ua,qa,qb] κ=bind (ixD ua (.int 0)) λx1=>bind (newL [x1]) λx2=>κ (.nx [some ua,some x2,qb]):=by kernel_rfl
def X9:List Stmt:=v1 (nth Dj.body 1)
def eh (C:Cf):L3.Env->M Fl:=λρ'=>k6 (evK Rs Γ C 39) bN X9 ρ' ret
theorem Ay:(evK Rs Γ C 40).s bN (nth Dj.body 1) [some ua,qa,qb] κ=bind (ixD ua (.int 1)) λx1=>bind (q9 x1) λsm2=>bind (u0 sm2.1 (λd ρ=>some (ρ.set 2 (some d))) (eh C) sm2.2 0 [some ua,qa,qb]) κ:=by kernel_rfl
theorem zr:(evK Rs Γ C 40).s bN (nth Dj.body 2) [qa,some ua,qb] κ=κ (.rt ua):=by kernel_rfl
theorem dS:X9=[nth X9 0]:=by kernel_rfl
theorem kD:(evK Rs Γ C 39).s bN (nth X9 0) [qa,some ua,some ub] κ=bind (lstOf ua) λ_=>bind (C 26 [ub]) λx1=>bind (ext2D ua [x1]) λx2=>κ (.nx [qa,some ua,some ub]):=by kernel_rfl
def putL_L:Lc:=A9 putL_F
def M4:Expr×List Expr×Scope:=match (nth putL_F.body 2) with
 | .Return (some (.Tuple [_,.Call _ [.ListComp elt [⟨_,_,ifs,_⟩] scope _] _ _] _ _)) _=>(elt,ifs,scope)
 | _=>(.Name "" ⟨0,0,0,0⟩,[],default)
def ae (C:Cf) (ρ:L3.Env) (d:D):M Bool:=match i4 (f8 putL_L.N) (k7 M4.2.2) with
 | some caps=>sj (testsK (evK Rs Γ C 36) (d8 putL_L M4.2.2 ["_law_great","_law_one"]) M4.2.1) (mk2 (d4 caps ρ) d)
 | none=>bad
theorem cW:ae C [qa,qb,qc,qd,qe] (.tup [ua,ub])=ret true:=by kernel_rfl
def aA (C:Cf) (ρ:L3.Env) (d:D):M D:=match i4 (f8 putL_L.N) (k7 M4.2.2) with
 | some caps=>(evK Rs Γ C 36).e (d8 putL_L M4.2.2 ["_law_great","_law_one"]) M4.1 (mk2 (d4 caps ρ) d) ret
 | none=>bad
theorem cy:aA C [qa,qb,qc,qd,qe] (.tup [ua,ub])=ret ub:=by kernel_rfl
theorem nQ:runK Rs Γ C putL_F [ua,ub,uc]=bind (nx (bind (q9 ub) λsm2=>d9 sm2.1 (λd1=>bind (ixD ua d1) λx3=>bind (ixD uc (.int 0)) λx4=>bind (ixD ua x4) λx5=>bind (d7 .Lt x3 x5) λx6=>bind (asB x6) λz7=>ret z7) (λd1=>ret d1) sm2.2 0 [])) λl8=>bind (v9 (.lst l8)) λx9=>bind (nx (bind (ixD uc (.int 1)) λx11=>bind (q9 x11) λsm12=>d9 sm12.1 (λd10=>ret true) (λd10=>bind (ixD d10 (.int 0)) λx13=>bind (ixD ua x13) λx14=>bind (C 27 [ua,ub,d10]) λx15=>ret (.tup [x14,x15])) sm12.2 0 [])) λl16=>bind (u5 (.lst l16)) λx17=>bind (nx (bind (q9 x17) λsm18=>d9 sm18.1 (ae C [some ua,some ub,some uc,some x9,some x17]) (aA C [some ua,some ub,some uc,some x9,some x17]) sm18.2 0 [])) λl19=>bind (U6 (.lst l19)) λx20=>ret (.tup [x9,x20]):=by kernel_rfl
theorem uE:runK Rs Γ C vG [ua,ub]=bind (C 26 [ub]) λx1=>bind (D5 x1) λx2=>bind (C 27 [ua,x2,ub]) λx3=>ret x3:=by kernel_rfl
def Q1:Lc:=A9 Dd
theorem rL:runK Rs Γ C Dd [ua,ub]=k6 (evK Rs Γ C 40) Q1 Dd.body [some ua,some ub,none,none] endD:=by kernel_rfl
theorem sZ:Dd.body=[nth Dd.body 0,nth Dd.body 1,nth Dd.body 2,nth Dd.body 3]:=by kernel_rfl
theorem AI:(evK Rs Γ C 40).s Q1 (nth Dd.body 0) [qa,some ua,qb,qc] κ=bind (U4 "tuple" (λ_=>false) ua) λx1=>bind (o7 x1) λz2=>if (!z2)=true then (κ (.rt (.bl false))) else (bind (d7 .Eq ua (.tup [])) λx3=>bind (asB x3) λz4=>if z4=true then (κ (.rt (.bl false))) else (κ (.nx [qa,some ua,qb,qc]))):=by kernel_rfl
theorem zV:(evK Rs Γ C 40).s Q1 (nth Dd.body 1) [qa,qb,qc,qd] κ=bind (newL []) λx1=>κ (.nx [qa,qb,some x1,qd]):=by kernel_rfl
def D0:List Stmt:=v1 (nth Dd.body 2)
def fA (C:Cf):L3.Env->M Fl:=λρ'=>k6 (evK Rs Γ C 39) Q1 D0 ρ' ret
theorem AK:(evK Rs Γ C 40).s Q1 (nth Dd.body 2) [qa,some ua,qb,qc] κ=bind (q9 ua) λsm1=>bind (u0 sm1.1 (λd ρ=>some (ρ.set 3 (some d))) (fA C) sm1.2 0 [qa,some ua,qb,qc]) κ:=by kernel_rfl
theorem yz:(evK Rs Γ C 40).s Q1 (nth Dd.body 3) [qa,qb,some ua,qc] κ=bind (u5 ua) λx1=>bind (C 30 [x1]) λx2=>κ (.rt x2):=by kernel_rfl
theorem dz:D0=[nth D0 0,nth D0 1,nth D0 2]:=by kernel_rfl
theorem jt:(evK Rs Γ C 39).s Q1 (nth D0 0) [qa,qb,qc,some ua] κ=bind (U4 "tuple" (λ_=>false) ua) λx1=>bind (o7 x1) λz2=>if (!z2)=true then (κ (.rt (.bl false))) else (bind (d7 .Eq ua (.tup [])) λx3=>bind (asB x3) λz4=>if z4=true then (κ (.rt (.bl false))) else (κ (.nx [qa,qb,qc,some ua]))):=by kernel_rfl
theorem ko:(evK Rs Γ C 39).s Q1 (nth D0 1) [some ua,qa,qb,some ub] κ=bind (nx (bind (q9 ub) λsm2=>d9 sm2.1 (λd1=>ret true) (λd1=>bind (ng ua (.int 1)) λx3=>bind (C 29 [d1,(.int 0),x3]) λx4=>ret x4) sm2.2 0 [])) λl5=>bind (d7 .In (.bl false) (.lst l5)) λx6=>bind (asB x6) λz7=>if z7=true then (κ (.rt (.bl false))) else (bind (C 30 [ub]) λx8=>bind (o7 x8) λz9=>if (!z9)=true then (κ (.rt (.bl false))) else (κ (.nx [some ua,qa,qb,some ub]))):=by kernel_rfl
theorem ju:(evK Rs Γ C 39).s Q1 (nth D0 2) [qa,qb,some ua,some ub] κ=bind (lstOf ua) λ_=>bind (ext2D ua [ub]) λx1=>κ (.nx [qa,qb,some ua,some ub]):=by kernel_rfl
def dj:Lc:=A9 De
theorem wR:runK Rs Γ C De [ua,ub]=k6 (evK Rs Γ C 40) dj De.body [some ua,some ub,none,none] endD:=by kernel_rfl
theorem xw:De.body=[nth De.body 0,nth De.body 1,nth De.body 2,nth De.body 3]:=by kernel_rfl
theorem CU:(evK Rs Γ C 40).s dj (nth De.body 0) [qa,some ua,qb,qc] κ=bind (U4 "tuple" (λ_=>false) ua) λx1=>bind (o7 x1) λz2=>if (!z2)=true then (κ (.rt (.bl false))) else (bind (v9 ua) λx3=>bind (d7 .LtE (.int 1) x3) λx4=>bind (asB x4) λz5=>if z5=true then (bind (d7 .LtE x3 (.int 4)) λx6=>bind (asB x6) λz7=>if (!z7)=true then (κ (.rt (.bl false))) else (κ (.nx [qa,some ua,qb,qc]))) else (if (!false)=true then (κ (.rt (.bl false))) else (κ (.nx [qa,some ua,qb,qc])))):=by kernel_rfl
theorem CB:(evK Rs Γ C 40).s dj (nth De.body 1) [some ua,some ub,qa,qb] κ=bind (nx (bind (q9 ub) λsm2=>d9 sm2.1 (λd1=>ret true) (λd1=>bind (C 31 [ua,d1]) λx3=>ret x3) sm2.2 0 [])) λl4=>bind (d7 .In (.bl false) (.lst l4)) λx5=>bind (asB x5) λz6=>if z6=true then (κ (.rt (.bl false))) else (κ (.nx [some ua,some ub,qa,qb])):=by kernel_rfl
def V3:List Stmt:=v1 (nth De.body 2)
def iF (C:Cf):L3.Env->M Fl:=λρ'=>k6 (evK Rs Γ C 39) dj V3 ρ' ret
theorem CQ:(evK Rs Γ C 40).s dj (nth De.body 2) [qa,some ua,qb,qc] κ=bind (v9 ua) λx1=>bind (C8 [(.int 1),x1]) λsm2=>bind (u0 sm2.1 (λd ρ=>some (ρ.set 2 (some d))) (iF C) sm2.2 0 [qa,some ua,qb,qc]) κ:=by kernel_rfl
theorem CK:(evK Rs Γ C 40).s dj (nth De.body 3) [qa,qb,qc,qd] κ=κ (.rt (.bl true)):=by kernel_rfl
theorem fv:V3=[nth V3 0,nth V3 1]:=by kernel_rfl
theorem nl:(evK Rs Γ C 39).s dj (nth V3 0) [qa,some ua,some ub,qb] κ=bind (ng ub (.int 1)) λx1=>bind (ixD ua x1) λx2=>bind (C 23 [x2]) λx3=>κ (.nx [qa,some ua,some ub,some x3]):=by kernel_rfl
theorem li:(evK Rs Γ C 39).s dj (nth V3 1) [qa,some ua,some ub,some uc] κ=bind (nx (bind (ixD ua ub) λx2=>bind (C 23 [x2]) λx3=>bind (q9 x3) λsm4=>d9 sm4.1 (λd1=>bind (d7 .NotIn d1 uc) λx5=>bind (asB x5) λz6=>ret z6) (λd1=>ret d1) sm4.2 0 [])) λl7=>bind (d7 .NotEq (.lst l7) (.lst [])) λx8=>bind (asB x8) λz9=>if z9=true then (κ (.rt (.bl false))) else (κ (.nx [qa,some ua,some ub,some uc])):=by kernel_rfl
theorem sr:runK Rs Γ C vP [ua]=bind (B0 (λc=>[6,3,1,5,4].any λc0=>Γ.sub c c0) ua) λx1=>bind (B0 (λc=>Γ.sub c 2) ua) λx2=>bind (o7 x2) λz3=>if z3=true then (bind (B0 (λ_=>true) ua) λx4=>bind (o7 x4) λz5=>if z5=true then (bind (o7 x1) λz6=>if (!z6)=true then (bind (dM "word" ua) λx7=>bind (dM "at" ua) λx8=>ret (.tup [x7,x8])) else (ret (.tup [(.str "other")]))) else (ret (.tup [(.str "other")]))) else (ret (.tup [(.str "other")])):=by kernel_rfl
theorem wZ:runK Rs Γ C Av [ua]=bind (nx (bind (q9 (.tup [(.int 0),(.int 1)])) λsm2=>d9 sm2.1 (λd1=>ret true) (λd1=>bind (ixD ua (.int 0)) λx3=>bind (ixD ua (.int 1)) λx4=>bind (C 25 [x4,d1]) λx5=>bind (C 28 [x3,x5]) λx6=>ret x6) sm2.2 0 [])) λl7=>ret (.lst l7):=by kernel_rfl
theorem xD:runK Rs Γ C zZ [ua,ub]=bind (U4 "tuple" (λ_=>false) ub) λx1=>bind (o7 x1) λz2=>if (!z2)=true then (ret (.bl false)) else (bind (v9 ub) λx3=>bind (d7 .NotEq x3 (.int 2)) λx4=>bind (asB x4) λz5=>if z5=true then (ret (.bl false)) else (bind (ixD ub (.int 0)) λx6=>bind (C 33 [(.int 2),x6]) λx7=>bind (o7 x7) λz8=>if (!z8)=true then (ret (.bl false)) else (bind (ixD ub (.int 0)) λx9=>bind (v9 x9) λx10=>bind (d7 .NotEq x10 (.int 2)) λx11=>bind (asB x11) λz12=>if z12=true then (ret (.bl false)) else (bind (ixD ub (.int 1)) λx13=>bind (C 32 [(.int 2),x13]) λx14=>bind (o7 x14) λz15=>if (!z15)=true then (ret (.bl false)) else (bind (ixD ub (.int 1)) λx16=>bind (v9 x16) λx17=>bind (d7 .NotEq x17 ua) λx18=>bind (asB x18) λz19=>if z19=true then (ret (.bl false)) else (bind (nx (bind (ixD ub (.int 1)) λx21=>bind (q9 x21) λsm22=>d9 sm22.1 (λd20=>bind (C 23 [d20]) λx23=>bind (d7 .NotEq x23 (.lst [(.int 0),(.int 1)])) λx24=>bind (asB x24) λz25=>ret z25) (λd20=>ret d20) sm22.2 0 [])) λl26=>bind (d7 .Eq (.lst l26) (.lst [])) λx27=>ret x27)))))):=by kernel_rfl
def G0:Lc:=A9 BT
theorem tP:runK Rs Γ C BT [ua,ub]=k6 (evK Rs Γ C 40) G0 BT.body [some ua,some ub,none,none,none,none,none] endD:=by kernel_rfl
theorem qV:BT.body=[nth BT.body 0,nth BT.body 1,nth BT.body 2,nth BT.body 3,nth BT.body 4]:=by kernel_rfl
theorem Bg:(evK Rs Γ C 40).s G0 (nth BT.body 0) [qa,some ua,qb,qc,qd,qe,qf] κ=bind (U4 "tuple" (λ_=>false) ua) λx1=>bind (o7 x1) λz2=>if (!z2)=true then (κ (.rt (.tup [(.str "shape"),(.int 0)]))) else (bind (v9 ua) λx3=>bind (Q8 x3 (.int 2)) λx4=>bind (d7 .Eq x4 (.int 0)) λx5=>bind (asB x5) λz6=>if z6=true then (κ (.rt (.tup [(.str "shape"),(.int 0)]))) else (bind (v9 ua) λx7=>bind (d7 .Gt x7 (.int 81)) λx8=>bind (asB x8) λz9=>if z9=true then (κ (.rt (.tup [(.str "shape"),(.int 0)]))) else (κ (.nx [qa,some ua,qb,qc,qd,qe,qf])))):=by kernel_rfl
def Y3:List Stmt:=v1 (nth BT.body 1)
def dq (C:Cf):L3.Env->M Fl:=λρ'=>k6 (evK Rs Γ C 39) G0 Y3 ρ' ret
theorem Am:(evK Rs Γ C 40).s G0 (nth BT.body 1) [qa,some ua,qb,qc,qd,qe,qf] κ=bind (v9 ua) λx1=>bind (C8 [x1]) λsm2=>bind (u0 sm2.1 (λd ρ=>some (ρ.set 2 (some d))) (dq C) sm2.2 0 [qa,some ua,qb,qc,qd,qe,qf]) κ:=by kernel_rfl
theorem zf:(evK Rs Γ C 40).s G0 (nth BT.body 2) [qa,some ua,qb,qc,qd,qe,qf] κ=bind (ixD ua (.int 0)) λx1=>bind (C 35 [x1]) λx2=>bind (A6 (W6 [3,4]) x2 [qa,some ua,qb,qc,qd,qe,qf]) κ:=by kernel_rfl
def D6:List Stmt:=v1 (nth BT.body 3)
def dZ (C:Cf):L3.Env->M Fl:=λρ'=>k6 (evK Rs Γ C 39) G0 D6 ρ' ret
theorem Bb:(evK Rs Γ C 40).s G0 (nth BT.body 3) [qa,some ua,qb,qc,qd,qe,qf] κ=bind (v9 ua) λx1=>bind (C8 [(.int 1),x1]) λsm2=>bind (u0 sm2.1 (λd ρ=>some (ρ.set 2 (some d))) (dZ C) sm2.2 0 [qa,some ua,qb,qc,qd,qe,qf]) κ:=by kernel_rfl
theorem Bn:(evK Rs Γ C 40).s G0 (nth BT.body 4) [qa,qb,qc,some ua,some ub,qd,qe] κ=bind (d7 .Eq ub ua) λx1=>bind (asB x1) λz2=>if z2=true then (κ (.rt (.bl true))) else (κ (.rt (.tup [(.str "ring"),(.int 0)]))):=by kernel_rfl
theorem el:Y3=[nth Y3 0]:=by kernel_rfl
theorem ku:(evK Rs Γ C 39).s G0 (nth Y3 0) [some ua,some ub,some uc,qa,qb,qc,qd] κ=bind (ixD ub uc) λx1=>bind (C 36 [ua,x1]) λx2=>bind (o7 x2) λz3=>if (!z3)=true then (κ (.rt (.tup [(.str "entry"),uc]))) else (κ (.nx [some ua,some ub,some uc,qa,qb,qc,qd])):=by kernel_rfl
theorem fG:D6=[nth D6 0,nth D6 1,nth D6 2]:=by kernel_rfl
theorem ki:(evK Rs Γ C 39).s G0 (nth D6 0) [qa,some ua,some ub,qb,qc,qd,qe] κ=bind (ixD ua ub) λx1=>bind (C 35 [x1]) λx2=>bind (A6 (W6 [5,6]) x2 [qa,some ua,some ub,qb,qc,qd,qe]) κ:=by kernel_rfl
theorem jr:(evK Rs Γ C 39).s G0 (nth D6 1) [qa,qb,some ua,qc,some ub,some uc,some ud] κ=bind (d7 .NotIn ub (.tup [uc,ud])) λx1=>bind (asB x1) λz2=>if z2=true then (κ (.rt (.tup [(.str "link"),ua]))) else (κ (.nx [qa,qb,some ua,qc,some ub,some uc,some ud])):=by kernel_rfl
theorem bT:(evK Rs Γ C 39).s G0 (nth D6 2) [qa,qb,qc,qd,some ua,some ub,some uc] κ=bind (d7 .Eq ua ub) λx1=>bind (asB x1) λz2=>if z2=true then (κ (.nx [qa,qb,qc,qd,some uc,some ub,some uc])) else (κ (.nx [qa,qb,qc,qd,some ub,some ub,some uc])):=by kernel_rfl
def P2:Lc:=A9 Dg
theorem ii:runK Rs Γ C Dg [ua,ub]=k6 (evK Rs Γ C 40) P2 Dg.body [some ua,some ub,none,none] endD:=by kernel_rfl
theorem iK:Dg.body=[nth Dg.body 0,nth Dg.body 1,nth Dg.body 2]:=by kernel_rfl
theorem vh:(evK Rs Γ C 40).s P2 (nth Dg.body 0) [qa,qb,qc,qd] κ=κ (.nx [qa,qb,some (.tup [(.str "other")]),qd]):=by kernel_rfl
def pO (C:Cf):L3.Env->M Fl:=bX (eBK (evK Rs Γ C 39) Γ C P2) P2 (nth (qQ (nth Dg.body 1)) 0)
theorem af:pO C [some ua,some ub,qa,qb]=bind (C 15 [ua,ub]) λx1=>ret (.nx [some ua,some ub,some x1,qb]):=by kernel_rfl
def P6:List Stmt:=sE (nth Dg.body 1)
def yC (C:Cf):L3.Env->M Fl:=λρ'=>k6 (evK Rs Γ C 39) (I0 P2) P6 ρ' ret
theorem vH:(evK Rs Γ C 40).s P2 (nth Dg.body 1) [qa,qb,qc,qd] κ=bind (aP (pO C) (λc=>Γ.sub c 0) (some 3) (yC C) [qa,qb,qc,qd]) κ:=by kernel_rfl
theorem vQ:(evK Rs Γ C 40).s P2 (nth Dg.body 2) [qa,qb,some ua,qc] κ=κ (.rt ua):=by kernel_rfl
theorem eL:P6=[nth P6 0]:=by kernel_rfl
theorem kO:(evK Rs Γ C 39).s (I0 P2) (nth P6 0) [qa,qb,qc,some ua] κ=bind (nx (C 34 [ua])) λx1=>κ (.nx [qa,qb,some x1,some ua]):=by kernel_rfl
def E7:Lc:=A9 law_F
theorem qW:runK Rs Γ C law_F [ua]=k6 (evK Rs Γ C 40) E7 law_F.body [some ua,none,none,none,none,none] endD:=by kernel_rfl
theorem tI:law_F.body=[nth law_F.body 0,nth law_F.body 1,nth law_F.body 2,nth law_F.body 3,nth law_F.body 4]:=by kernel_rfl
theorem zm:(evK Rs Γ C 40).s E7 (nth law_F.body 0) [some ua,qa,qb,qc,qd,qe] κ=bind (C 21 [ua]) λx1=>κ (.nx [some ua,some x1,qb,qc,qd,qe]):=by kernel_rfl
theorem BN:(evK Rs Γ C 40).s E7 (nth law_F.body 1) [qa,some ua,qb,qc,qd,qe] κ=bind (C 22 [ua,(.int 3)]) λx1=>bind (aj (.int 1) x1) λx2=>bind (newL [(.int 1),(.int 2),x2]) λx3=>κ (.nx [qa,some ua,some x3,qc,qd,qe]):=by kernel_rfl
theorem Aw:(evK Rs Γ C 40).s E7 (nth law_F.body 2) [qa,some ua,some ub,qb,qc,qd] κ=bind (C 22 [ua,(.int 4)]) λx1=>bind (d7 .Eq x1 (.int 0)) λx2=>bind (asB x2) λz3=>if z3=true then (bind (lstOf ub) λ_=>bind (kL ub [(.int 4)]) λx4=>κ (.nx [qa,some ua,some ub,qb,qc,qd])) else (κ (.nx [qa,some ua,some ub,qb,qc,qd])):=by kernel_rfl
def B1:List Stmt:=v1 (nth law_F.body 3)
def aR (C:Cf):L3.Env->M Fl:=λρ'=>k6 (evK Rs Γ C 39) E7 B1 ρ' ret
theorem zc:(evK Rs Γ C 40).s E7 (nth law_F.body 3) [qa,qb,some ua,qc,qd,qe] κ=bind (q9 ua) λsm1=>bind (u0 sm1.1 (λd ρ=>some (ρ.set 3 (some d))) (aR C) sm1.2 0 [qa,qb,some ua,qc,qd,qe]) κ:=by kernel_rfl
theorem AH:(evK Rs Γ C 40).s E7 (nth law_F.body 4) [qa,qb,qc,qd,qe,qf] κ=κ (.rt (.bl true)):=by kernel_rfl
theorem dy:B1=[nth B1 0,nth B1 1,nth B1 2]:=by kernel_rfl
theorem kJ:(evK Rs Γ C 39).s E7 (nth B1 0) [qa,qb,qc,some ua,qd,qe] κ=bind (C 19 [ua]) λx1=>κ (.nx [qa,qb,qc,some ua,some x1,qe]):=by kernel_rfl
theorem kX:(evK Rs Γ C 39).s E7 (nth B1 1) [qa,qb,qc,some ua,some ub,qd] κ=bind (C 37 [ua,ub]) λx1=>bind (d7 .IsNot x1 (.bl true)) λx2=>bind (asB x2) λz3=>if z3=true then (κ (.rt (.bl false))) else (bind (C 38 [ua,ub]) λx4=>bind (d7 .IsNot x4 (.bl true)) λx5=>bind (asB x5) λz6=>if z6=true then (κ (.rt (.bl false))) else (κ (.nx [qa,qb,qc,some ua,some ub,qd]))):=by kernel_rfl
def C9:List Stmt:=v1 (nth B1 2)
def R7 (C:Cf):L3.Env->M Fl:=λρ'=>k6 (evK Rs Γ C 38) E7 C9 ρ' ret
theorem jg:(evK Rs Γ C 39).s E7 (nth B1 2) [qa,qb,qc,qd,qe,qf] κ=bind (C8 [(.int 1),(.int 5)]) λsm1=>bind (u0 sm1.1 (λd ρ=>some (ρ.set 5 (some d))) (R7 C) sm1.2 0 [qa,qb,qc,qd,qe,qf]) κ:=by kernel_rfl
theorem X3:C9=[nth C9 0]:=by kernel_rfl
theorem bA:(evK Rs Γ C 38).s E7 (nth C9 0) [qa,qb,qc,some ua,some ub,some uc] κ=bind (d7 .NotEq uc ua) λx1=>bind (asB x1) λz2=>if z2=true then (bind (C 38 [uc,ub]) λx3=>bind (d7 .NotEq x3 (.tup [(.str "entry"),(.int 0)])) λx4=>bind (asB x4) λz5=>if z5=true then (κ (.rt (.bl false))) else (κ (.nx [qa,qb,qc,some ua,some ub,some uc]))) else (κ (.nx [qa,qb,qc,some ua,some ub,some uc])):=by kernel_rfl
end
end L3.K51
namespace L3.K51
open PySem PySem.Spec PyProof.Rows L2 L3.Rk
theorem V1 (e:S[n]?=some (.lst (ns.map D.int))) (h:ns.length<64):u5 (.ref n) S=.ok (.lst ((srt ns).map D.int)) S:=pG e h
theorem Y6 {m:Nat} (h0:0<m) (h:m<1000) (S:Sto):C8 [.int 1,.int (m:Int)] S=.ok (W9 1 (m-1),m-1+1) S:=by
 unfold C8;have c:-(2 ^ 62)<=(1:Int)/\(1:Int)<2 ^ 62/\-(2 ^ 62)<=(m:Int)/\(m:Int)<2 ^ 62:=⟨by decide,by decide,Int.le_trans (by decide) (show (0:Int)<=m by omega),Int.lt_trans (show (m:Int)<1000 by omega) (by decide)⟩;have e:((m:Int)-1).toNat=m-1:=by omega
 simp only [if_pos c,e];rfl
theorem Y1 {n i:Nat} (h:i<n) (S:Sto):W9 1 n i S=some (some (.int ((i+1:Nat):Int))):=by
 show some (if i<n then some (D.int (1+(i:Int))) else none)=_;grind
theorem Q9 (n:Nat) (S:Sto):W9 1 n n S=some none:=by
 show some (if n<n then _ else none)=some none;grind
def y8 (b:List Int):D:=.tup (b.map D.int)
def o6 (r:List (List Int)):D:=.tup (r.map y8)
theorem vE (h:n<=600):n<sizeLine:=HH h (by decide)
theorem jM (hl:r.flatten.length<64) (hr:r.length<=60) (k:Nat) (S:Sto):Ok (rn (k+1) wV [o6 r]) S λd S'=>d=.lst ((srt r.flatten).map D.int)/\Ex S S':=by
 rw [rn,d6 rfl,sL,tR];refine Ok.first<|Ok.cg (Aj ..)<|Ok.eq (rfl)<|Ok.nxt<|Ok.cg (AC ..) ?_;refine Ok.eq (p0 _ _) ?_;rw [Dr];have at_:∀ x:O,(S++[x])[S.length]?=some x:=λx=>by rw [ED (Dz _)];simp
 refine Ok.bind ((Ok.for_ (n:=r.length) (λi ρ S'=>S'=S++[.lst ((r.take i).flatten.map D.int)]/\∃ o3:Option D,ρ=[some (.tup (r.map y8)),some (.ref S.length),o3]) (λ_ _=>False) (λ_ _=>False) ?_ ?_ r.length 0 _ (S++[.lst []]) (by omega) ⟨by simp,_,rfl⟩).mono ?_)
 ·intro ρ S' _;show some (r.map y8)[r.length]?=some none;rw [Et (by simp)]
 ·rintro i ρ S' hi ⟨rfl,o3,rfl⟩;have eb:=Ds hi;have tk:(r.take (i+1)).flatten=(r.take i).flatten++r[i]:=by rw [Eu hi,FK];simp
  have ln:(r.take i).flatten.length+r[i].length<64:=by
   have:(r.take (i+1)).flatten.length<=r.flatten.length:=by
    conv=>rhs;rw [<- FR (i+1) r,FK,Es]
    omega
   rw [tk,Es] at this;omega
  refine ⟨y8 r[i],[some (.tup (r.map y8)),some (.ref S.length),some (y8 r[i])],by show some (r.map y8)[i]?=_;rw [k4 eb],rfl,?_⟩;unfold fL;rw [fI];refine Ok.first<|Ok.cg (kg ..)<|Ok.eq (de (at_ _)) ?_;refine Ok.eq (mW (at_ _) (by rw [Dr,Dr,Ew];omega)) ?_;have es:(S++[O.lst ((r.take i).flatten.map D.int)]).set S.length (.lst ((r.take i).flatten.map D.int++r[i].map D.int))=S++[.lst ((r.take (i+1)).flatten.map D.int)]:=by
   rw [Gu _ _ (Dz _),tk,Fk];simp
  rw [es];exact Ok.ret ⟨rfl,_,rfl⟩
 ·intro fl S' q;cases fl with
  | nx ρ=>
   rcases q with ⟨e,o3,rfl⟩ | q
   ·rw [FO] at e;subst e;exact Ok.nxt<|Ok.cg (Bj ..)<|Ok.eq (V1 (at_ _) hl) (Ok.ret ⟨rfl,_,rfl⟩)
   ·exact q.elim
  | rt d=>exact q.elim
  | bk ρ=>exact q.elim
  | ct ρ=>exact q.elim
theorem lW (m:Nat):(rgL m).length=m:=by unfold rgL;rw [Dr,Fv]
theorem cE {c d e:Type} {f:d->Option e} {g:c->d} {q:c->e}:∀ {l:List c},(∀ a∈l,f (g a)=some (q a))->i4 f (l.map g)=some (l.map q)
 | [],_=>rfl
 | a :: l,h=>by simp only [EG,i4,h a (Ei ..),cE λb i=>h b (Ed _ i)]
theorem bt {c:Type} {q:c->PyData}:∀ {l:List c},(∀ a∈l,(q a).canLay0=true)->PyData.canLayAll0 (l.map q)=true
 | [],_=>rfl
 | a :: l,h=>by simp only [EG,PyData.canLayAll0,h a (Ei ..),bt λb d=>h b (Ed _ d),Io]
theorem jP {p N m:Nat} {S:Sto} (h:Ft ns p (N+1) S) (b:0<m) (a:m<1000000) (k:Nat):Ok (rn (k+1) yi [.ref p,.int (m:Int)]) S λd S'=>∃ r:Nat,d=.int (r:Int)/\r<m/\Ft ns p N S'/\S'.length=S.length/\∀ q,q≠p->S'[q]?=S[q]?:=by
 rw [rn,d6 rfl,tr];exact pW h b a
theorem vd {ns:List Int} {p N:Nat} {S:Sto} (h:Ft ns p N S):p<S.length:=by
 obtain ⟨a,l,t,e,_⟩:=h;exact (Eb.mp e).1
def v8 (rs:List (List (List Int))):D:=.tup (rs.map o6)
abbrev Rnd:=List (List Int)
def atH (r:Rnd) (h:Int):Nat:=(r.findIdx? λb=>decide (h∈b)).getD 0
def sn (r:Rnd) (h:Int):List Int:=srt ((r.take (atH r h+1)).flatten)
def vw:List Rnd->Int->D
 | [],h=>.tup [.int h,.tup []]
 | r :: rs,h=>.tup [.int h,.tup ((sn r h).map (vw rs))]
def hin:List Rnd->Int->List Int
 | [],h=>[h]
 | r :: rs,h=>h :: (sn r h).flatMap (hin rs)
abbrev gr (gs:List Int) (h:Int):Int:=gs.getD h.toNat 0
def plc (gs:List Int) (f:Int->Nat):List Rnd->Int->D
 | [],h=>.tup [.int (f h:Int),.tup []]
 | r :: rs,h=>.tup [.int (f h:Int),.tup (o5 .non (sPl ((sn r h).map (gr gs))) ((sn r h).map (plc gs f rs)))]
def Wv (m:Nat):List Rnd->Int->Prop
 | [],h=>h∈rgL m
 | r :: rs,h=>h∈r.flatten/\(∀ x∈r.flatten,Wv m rs x)/\r.flatten.Nodup/\r.flatten.length<=6/\r.length<=6
theorem uZ {h:Int} (a:h∈r.flatten):∃ j,r.findIdx? (λb=>decide (h∈b))=some j/\atH r h=j/\j<r.length:=by
 obtain ⟨b,c,d⟩:=IB.mp a;cases e:r.findIdx? (λb=>decide (h∈b)) with
 | none=>
  rw [HW] at e;have:=e b c;simp [d] at this
 | some j=>
  refine ⟨j,rfl,by unfold atH;rw [e];rfl,?_⟩;exact (ER.mp e).1
theorem J9 (a:x∈sn r h):x∈r.flatten:=by
 have a:=(j6 _).mem_iff.mp a;obtain ⟨b,d,c⟩:=IB.mp a;exact IB.mpr ⟨b,List.mem_of_mem_take d,c⟩
theorem Z9 (r:Rnd) (n:Nat):(r.take n).flatten.Sublist r.flatten:=by
 conv=>rhs;rw [<- FR n r,FK]
 grind
theorem zR (a:r.flatten.Nodup):(sn r h).Nodup:=(j6 _).nodup_iff.mpr (a.sublist (Z9 r _))
theorem T7 (r:Rnd) (h:Int):(sn r h).length<=r.flatten.length:=by
 unfold sn;rw [(j6 _).length_eq];exact (Z9 r _).length_le
theorem bx:∀ {rs:List Rnd} {h:Int},Wv m rs h->∀ x∈hin rs h,x∈rgL m
 | [],h,w,x,a=>by rw [EJ.mp a];exact w
 | r :: rs,h,w,x,a=>by
  rcases Ea.mp a with rfl | a
  ·exact bx (w.2.1 x w.1) x (by cases rs <;> simp [hin])
  ·obtain ⟨c,b,a⟩:=GH.mp a;exact bx (w.2.1 c (J9 b)) x a
def few:Nat->Nat
 | 0=>1
 | t+1=>1+6 * few t
theorem Q7:∀ {rs:List Rnd} {h:Int},Wv m rs h->(hin rs h).length<=few rs.length
 | [],h,w=>Dz _
 | r :: rs,h,w=>by
  have a:∀ l:List Int,(∀ x∈l,x∈r.flatten)->(l.flatMap (hin rs)).length<=l.length * few rs.length:=λl=>by
   induction l with
   | nil=>intro _;simp
   | cons x l f=>
    intro hs;rw [List.flatMap_cons,Es,Gi,Nat.add_mul];have:=Q7 (w.2.1 x (hs x (by simp)));have:=f λy e=>hs y (Ed _ e);omega
  have b:=a (sn r h) λx g=>J9 g;have c:=T7 r h;have d:(sn r h).length * few rs.length<=6 * few rs.length:=Nat.mul_le_mul_right _ (by have:=w.2.2.2.1;omega);show ((sn r h).flatMap (hin rs)).length+1<=1+6 * few rs.length;omega
theorem cR:∀ {t:Nat},t<=4->few t<=1555
 | 0,_ | 1,_ | 2,_ | 3,_ | 4,_=>by decide
 | t+5,h=>by omega
theorem X1 (h:n<=5000):n<sizeLine:=HH h (by decide)
theorem pT {ns:List Int} {es:List D} {S:Sto} (h:es.length+ns.length<=4000):d9 (G2 (ns.map D.int)) (λ_=>ret true) (λa=>ret a) (ns.length+1) 0 es S=.ok (es++ns.map D.int) S:=by
 obtain ⟨es',S',e,rfl,rfl⟩:=Q3 (src:=G2 (ns.map D.int)) (t:=λ_=>ret true) (f:=λa=>ret a) (λi S' es'=>S'=S/\es'=es++(ns.take i).map D.int) (λS' es' _=>by show some (ns.map D.int)[ns.length]?=_;rw [Et (by simp)]) (λi S' es' c ⟨d,b⟩=>by
  refine ⟨.int ns[i],true,S',by show some (ns.map D.int)[i]?=_;rw [k4 (Ds c)],rfl,?_⟩;rw [if_pos rfl];refine ⟨.int ns[i],S',rfl,?_,d,?_⟩
  ·rw [b,Es,Dr,Fn];exact X1 (by omega)
  ·rw [b,Eu c,Fk,HZ];rfl) ns.length 0 S es (by omega) ⟨rfl,by simp⟩
 grind
theorem eY {cs:List Int} {F:Int->D} {G:Int->List Int} {C1:D->M (Src×Nat)} {S:Sto} (hc:∀ c∈cs,C1 (F c) S=.ok (G2 ((G c).map D.int),(G c).length+1) S) (hl:(cs.flatMap G).length<=4000):∀ (k i:Nat),k+i=cs.length->k9 (G2 (cs.map F)) (λ_=>ret true) C1 (λ_ _=>ret true) (λ_ d2=>ret d2) (k+1) i (((cs.take i).flatMap G).map D.int) S=.ok ((cs.flatMap G).map D.int) S
 | 0,i,hk=>by
  have e:(cs.map F)[i]?=none:=Et (by rw [Dr];omega);have s:G2 (cs.map F) i S=some none:=by show some (cs.map F)[i]?=_;rw [e]
  simp only [k9,s];rw [Gn (by omega)]
 | k+1,i,hk=>by
  have hi:i<cs.length:=by omega
  have s:G2 (cs.map F) i S=some (some (F cs[i])):=by show some (cs.map F)[i]?=_;rw [k4 (Ds hi)]
  have tk:(cs.take (i+1)).flatMap G=(cs.take i).flatMap G++G cs[i]:=by rw [Eu hi,GN];simp
  have ln:((cs.take (i+1)).flatMap G).length<=(cs.flatMap G).length:=by
   conv=>rhs;rw [<- FR (i+1) cs,GN,Es]
   omega
  rw [tk,Es] at ln;rw [k9];simp only [s];rw [b6 (show (ret true:M Bool) S=.ok true S from rfl),if_pos rfl,b6 (hc _ (Em hi)),b6 (pT (by rw [Dr];omega))];rw [<- Fk,<- tk];exact eY hc hl k (i+1) (by omega)
theorem oC (S:Sto):∀ {rs:List Rnd} {h:Int} (k:Nat),Wv m rs h->rs.length<=4->rn (k+(rs.length+1)) oq [vw rs h] S=.ok (.lst ((hin rs h).map D.int)) S
 | [],h,k,w,e=>by
  refine F5 ?_;rw [show k+(([]:List Rnd).length+1)=k+1 from rfl,rn,d6 (fd:=Dl) rfl,iM,il];refine Ok.first<|Ok.cg (vr ..) ?_;refine Ok.eq (a:=.nx [some (vw [] h),some (.int h),some (.tup [])]) (S1:=S) rfl<|Ok.nxt<|Ok.cg (vJ ..) ?_;exact nx_bind<|Ok.eq (p0 _ S)<|Ok.of (show _=R.ok [] S from rfl)<|Ok.eq (a:=.lst [.int h]) (S1:=S) rfl<|Ok.ret ⟨rfl,rfl⟩
 | r :: rs,h,k,w,e=>by
  refine F5 ?_;have g:rs.length+1<=4:=e;rw [show k+((r :: rs).length+1)=(k+(rs.length+1))+1 from rfl,rn,d6 rfl,iM,il];refine Ok.first<|Ok.cg (vr ..) ?_;refine Ok.eq rfl<|Ok.nxt<|Ok.cg (vJ ..) ?_;have b:=Q7 w;have n:=cR e;have l:((sn r h).flatMap (hin rs)).length+1<=few (r :: rs).length:=b;refine nx_bind<|Ok.eq (p0 _ S) ?_;rw [Dr];have c:=eY (cs:=sn r h) (C1:=λf=>bind (rn (k+(rs.length+1)) oq [f]) λi=>bind (q9 i) λd=>ret d) (λc j=>by
   rw [b6 (oC S k (w.2.1 c (J9 j)) (by omega))];show R.ok (G2 ((hin rs c).map D.int),((hin rs c).map D.int).length+1) S=_;rw [Dr]) (by omega) (sn r h).length 0 (by omega)
  refine Ok.of c ?_;refine Ok.eq ?_<|Ok.ret ⟨rfl,rfl⟩;show (if 1+(((sn r h).flatMap (hin rs)).map D.int).length<=sizeLine then ret (D.lst ([D.int h]++((sn r h).flatMap (hin rs)).map D.int)) else bad) S=_;rw [if_pos (by rw [Dr];exact FV (X1 (by omega)))];rfl
section
variable {m:Nat} {gs:List Int} (gl:gs.length=m) (m6:m<=6)
include gl m6
theorem md {h:Int} (hh:h∈rgL m):∃ j:Nat,h=(j:Int)/\j<m:=by
 unfold rgL at hh;obtain ⟨j,hj,rfl⟩:=IG.mp hh;exact ⟨j,rfl,Fp.mp hj⟩
theorem mz {h:Int} (hh:h∈rgL m) (S:Sto):ixD (.tup (gs.map D.int)) (.int h) S=.ok (.int (gr gs h)) S:=by
 obtain ⟨j,rfl,hj⟩:=md gl m6 hh;have:j<gs.length:=by omega
 refine lQ S ?_;rw [Eo,Ds this];show some (D.int gs[j])=_;unfold gr;rw [Fg,Ee,Ds this];rfl
theorem oP (f:gs.Nodup) {a b:Int} (d:a∈rgL m) (c:b∈rgL m) (e:gr gs a=gr gs b):a=b:=by
 obtain ⟨i,rfl,h⟩:=md gl m6 d;obtain ⟨j,rfl,g⟩:=md gl m6 c;unfold gr at e;rw [Fg,Fg,Ee,Ee,Ds (by omega),Ds (by omega)] at e;have:=(He f).mp e;omega
end
def rkH (gs:List Int) (hs:List Int) (x:Int):Nat:=hs.countP λy=>decide (gr gs y<gr gs x)
theorem BH {v l:List Int} (g:v.Nodup) (h:∀ x∈v,x∈l):v.length<=l.length:=by
 induction v generalizing l with
 | nil=>exact Fe _
 | cons a v f=>
  have d:=h a (Ei ..);have b:=Go.mp g;have e:=Ik d;have:=f (l:=l.erase a) b.2 λx c=>(List.mem_erase_of_ne (λz=>b.1 (by rw [<- z];exact c))).mpr (h x (Ed _ c));have:=List.length_pos_of_mem d;rw [Gi];omega
theorem ay (h:∀ x∈l,x∈rgL m):(j5 l).length<=m:=by
 have s:=BH (Y4 l) (λx a=>h x (uniq_mem.mp a));rw [lW] at s;exact s
theorem jl {m:Nat} (gl:gs.length=m) (m6:m<=6) (nd:gs.Nodup) {l:List Int} (hl:∀ x∈l,x∈rgL m) {x:Int} (hx:x∈l):(srt (j5 (l.map (gr gs)))).findIdx? (λz=>z==gr gs x)=some (rkH gs (srt (j5 l)) x):=by
 have ix:=mC (gr gs x) _ (cS (j5 (l.map (gr gs)))) ((j6 _).mem_iff.mpr (uniq_mem.mpr (Hz hx)));rw [ix,sv];have p:(j5 (l.map (gr gs))).Perm ((j5 l).map (gr gs)):=by
  rw [List.perm_ext_iff_of_nodup (Y4 _)]
  ·intro z;rw [uniq_mem,IG,IG];constructor
   ·rintro ⟨y,hy,rfl⟩;exact ⟨y,uniq_mem.mpr hy,rfl⟩
   ·rintro ⟨y,hy,rfl⟩;exact ⟨y,uniq_mem.mp hy,rfl⟩
  ·have:=Y4 l;rw [FP,Ib];rw [FP] at this;exact this.imp_of_mem λ{a b} ha hb ne e=>ne (oP gl m6 nd (hl a (uniq_mem.mp ha)) (hl b (uniq_mem.mp hb)) e)
 congr 1;rw [p.countP_eq,List.countP_map];unfold rkH;rw [(j6 (j5 l)).countP_eq];rfl
theorem uX {gs hs:List Int} {x y:Int} (a:x∈hs):rkH gs hs x<rkH gs hs y↔gr gs x<gr gs y:=by
 have e:∀ z,rkH gs hs z=rk (hs.map (gr gs)) (gr gs z):=λz=>by unfold rkH rk;rw [List.countP_map];rfl
 rw [e,e];exact wS (Hz a)
theorem iG:∀ cs:List Int,F6 (cs.map (plc gs f rs))=some (cs.map λc=>(f c:Int))
 | []=>rfl
 | c :: cs=>by
  have e:∃ x,plc gs f rs c=.tup (.int (f c:Int) :: x):=by cases rs <;> exact ⟨_,rfl⟩
  obtain ⟨x,e⟩:=e;show F6 (plc gs f rs c :: cs.map (plc gs f rs))=_;rw [e];show (F6 (cs.map (plc gs f rs))).map _=_;rw [iG cs];rfl
theorem yF {cs:List Int} {f g:Int->Int} (h:∀ a∈cs,∀ b∈cs,(f a<f b↔g a<g b)):sPl (cs.map f)=sPl (cs.map g):=by
 unfold sPl;rw [Dr,Dr];refine kI λi j hi hj=>?_;unfold ltK;have e:∀ {q:Int->Int} {i:Nat} (hi:i<cs.length),(cs.map q).getD i 0=q cs[i]:=λhi=>by
  rw [Ee,Eo,Ds hi];rfl
 rw [e hi,e hj,e hi,e hj];exact decide_eq_decide.mpr (h _ (Em hi) _ (Em hj))
theorem dA {cs:List Int} {F G:Int->D} {f:D->M D} {S:Sto} (d:cs.length<=4000) (h:∀ c∈cs,f (F c) S=.ok (G c) S):d9 (G2 (cs.map F)) (λ_=>ret true) f (cs.length+1) 0 [] S=.ok (cs.map G) S:=by
 have c:=B4 (src:=G2 (cs.map F)) (t:=λ_=>ret true) (λi=>rfl) (X1 (by omega)) (λ_ _=>rfl) λa b _=>h a b;rw [List.filter_eq_self.mpr (λ_ _=>rfl)] at c;exact c
section
variable {m:Nat} {gs:List Int} (gl:gs.length=m) (m6:m<=6) (nd:gs.Nodup) {l:List Int} (hl:∀ x∈l,x∈rgL m)
include gl m6 nd hl
theorem yp (b:x∈l):rkH gs (srt (j5 l)) x<=6:=by
 have a:rkH gs (srt (j5 l)) x<=(srt (j5 l)).length:=List.countP_le_length;rw [(j6 _).length_eq] at a;have:=ay hl;omega
theorem wG (S:Sto):∀ {rs:List Rnd} {h:Int} (k:Nat),Wv m rs h->(∀ x∈hin rs h,x∈l)->rn (k+(rs.length+1)) wL [.tup (gs.map D.int),.lst ((srt (j5 (l.map (gr gs)))).map D.int),vw rs h] S=.ok (plc gs (rkH gs (srt (j5 l))) rs h) S:=by
 have e:∀ {h:Int},h∈l->ixD (.tup (gs.map D.int)) (.int h) S=.ok (.int (gr gs h)) S/\aB (.lst ((srt (j5 (l.map (gr gs)))).map D.int)) [.int (gr gs h)] S=.ok (.int (rkH gs (srt (j5 l)) h:Int)) S:=λ{h} g=>
  ⟨mz gl m6 (hl h g) S,uO (by have:=yp gl m6 nd hl g;omega) (jl gl m6 nd hl g) S⟩
 intro rs;induction rs with
 | nil=>
  intro h k w d;refine F5 ?_;obtain ⟨i,j⟩:=e (d h (by simp [hin]));rw [show k+(([]:List Rnd).length+1)=k+1 from rfl,rn,d6 rfl,jW,jG];refine Ok.first<|Ok.cg (vT ..) ?_;refine Ok.eq rfl<|Ok.nxt<|Ok.cg (vj ..) ?_;refine nx_bind<|Ok.eq (p0 _ S)<|Ok.of (rfl)<|Ok.nxt<|Ok.cg (vL ..) ?_;refine Ok.eq rfl<|Ok.eq i<|Ok.eq j<|Ok.eq rfl<|Ok.eq rfl<|Ok.ret ⟨rfl,rfl⟩
 | cons r rs t=>
  intro h k w d;refine F5 ?_;obtain ⟨i,j⟩:=e (d h (by simp [hin]));have n:=λc f=>d c (Ed _ (GH.mpr ⟨c,f,by cases rs <;> simp [hin]⟩));have v:=T7 r h;have q:(sn r h).length<=6:=by have:=w.2.2.2.1;omega
  rw [show k+((r :: rs).length+1)=(k+(rs.length+1))+1 from rfl,rn,d6 rfl,jW,jG];refine Ok.first<|Ok.cg (vT ..) ?_;refine Ok.eq rfl<|Ok.nxt<|Ok.cg (vj ..) ?_;refine nx_bind<|Ok.eq (p0 _ S) ?_;rw [Dr];refine Ok.of (dA (G:=plc gs (rkH gs (srt (j5 l))) rs) (by omega) λc f=>?_)<|Ok.nxt<|Ok.cg (vL ..) ?_
  ·rw [b6 (t k (w.2.1 c (J9 f)) λx p=>d x (Ed _ (GH.mpr ⟨c,f,p⟩)))];rfl
  have o:D4 (.lst ((sn r h).map (plc gs (rkH gs (srt (j5 l))) rs))) S=.ok (.lst (o5 .non (sPl ((sn r h).map (gr gs))) ((sn r h).map (plc gs (rkH gs (srt (j5 l))) rs)))) S:=by
   unfold D4;dsimp only;rw [iG];dsimp only;rw [if_pos (by rw [Dr];omega),yF λa s b u=>?_]
   ·rfl
   ·have:=uX (gs:=gs) (y:=b) ((j6 _).mem_iff.mpr (uniq_mem.mpr (n a s)));omega
  refine Ok.eq rfl<|Ok.eq i<|Ok.eq j<|Ok.eq o<|Ok.eq rfl<|Ok.ret ⟨rfl,rfl⟩
end
theorem yR (g:gs.length=m) (f:m<=6) (n:gs.Nodup) {rs:List Rnd} {h:Int} (w:Wv m rs h) (i:rs.length<=4) (k:Nat) (S:Sto):rn (k+(rs.length+2)) xZ [.tup (gs.map D.int),vw rs h] S=.ok (plc gs (rkH gs (srt (j5 (hin rs h)))) rs h) S:=by
 refine F5 ?_;have b:=bx w;have d:=Q7 w;have o:=cR i;rw [show k+(rs.length+2)=(k+(rs.length+1))+1 from rfl,rn,d6 rfl,tj];refine nx_bind<|Ok.eq (oC S k w i)<|Ok.eq rfl ?_;rw [Dr];refine Ok.of (dA (G:=λc=>D.int (gr gs c)) (by omega) λc j=>?_) ?_
 ·rw [b6 (mz g f (b c j) S)];rfl
 have e:(hin rs h).map (λc=>D.int (gr gs c))=((hin rs h).map (gr gs)).map D.int:=by rw [ID];rfl
 rw [e];have u:(j5 ((hin rs h).map (gr gs))).length<=m:=by
  have s:=BH (Y4 ((hin rs h).map (gr gs))) λx a=>by
   obtain ⟨y,l,rfl⟩:=IG.mp (uniq_mem.mp a);exact Hz (b y l)
  rw [Dr,lW] at s;exact s
 refine Ok.eq (oG (by rw [Dr];omega) (by omega) S) ?_;exact Ok.eq (wG g f n b S k w λx a=>a)<|Ok.ret ⟨rfl,rfl⟩
theorem dI {F:Int->D} {cs:List Int} {a:List Nat} (h:∀ i∈a,i<cs.length):o5 .non a (cs.map F)=(o5 0 a cs).map F:=by
 unfold o5;simp_all
theorem oO {P:Int->D}:∀ cs:List Int,F6 (cs.map λc=>D.tup [.int (gr gs c),P c])=some (cs.map (gr gs))
 | []=>rfl
 | c :: cs=>by
  show (F6 (cs.map λc=>D.tup [.int (gr gs c),P c])).map _=_;rw [oO cs];rfl
section
variable {m:Nat} {gs:List Int} (gl:gs.length=m) (m6:m<=6) (nd:gs.Nodup) {l:List Int} (hl:∀ x∈l,x∈rgL m)
include gl m6 nd hl
theorem dP (u:h∈l) {cs:List Int} (j:∀ c∈cs,c∈l) (q:cs.Nodup) (A:cs.length<=6) {V P:Int->D} {S:Sto} (z:∀ c,ixD (V c) (.int 0) S=.ok (.int c) S) (k:Nat) (B:∀ c∈cs,rn k cG [.tup (gs.map D.int),.lst ((srt (j5 l)).map D.int),V c] S=.ok (P c) S):rn (k+1) cG [.tup (gs.map D.int),.lst ((srt (j5 l)).map D.int),.tup [.int h,.tup (cs.map V)]] S=.ok (.tup [.int (rkH gs (srt (j5 l)) h:Int),.tup (o5 .non (sPl (cs.map (gr gs))) (cs.map P))]) S:=by
 refine F5 ?_;have g:∀ {x:Int},x∈l->ixD (.tup (gs.map D.int)) (.int x) S=.ok (.int (gr gs x)) S:=λm=>mz gl m6 (hl _ m) S;have C:(srt (j5 l)).length<=6:=by have:=ay hl;rw [(j6 _).length_eq];omega
 have d:∀ x∈srt (j5 l),x∈l:=λx m=>uniq_mem.mp ((j6 _).mem_iff.mp m);rw [rn,d6 rfl,nQ];refine nx_bind<|Ok.eq rfl ?_;rw [Dr];refine Ok.of (B4 (p:=λy=>decide (gr gs y<gr gs h)) (λi=>rfl) (X1 (by omega)) (λa n=>?_) (λ_ _ _=>rfl)) ?_
 ·rw [b6 (g (d a n)),b6 (show ixD (.tup [.int h,.tup (cs.map V)]) (.int 0) S=.ok (.int h) S from rfl),b6 (g u),b6 (Ak _ _ S)];rfl
 refine Ok.eq (As _ S) ?_;rw [Dr,<- List.countP_eq_length_filter];refine nx_bind<|Ok.eq rfl<|Ok.eq (p0 _ S) ?_;rw [Dr];refine Ok.of (dA (G:=λc=>D.tup [.int (gr gs c),P c]) (by omega) λc o=>?_) ?_
 ·rw [b6 (z c),b6 (g (j c o)),b6 (B c o)];rfl
 have r:∀ i∈sPl (cs.map (gr gs)),i<cs.length:=λi F=>by have:=gb F;rwa [Dr] at this
 have v:u5 (.lst (cs.map λc=>D.tup [.int (gr gs c),P c])) S=.ok (.lst ((o5 0 (sPl (cs.map (gr gs))) cs).map λc=>D.tup [.int (gr gs c),P c])) S:=by
  unfold u5;dsimp only;rw [oO];dsimp only;have H:(cs.map (gr gs)).Nodup:=by
   rw [FP,Ib];rw [FP] at q;exact q.imp_of_mem λ{a b} n w E e=>E (oP gl m6 nd (hl a (j a n)) (hl b (j b w)) e)
  rw [if_pos ⟨by rw [Dr];omega,H⟩,dI r];rfl
 refine Ok.eq v ?_;have pl:(o5 0 (sPl (cs.map (gr gs))) cs).length<=6:=by unfold o5;rw [Dr,P3,Dr];exact A
 refine nx_bind<|Ok.eq rfl ?_;rw [Dr];have s:=B4 (src:=G2 ((o5 0 (sPl (cs.map (gr gs))) cs).map λc=>D.tup [.int (gr gs c),P c])) (t:=ae (rn k) [some (.tup (gs.map D.int)),some (.lst ((srt (j5 l)).map D.int)),some (.tup [.int h,.tup (cs.map V)]),some (.int (List.countP (λy=>decide (gr gs y<gr gs h)) (srt (j5 l)):Int)),some (.lst ((o5 0 (sPl (cs.map (gr gs))) cs).map λc=>D.tup [.int (gr gs c),P c]))]) (f:=aA (rn k) [some (.tup (gs.map D.int)),some (.lst ((srt (j5 l)).map D.int)),some (.tup [.int h,.tup (cs.map V)]),some (.int (List.countP (λy=>decide (gr gs y<gr gs h)) (srt (j5 l)):Int)),some (.lst ((o5 0 (sPl (cs.map (gr gs))) cs).map λc=>D.tup [.int (gr gs c),P c]))]) (S:=S) (λi=>rfl) (X1 (by omega)) (λ_ _=>by rw [cW];rfl) (λ_ _ _=>by rw [cy];rfl);rw [List.filter_eq_self.mpr (λ_ _=>rfl)] at s;exact Ok.of s<|Ok.eq rfl<|Ok.ret ⟨by rw [dI r];rfl,rfl⟩
theorem Co (rs:List Rnd) (c:Int) (S:Sto):ixD (vw rs c) (.int 0) S=.ok (.int c) S:=by cases rs <;> rfl
theorem tO (S:Sto):∀ {rs:List Rnd} {h:Int} (k:Nat),Wv m rs h->(∀ x∈hin rs h,x∈l)->rn (k+(rs.length+1)) cG [.tup (gs.map D.int),.lst ((srt (j5 l)).map D.int),vw rs h] S=.ok (plc gs (rkH gs (srt (j5 l))) rs h) S:=by
 intro rs;induction rs with
 | nil=>
  intro h k w a;exact dP gl m6 nd hl (a h (by simp [hin])) (cs:=[]) (by simp) (by simp) (by simp) (V:=vw []) (P:=plc gs (rkH gs (srt (j5 l))) []) (λc=>rfl) k (by simp)
 | cons r rs e=>
  intro h k w a;have d:=λc b=>a c (Ed _ (GH.mpr ⟨c,b,by cases rs <;> simp [hin]⟩));have g:=T7 r h;exact dP gl m6 nd hl (a h (by simp [hin])) d (zR w.2.2.1) (by have:=w.2.2.2.1;omega) (λc=>Co gl m6 nd hl rs c S) (k+(rs.length+1)) λc b=>e k (w.2.1 c (J9 b)) λx f=>a x (Ed _ (GH.mpr ⟨c,b,f⟩))
end
theorem Ex.set0 (h:Ex S S'):Ex S (S'.set S.length o):=by
 obtain ⟨T,rfl⟩:=h;exact ⟨T.set 0 o,by rw [Gu _ _ (Dz _),Nat.sub_self]⟩
theorem hR {cs:List Int} {V:Int->D} {G:Int->List Int} (k:Nat) (S:Sto) (hl:(cs.flatMap G).length<=4000) (hc:cs.length<=4000) (ih:∀ c∈cs,∀ S,Ok (rn k fR [V c]) S λd S'=>∃ n,d=.ref n/\S'[n]?=some (.lst ((G c).map D.int))/\Ex S S'):Ok (rn (k+1) fR [.tup [.int h,.tup (cs.map V)]]) S λd S'=>∃ n,d=.ref n/\S'[n]?=some (.lst ((h :: cs.flatMap G).map D.int))/\Ex S S':=by
 rw [rn,d6 rfl,tG,rJ];refine Ok.first<|Ok.cg (zA ..)<|Ok.eq rfl<|Ok.eq (rfl)<|Ok.nxt<|Ok.cg (Ay ..) ?_;refine Ok.eq rfl<|Ok.eq (p0 _ _) ?_;rw [Dr];refine Ok.bind ((Ok.for_ (n:=cs.length) (λi ρ S'=>Ex S S'/\S'[S.length]?=some (.lst ((h :: (cs.take i).flatMap G).map D.int))/\∃ o:Option D,ρ=[some (.tup [.int h,.tup (cs.map V)]),some (.ref S.length),o]) (λ_ _=>False) (λ_ _=>False) ?_ ?_ cs.length 0 _ _ (by omega) ⟨⟨_,rfl⟩,by simp,_,rfl⟩).mono ?_)
 ·intro ρ S' _;show some (cs.map V)[cs.length]?=some none;rw [Et (by simp)]
 ·rintro i ρ S' hi ⟨ex,e,o,rfl⟩;have eb:=Ds hi;have tk:(cs.take (i+1)).flatMap G=(cs.take i).flatMap G++G cs[i]:=by rw [Eu hi,GN];simp
  have ln:((cs.take (i+1)).flatMap G).length<=(cs.flatMap G).length:=by
   conv=>rhs;rw [<- FR (i+1) cs,GN,Es]
   omega
  rw [tk,Es] at ln;have lt:=(Eb.mp e).1;refine ⟨V cs[i],[some (.tup [.int h,.tup (cs.map V)]),some (.ref S.length),some (V cs[i])],by show some (cs.map V)[i]?=_;rw [k4 eb],rfl,?_⟩;unfold eh;rw [dS];refine Ok.first<|Ok.cg (kD ..)<|Ok.eq (de e)<|Ok.bind ((ih _ (Em hi) S').mono ?_);rintro _ S2 ⟨n,rfl,e2,x2⟩;have e':S2[S.length]?=some (.lst ((h :: (cs.take i).flatMap G).map D.int)):=by rw [x2.at lt];exact e
  refine Ok.eq (xM e' e2 ?_) ?_
  ·rw [Dr,Dr,Gi];exact FV (X1 (by omega))
  refine Ok.ret ⟨Ex.set0 (ex.trans x2),?_,_,rfl⟩;rw [EM (Eb.mp e').1,tk,<- Fk];rfl
 ·intro fl S' q;cases fl with
  | nx ρ=>
   rcases q with ⟨ex,e,o,rfl⟩ | q
   ·rw [FO] at e;exact Ok.nxt<|Ok.cg (zr ..)<|Ok.ret ⟨_,rfl,e,ex⟩
   ·exact q.elim
  | rt d=>exact q.elim
  | bk ρ=>exact q.elim
  | ct ρ=>exact q.elim
theorem oB:∀ {rs:List Rnd} {h:Int} (k:Nat),Wv m rs h->rs.length<=4->∀ S,Ok (rn (k+(rs.length+1)) fR [vw rs h]) S λd S'=>∃ n,d=.ref n/\S'[n]?=some (.lst ((hin rs h).map D.int))/\Ex S S'
 | [],h,k,w,a,S=>hR (cs:=[]) (V:=vw []) (G:=hin []) k S (by simp) (by simp) (by simp)
 | r :: rs,h,k,w,a,S=>by
  have b:=Q7 w;have i:=cR a;have f:((sn r h).flatMap (hin rs)).length+1<=few (r :: rs).length:=b;have g:=T7 r h;exact hR (k+(rs.length+1)) S (by omega) (by have:=w.2.2.2.1;omega) λc e=>oB k (w.2.1 c (J9 e)) (by have:rs.length+1<=4:=a;omega)
theorem nk {n:Nat} {S:Sto} (e:S[n]?=some (.lst (ns.map D.int))) (b:ns.length<4000) (a:(j5 ns).length<64):D5 (.ref n) S=.ok (.lst ((srt (j5 ns)).map D.int)) S:=by
 show bind (y4 (.ref n)) _ S=_;rw [b6 (show y4 (.ref n) S=.ok (ns.map D.int) S by simp only [y4,lstOf,e]),Z0];dsimp only;rw [if_pos ⟨b,a⟩];rfl
theorem xI (g:gs.length=m) (l:m<=6) (j:gs.Nodup) {rs:List Rnd} {h:Int} (w:Wv m rs h) (c:rs.length<=4) (k:Nat) (S:Sto):Ok (rn (k+(rs.length+2)) pY [.tup (gs.map D.int),vw rs h]) S λd S'=>d=plc gs (rkH gs (srt (j5 (hin rs h)))) rs h/\Ex S S':=by
 have a:=bx w;have b:=Q7 w;have o:=cR c;rw [show k+(rs.length+2)=(k+(rs.length+1))+1 from rfl,rn,d6 rfl,uE];refine Ok.bind ((oB k w c S).mono ?_);rintro _ S' ⟨n,rfl,e,f⟩;refine Ok.eq (nk e (by omega) (by have:=ay a;omega)) ?_;exact Ok.eq (tO g l j a S' k w λx i=>i)<|Ok.ret ⟨rfl,f⟩
theorem gc {r:Rnd} {h:Int} {j:Nat} (e:r.findIdx? (λb=>decide (h∈b))=some j):∃ t,(List.range r.length).filter (λi=>decide (h∈r.getD i []))=j :: t:=by
 obtain ⟨hj,h1,h2⟩:=ER.mp e;have sp:List.range r.length=List.range j++(j :: (List.range (r.length-(j+1))).map (j+1 + ·)):=by
  have a:r.length=(j+1)+(r.length-(j+1)):=by omega
  rw [a,List.range_add,List.range_succ];simp
 rw [sp,HR];have n1:(List.range j).filter (λi=>decide (h∈r.getD i []))=[]:=by
  rw [List.filter_eq_nil_iff];intro i hi;have hi:=Fp.mp hi;have:=h2 i hi;rw [Ee,Ds (by omega)];exact this
 have q:decide (h∈r.getD j [])=true:=by
  rw [Ee,Ds hj];exact h1
 rw [n1,Hs,IA (by exact q)];exact ⟨_,rfl⟩
theorem yT {r:Rnd} {h:Int} (f:h∈r.flatten) (A:r.flatten.length<=6) (E:r.length<=6) (k:Nat) (S:Sto):Ok (rn (k+2) yY [o6 r,.int h]) S λd S'=>d=.lst ((sn r h).map D.int)/\Ex S S':=by
 obtain ⟨j,s,w,C⟩:=uZ f;obtain ⟨t,u⟩:=gc s;rw [rn,d6 rfl,rV];have x:v9 (o6 r) S=.ok (.int (r.length:Int)) S:=by unfold o6;show R.ok (D.int ((r.map y8).length:Int)) S=_;rw [Dr]
 refine nx_bind<|Ok.eq x<|Ok.eq (oa (by omega) S) ?_;have b:=B4 (l:=List.range r.length) (p:=λi=>decide (h∈r.getD i [])) (t:=λg=>bind (ixD (o6 r) g) λo=>bind (d7 .In (.int h) o) λx5=>bind (asB x5) λm=>ret m) (λi=>mf _ i S) (X1 (by rw [Fv];omega)) (λi a=>by
  have a:=Fp.mp a;have c:=Ds a;have q:r.getD i []=r[i]:=by rw [Ee,c];rfl
  have z:ixD (o6 r) (.int (i:Int)) S=.ok (y8 r[i]) S:=lQ S (k4 c);have v:d7 .In (.int h) (y8 r[i]) S=.ok (.bl (decide (h∈r[i]))) S:=iT h r[i] S;rw [b6 z,b6 v,q];rfl) (λ_ _ _=>rfl)
 rw [Fv,u] at b;refine Ok.of b ?_;have n:ixD (.lst ((j :: t).map λi:Nat=>D.int (i:Int))) (.int 0) S=.ok (.int (j:Int)) S:=by
  have:=lQ (i:=0) (ds:=(j :: t).map λi:Nat=>D.int (i:Int)) S rfl;exact this
 refine Ok.eq n<|Ok.eq (oI j 1 S)<|Ok.eq rfl ?_;have y:slD (o6 r) none (some ((j+1:Nat):Int)) S=.ok (o6 (r.take (j+1))) S:=by
  show R.ok (D.tup (R4 (r.map y8) none (some ((j+1:Nat):Int)))) S=_;unfold R4 o6;rw [HT.sIx_none,HT.sIx_nat,Dr,Nat.min_eq_left (by omega),HM,Nat.sub_zero,List.map_take]
 refine Ok.eq y ?_;have B:=(Z9 r (j+1)).length_le;refine Ok.bind ((jM (by omega) (by rw [Fn];omega) k S).mono ?_);rintro _ S' ⟨rfl,e⟩;refine Ok.ret ⟨?_,e⟩;unfold sn;rw [w]
def pB (b:List Int):PyData:=.tuple (b.map .int)
def pR (r:Rnd):PyData:=.tuple (r.map pB)
theorem tZ (rs:List Rnd) (S:Sto):i5 64 S (v8 rs)=some (.tuple (rs.map pR)):=by
 have b:∀ b:List Int,i5 62 S (y8 b)=some (pB b):=λb=>by
  show (i4 (i5 61 S) (b.map D.int)).map _=_;rw [O6 60];rfl
 have r:∀ r:Rnd,i5 63 S (o6 r)=some (pR r):=λr=>by
  show (i4 (i5 62 S) (r.map y8)).map _=_;rw [cE λa _=>b a];rfl
 show (i4 (i5 63 S) (rs.map o6)).map _=_;rw [cE λa _=>r a];rfl
theorem vo (rs:List Rnd) (S:Sto):d7 .Eq (v8 rs) (.tup []) S=.ok (.bl rs.isEmpty) S:=by
 show eqP false (v8 rs) (.tup []) S=_;unfold eqP;rw [tZ];show (if PyData.canLay0 (.tuple (rs.map pR))=true/\PyData.canLay0 (.tuple [])=true/\min (PyData.depth (.tuple (rs.map pR))) (PyData.depth (.tuple []))<=60 then ret (D.bl (PyData.eqv (.tuple (rs.map pR)) (.tuple []))) else bad) S=_;have hd:PyData.depth (.tuple [])<=60:=by simp [PyData.depth,PyData.depthAll]
 rw [if_pos ⟨by
  exact bt λr _=>by
   exact bt λb _=>by unfold pB;simp only [PyData.canLay0];exact ar _,rfl,by omega⟩]
 cases rs <;> rfl
theorem mM (a:List Rnd) (r:Rnd) (S:Sto):ixD (v8 (r :: a).reverse) (.int (-1)) S=.ok (o6 r) S:=by
 exact rO S (by simp)
theorem vR (qs:List Rnd) (r:Rnd) (S:Sto):slD (v8 (r :: qs).reverse) none (some (-1)) S=.ok (v8 qs.reverse) S:=by
 show R.ok (D.tup (R4 (((r :: qs).reverse).map o6) none (some (-1)))) S=_;unfold R4 v8;rw [HT.sIx_none];have e:HT.sIx (((r :: qs).reverse).map o6).length (((r :: qs).reverse).map o6).length (some (-1))=qs.length:=by
  rw [Dr,HA];show (if (-1:Int)<0 then ((-1:Int)+((qs.length+1:Nat):Int)).toNat else min (-1:Int).toNat (qs.length+1))=_;rw [if_pos (by decide)];omega
 rw [e,HM,Nat.sub_zero,List.reverse_cons,Fk];rw [List.take_left' (by simp)]
theorem mE:∀ {c:List Rnd} {h:Int} (k:Nat),Wv m c h->∀ S,Ok (rn (k+(c.length+3)) nO [v8 c.reverse,.int h]) S λd S'=>d=vw c h/\Ex S S'
 | [],h,k,w,S=>by
  rw [show k+(([]:List Rnd).length+3)=(k+2)+1 from rfl,rn,d6 (fd:=jS) rfl,im];refine Ok.eq (vo _ S)<|Ok.eq (a:=true) (S1:=S) rfl ?_;rw [if_pos rfl];exact Ok.ret ⟨rfl,Ex.refl S⟩
 | r :: c,h,k,w,S=>by
  rw [show k+((r :: c).length+3)=(k+(c.length+3))+1 from rfl,rn,d6 (fd:=jS) rfl,im];refine Ok.eq (vo _ S)<|Ok.eq (a:=false) (S1:=S) (by cases j:(r :: c).reverse with | nil=>simp at j | cons a b=>rfl) ?_;rw [if_neg (by decide)];refine nx_bind<|Ok.eq (a:=.int (-1)) (S1:=S) rfl<|Ok.eq (mM c r S)<|Ok.bind ((yT w.1 w.2.2.2.1 w.2.2.2.2 (k+(c.length+1)) S).mono ?_);rintro _ S1 ⟨rfl,g⟩;refine Ok.eq (a:=(G2 ((sn r h).map D.int),((sn r h).map D.int).length+1)) (S1:=S1) rfl ?_;rw [Dr];have o:=T7 r h;refine (Ok.comp (λi S' es=>es=((sn r h).take i).map (vw c)/\Ex S S') (λS' es _=>?_) ?_ ⟨rfl,g⟩).mono ?_
  ·show some ((sn r h).map D.int)[(sn r h).length]?=_;rw [Et (by simp)]
  ·rintro i S' es f ⟨rfl,e⟩;have l:=Ds f;refine ⟨.int (sn r h)[i],by show some ((sn r h).map D.int)[i]?=_;rw [k4 l],Ok.ret ?_⟩;rw [if_pos rfl];refine Ok.eq rfl<|Ok.eq rfl<|Ok.eq (vR c r S')<|Ok.bind ((mE k (w.2.1 _ (J9 (Em f))) S').mono ?_);rintro _ S2 ⟨rfl,n⟩;refine Ok.ret ⟨by rw [Dr,Fn];exact X1 (by have:=w.2.2.2.1;omega),?_,e.trans n⟩;rw [Eu f,Fk];rfl
  ·rintro es S' ⟨rfl,e⟩;rw [FO];exact Ok.eq rfl<|Ok.ret ⟨rfl,e⟩
theorem xX {r:Rnd} {h:Int} (hh:h∈r.flatten) (f6:r.flatten.length<=6) (r6:r.length<=6) (k:Nat) (S:Sto):Ok (rn (k+1) wu [o6 r,.int h]) S λd S'=>d=.lst ((sn r h).map D.int)/\Ex S S':=by
 obtain ⟨j,ej,ea,hj⟩:=uZ hh;obtain ⟨_,j1,j2⟩:=ER.mp ej;rw [rn,d6 (fd:=Dh) rfl,rE,sF];refine Ok.first<|Ok.cg (zL ..)<|Ok.eq (show newL [] S=.ok (.ref S.length) (S++[.lst []]) from rfl)<|Ok.nxt<|Ok.cg (zH ..) ?_;unfold o6;refine Ok.eq (p0 _ _) ?_;rw [Dr];have at_:∀ x:O,(S++[x])[S.length]?=some x:=λx=>by rw [ED (Dz _)];simp
 refine Ok.bind ((Ok.for_ (n:=r.length) (λi ρ S'=>i<=j/\S'=S++[.lst ((r.take i).flatten.map D.int)]/\∃ o3:Option D,ρ=[some (.tup (r.map y8)),some (.int h),some (.ref S.length),o3]) (λρ S'=>S'=S++[.lst ((r.take (j+1)).flatten.map D.int)]/\∃ o3:Option D,ρ=[some (.tup (r.map y8)),some (.int h),some (.ref S.length),o3]) (λ_ _=>False) ?_ ?_ r.length 0 _ (S++[.lst []]) (by omega) ⟨Fe _,by simp,_,rfl⟩).mono ?_)
 ·intro ρ S' _;show some (r.map y8)[r.length]?=some none;rw [Et (by simp)]
 ·rintro i ρ S' hi ⟨ij,rfl,o3,rfl⟩;have eb:r[i]?=some r[i]:=Ds hi;have tk:(r.take (i+1)).flatten=(r.take i).flatten++r[i]:=by rw [Eu hi,FK];simp
  have ln:=(Z9 r (i+1)).length_le;rw [tk,Es] at ln;refine ⟨y8 r[i],[some (.tup (r.map y8)),some (.int h),some (.ref S.length),some (y8 r[i])],by show some (r.map y8)[i]?=_;rw [k4 eb],rfl,?_⟩;unfold dY;rw [eU];refine Ok.first<|Ok.cg (kr ..)<|Ok.eq (de (at_ _)) ?_;unfold y8;refine Ok.eq (mW (at_ _) (by rw [Dr,Dr,Ew];omega)) ?_;have es:(S++[O.lst ((r.take i).flatten.map D.int)]).set S.length (.lst ((r.take i).flatten.map D.int++r[i].map D.int))=S++[.lst ((r.take (i+1)).flatten.map D.int)]:=by
   rw [Gu _ _ (Dz _),tk,Fk];simp
  rw [es];refine Ok.nxt<|Ok.cg (je ..)<|Ok.eq (iT h r[i] _)<|Ok.eq (ax _ _) ?_;by_cases hm:h∈r[i]
  ·rw [if_pos (EE hm)];have:i=j:=by
    rcases Nat.lt_or_eq_of_le ij with q | q
    ·have:=j2 i q;simp [hm] at this
    ·exact q
   subst this;exact Ok.ret ⟨rfl,_,rfl⟩
  ·rw [if_neg (by simp [hm])];have:i≠j:=λq=>by subst q;simp [hm] at j1
   exact Ok.ret ⟨by omega,rfl,_,rfl⟩
 ·intro fl S' q;cases fl with
  | nx ρ=>
   rcases q with ⟨ij,e,o3,rfl⟩ | ⟨e,o3,rfl⟩
   ·omega
   ·subst e;have ln:=(Z9 r (j+1)).length_le;refine Ok.nxt<|Ok.cg (Ag ..)<|Ok.eq (V1 (at_ _) (by omega)) (Ok.ret ⟨?_,_,rfl⟩);unfold sn;rw [ea]
  | rt d=>exact q.elim
  | bk ρ=>exact q.elim
  | ct ρ=>exact q.elim
theorem nh (rs:List Rnd) (S:Sto):o7 (v8 rs) S=.ok (!rs.isEmpty) S:=by cases rs <;> rfl
theorem mY:∀ {b:List Rnd} {h:Int} (k:Nat),Wv m b h->∀ S,Ok (rn (k+(b.length+3)) xh [v8 b.reverse,.int h]) S λd S'=>d=vw b h/\Ex S S'
 | [],h,k,w,S=>by
  rw [show k+(([]:List Rnd).length+3)=(k+2)+1 from rfl,rn,d6 (fd:=ir) rfl,iw];refine Ok.eq (nh [] S) ?_;rw [if_pos (by simp)];exact Ok.ret ⟨rfl,Ex.refl S⟩
 | r :: b,h,k,w,S=>by
  rw [show k+((r :: b).length+3)=(k+(b.length+3))+1 from rfl,rn,d6 (fd:=ir) rfl,iw];refine Ok.eq (nh _ S) ?_;rw [if_neg (by simp)];refine Ok.eq (a:=.int (-1)) (S1:=S) rfl<|Ok.eq (a:=some (-1)) (S1:=S) rfl<|Ok.eq (vR b r S) ?_;refine nx_bind<|Ok.eq (a:=.int (-1)) (S1:=S) rfl<|Ok.eq (mM b r S)<|Ok.bind ((xX w.1 w.2.2.2.1 w.2.2.2.2 (k+(b.length+2)) S).mono ?_);rintro _ S1 ⟨rfl,j⟩;refine Ok.eq (a:=(G2 ((sn r h).map D.int),((sn r h).map D.int).length+1)) (S1:=S1) rfl ?_;rw [Dr];have l:=T7 r h;refine (Ok.comp (λi S' es=>es=((sn r h).take i).map (vw b)/\Ex S S') (λS' es _=>?_) ?_ ⟨rfl,j⟩).mono ?_
  ·show some ((sn r h).map D.int)[(sn r h).length]?=_;rw [Et (by simp)]
  ·rintro i S' es c ⟨rfl,e⟩;have g:=Ds c;refine ⟨.int (sn r h)[i],by show some ((sn r h).map D.int)[i]?=_;rw [k4 g],Ok.ret ?_⟩;rw [if_pos rfl];refine Ok.bind ((mY k (w.2.1 _ (J9 (Em c))) S').mono ?_);rintro _ S2 ⟨rfl,f⟩;refine Ok.ret ⟨by rw [Dr,Fn];exact X1 (by have:=w.2.2.2.1;omega),?_,e.trans f⟩;rw [Eu c,Fk];rfl
  ·rintro es S' ⟨rfl,e⟩;rw [FO];exact Ok.eq rfl<|Ok.ret ⟨rfl,e⟩
def ptd (q:List Rnd×Int):List (List Rnd×Int):=[(q.1++[[[q.2],[1-q.2]]],q.2),(q.1++[[[0,1]]],1-q.2),(q.1++[[[1-q.2],[q.2]]],q.2)]
def pth:Nat->List (List Rnd×Int)
 | 0=>[([],0)]
 | n+1=>(pth n).flatMap ptd
def ent (rs:List Rnd):D:=.tup [.tup [.int 0,.int 1],v8 rs]
def rgE (n:Nat):List (List Rnd):=(pth n).map (·.1)
def rg (n:Nat):D:=.tup ((rgE n).map ent)
theorem yw (k:Nat) (S:Sto):rn (k+2) aE [.int 1] S=.ok (rg 1) S:=by kernel_rfl
theorem zy (k:Nat) (S:Sto):rn (k+2) aE [.int 2] S=.ok (rg 2) S:=by kernel_rfl
theorem Ax (k:Nat) (S:Sto):rn (k+2) aE [.int 3] S=.ok (rg 3) S:=by kernel_rfl
theorem BO (k:Nat) (S:Sto):rn (k+2) aE [.int 4] S=.ok (rg 4) S:=by kernel_rfl
def ty (rs:List Rnd) (h:Int):D:=plc [0,1] (rkH [0,1] (srt (j5 (hin rs h)))) rs h
def wlk (s:PyData):PyData->List (PyData×PyData)->Bool
 | h,[]=>PyData.eqv h s
 | h,(a,b) :: l=>if PyData.eqv h a then PyData.eqv a h&&wlk s b l else PyData.eqv b h&&wlk s a l
def prs (es:List (List Rnd)):List (PyData×PyData):=es.map λrs=>(py (ty rs.reverse 0),py (ty rs.reverse 1))
def kM (es:List (List Rnd)):Bool:=match es with
 | []=>false
 | e :: l=>decide ((e :: l).length % 2=1)&&decide ((e :: l).length<=81)&&wlk (py (ty e.reverse 0)) (py (ty e.reverse 1)) (prs l)
theorem w1:kM (rgE 1)=true:=by kernel_rfl
theorem w2:kM (rgE 2)=true:=by kernel_rfl
theorem w3:kM (rgE 3)=true:=by kernel_rfl
theorem w4:kM (rgE 4)=true:=by kernel_rfl
def T3:List Rnd:=[[[0],[1]],[[0,1]],[[1],[0]]]
theorem vA:∀ r∈T3,r.flatten.Nodup/\r.flatten.length<=6/\r.length<=6/\(∀ x∈r.flatten,x=0\/x=1)/\(0:Int)∈r.flatten/\(1:Int)∈r.flatten/\srt r.flatten=[0,1]:=by decide
theorem xP (P:Rnd->Prop) (b:P [[0],[1]]) (d:P [[0,1]]) (c:P [[1],[0]]):∀ r∈T3,P r:=λr a=>by
 rcases Ea.mp a with rfl | a
 ·exact b
 rcases Ea.mp a with rfl | a
 ·exact d
 rcases Ea.mp a with rfl | a
 ·exact c
 ·cases a
def l01:D:=.lst [.int 0,.int 1]
theorem rd3 (k:Nat) (S:Sto):∀ r∈T3,rn (k+5) wq [.int 2,o6 r] S=.ok (.bl true) S:=xP _ (by kernel_rfl) (by kernel_rfl) (by kernel_rfl)
theorem hr3 (k:Nat) (S:Sto):∀ r∈T3,rn (k+5) Bp [o6 r] S=.ok l01 S:=xP _ (by kernel_rfl) (by kernel_rfl) (by kernel_rfl)
theorem Ct (S:Sto):(nx (bind (q9 l01) λa=>d9 a.1 (λ_=>ret true) (λc=>bind (d7 .In c l01) λb=>ret b) a.2 0 [])) S=.ok [.bl true,.bl true] S:=by kernel_rfl
section
variable {rs:List Rnd} (t:∀ r∈rs,r∈T3) (r1:1<=rs.length) (r4:rs.length<=4) (k:Nat) (S:Sto)
include t r1 r4
theorem yu (S:Sto):v9 (v8 rs) S=.ok (.int (rs.length:Int)) S:=by
 show R.ok (D.int ((rs.map o6).length:Int)) S=_;grind
theorem se:rn (k+6) Bu [.int 2,v8 rs] S=.ok (.bl true) S:=by
 refine F5 ?_;rw [rn,d6 rfl,xx,xT];refine Ok.first<|Ok.cg (DL ..)<|Ok.eq rfl<|Ok.eq rfl<|Ok.neg (by decide) ?_;refine Ok.eq (yu t r1 r4 S)<|Ok.eq (by rw [iO,EE (by omega)])<|Ok.eq rfl<|Ok.pos rfl ?_;refine Ok.eq (by rw [iO,EE (by omega)])<|Ok.eq rfl<|Ok.neg (by decide) ?_;refine Ok.nxt<|Ok.cg (DT ..)<|Ok.eq (a:=l01) (S1:=S) (by kernel_rfl) ?_;refine Ok.nxt<|Ok.cg (Cs ..)<|Ok.eq (p0 _ S) ?_;rw [Dr];refine Ok.bind ((Ok.loop (λi ρ S'=>S'=S/\∃ b c:Option D,ρ=[some (.int 2),some (v8 rs),some l01,b,c]) (λρ S' _=>?_) ?_ ⟨rfl,_,_,rfl⟩).mono ?_)
 ·show some (rs.map o6)[rs.length]?=_;rw [Et (by simp)]
 ·rintro i ρ S' e ⟨rfl,b,c,rfl⟩;have d:=t _ (Em e);refine ⟨o6 rs[i],_,by show some (rs.map o6)[i]?=_;rw [k4 (Ds e)],rfl,?_⟩;unfold ib;rw [gT];refine Ok.first<|Ok.cg (pc ..)<|Ok.eq (rd3 k S' _ d)<|Ok.eq rfl<|Ok.neg (by decide) ?_;refine Ok.nxt<|Ok.cg (lP ..)<|Ok.eq (hr3 k S' _ d) ?_;exact Ok.nxt<|Ok.cg (lJ ..)<|Ok.eq (Ct S')<|Ok.eq rfl<|Ok.eq rfl<|Ok.neg (by decide)<|Ok.ret ⟨_,.inl rfl,rfl,_,_,rfl⟩
 ·rintro _ S1 ⟨_,rfl,rfl,b,c,rfl⟩;exact Ok.nxt<|Ok.cg (Cy ..)<|Ok.ret ⟨rfl,rfl⟩
end
def B3:List (List Int):=[[0],[1],[0,1]]
theorem yB (P:List Int->Prop) (c:P [0]) (e:P [1]) (d:P [0,1]):∀ b∈B3,P b:=λb a=>by
 rcases Ea.mp a with rfl | a
 ·exact c
 rcases Ea.mp a with rfl | a
 ·exact e
 rcases Ea.mp a with rfl | a
 ·exact d
 ·cases a
theorem Cj (S:Sto):∀ b∈B3,d7 .Eq (y8 b) (.tup []) S=.ok (.bl false) S:=yB _ (by kernel_rfl) (by kernel_rfl) (by kernel_rfl)
theorem Cq (k:Nat) (S:Sto):∀ b∈B3,(bind (nx (bind (q9 (y8 b)) λa=>d9 a.1 (λc=>ret true) (λc=>bind (ng (.int 2) (.int 1)) λd=>bind (rn (k+1) 29 [c,(.int 0),d]) λf=>ret f) a.2 0 [])) λe=>d7 .In (.bl false) (.lst e)) S=.ok (.bl false) S:=yB _ (by kernel_rfl) (by kernel_rfl) (by kernel_rfl)
theorem Cc (k:Nat) (S:Sto):∀ b∈B3,rn (k+1) 30 [y8 b] S=.ok (.bl true) S:=yB _ (by kernel_rfl) (by kernel_rfl) (by kernel_rfl)
theorem oJ:∀ r∈T3,(∀ b∈r,b∈B3)/\r≠[]/\r.flatten.length=2/\r.length<=2/\srt r.flatten=[0,1]:=by decide
theorem DN (S:Sto):∀ r∈T3,d7 .Eq (o6 r) (.tup []) S=.ok (.bl false) S:=xP _ (by kernel_rfl) (by kernel_rfl) (by kernel_rfl)
theorem CS (k:Nat) (S:Sto):rn (k+1) 30 [l01] S=.ok (.bl true) S:=by kernel_rfl
theorem sU (g:r∈T3) (k:Nat) (S:Sto):Ok (rn (k+2) yc [.int 2,o6 r]) S λd S'=>d=.bl true/\Ex S S':=by
 obtain ⟨l,_,m,n,h⟩:=oJ r g;rw [rn,d6 rfl,rL,sZ];refine Ok.first<|Ok.cg (AI ..)<|Ok.eq rfl<|Ok.eq rfl<|Ok.neg (by decide)<|Ok.eq (DN S r g)<|Ok.eq rfl<|Ok.neg (by decide) ?_;refine Ok.nxt<|Ok.cg (zV ..)<|Ok.eq (rfl) ?_;refine Ok.nxt<|Ok.cg (AK ..)<|Ok.eq (p0 _ _) ?_;rw [Dr];have a:∀ x:O,(S++[x])[S.length]?=some x:=λx=>by rw [ED (Dz _)];simp
 refine Ok.bind ((Ok.loop (λi ρ S'=>S'=S++[.lst ((r.take i).flatten.map D.int)]/\∃ b:Option D,ρ=[some (.int 2),some (o6 r),some (.ref S.length),b]) (λρ S' _=>?_) ?_ ⟨by simp,_,rfl⟩).mono ?_)
 ·show some (r.map y8)[r.length]?=_;rw [Et (by simp)]
 ·rintro i ρ S' e ⟨rfl,b,rfl⟩;have c:=l _ (Em e);have f:(r.take (i+1)).flatten=(r.take i).flatten++r[i]:=by rw [Eu e,FK];simp
  have j:(r.take (i+1)).flatten.length<=r.flatten.length:=by
   conv=>rhs;rw [<- FR (i+1) r,FK,Es]
   omega
  rw [f,Es] at j;refine ⟨y8 r[i],_,by show some (r.map y8)[i]?=_;rw [k4 (Ds e)],rfl,?_⟩;unfold fA;rw [dz];refine Ok.first<|Ok.cg (jt ..)<|Ok.eq rfl<|Ok.eq rfl<|Ok.neg (by decide)<|Ok.eq (Cj _ _ c)<|Ok.eq rfl<|Ok.neg (by decide) ?_;refine Ok.nxt<|Ok.cg (ko ..)<|Ok.cg (bind_assoc _ _ _).symm<|Ok.eq (Cq k _ _ c)<|Ok.eq rfl<|Ok.neg (by decide)<|Ok.eq (Cc k _ _ c)<|Ok.eq rfl<|Ok.neg (by decide) ?_;refine Ok.nxt<|Ok.cg (ju ..)<|Ok.eq (de (a _))<|Ok.eq (mW (a _) (by rw [Dr,Dr];exact FV (vE (by omega)))) ?_;have es:(S++[O.lst ((r.take i).flatten.map D.int)]).set S.length (.lst ((r.take i).flatten.map D.int++r[i].map D.int))=S++[.lst ((r.take (i+1)).flatten.map D.int)]:=by
   rw [Gu _ _ (Dz _),f,Fk];simp
  rw [es];exact Ok.ret ⟨_,.inl rfl,rfl,_,rfl⟩
 ·rintro _ S1 ⟨_,rfl,rfl,b,rfl⟩;rw [FO];refine Ok.nxt<|Ok.cg (yz ..)<|Ok.eq (V1 (a _) (by omega)) ?_;rw [h];exact Ok.eq (CS k _)<|Ok.ret ⟨rfl,_,rfl⟩
theorem CT (n:Nat) (S:Sto) (h:n<=4):d7 .In (.bl false) (.lst (List.replicate n (D.bl true))) S=.ok (.bl false) S:=by
 match n,h with
 | 0,_ | 1,_ | 2,_ | 3,_ | 4,_=>kernel_rfl
theorem Af (S:Sto):(bind (q9 l01) λa=>d9 a.1 (λb=>bind (d7 .NotIn b l01) λx5=>bind (asB x5) λc=>ret c) (λb=>ret b) a.2 0 []) S=.ok [] S:=by kernel_rfl
theorem pa {rs:List Rnd} (t:∀ r∈rs,r∈T3) (l:1<=rs.length) (c:rs.length<=4) (k:Nat) (S:Sto):Ok (rn (k+3) zC [.int 2,v8 rs]) S λd S'=>d=.bl true/\Ex S S':=by
 rw [rn,d6 rfl,wR,xw];refine Ok.first<|Ok.cg (CU ..)<|Ok.eq rfl<|Ok.eq rfl<|Ok.neg (by decide) ?_;refine Ok.eq (yu t l c S)<|Ok.eq (by rw [iO,EE (by omega)])<|Ok.eq rfl<|Ok.pos rfl ?_;refine Ok.eq (by rw [iO,EE (by omega)])<|Ok.eq rfl<|Ok.neg (by decide) ?_;refine Ok.nxt<|Ok.cg (CB ..)<|nx_bind<|Ok.eq (p0 _ S) ?_;rw [Dr];refine (Ok.comp (λi S' es=>es=List.replicate i (D.bl true)/\Ex S S') (λS' es _=>?_) ?_ ⟨rfl,Ex.refl S⟩).mono ?_
 ·show some (rs.map o6)[rs.length]?=_;rw [Et (by simp)]
 ·rintro i S' es b ⟨rfl,a⟩;refine ⟨o6 rs[i],by show some (rs.map o6)[i]?=_;rw [k4 (Ds b)],Ok.ret ?_⟩;rw [if_pos rfl];refine Ok.bind ((sU (t _ (Em b)) k S').mono ?_);rintro _ S2 ⟨rfl,f⟩;exact Ok.ret ⟨by rw [Gs];exact vE (by omega),by rw [List.replicate_succ'],a.trans f⟩
 rintro _ S1 ⟨rfl,o⟩;refine Ok.eq (CT _ S1 c)<|Ok.eq rfl<|Ok.neg (by decide) ?_;have q:C8 [.int 1,.int (rs.length:Int)] S1=.ok (W9 1 (rs.length-1),rs.length-1+1) S1:=Y6 (by omega) (by omega) S1;refine Ok.nxt<|Ok.cg (CQ ..)<|Ok.eq (yu t l c S1)<|Ok.eq q<|Ok.bind ((Ok.loop (λi ρ S'=>Ex S S'/\∃ g e:Option D,ρ=[some (.int 2),some (v8 rs),g,e]) (λρ S' _=>Q9 _ S') ?_ ⟨o,_,_,rfl⟩).mono ?_)
 ·rintro i ρ S' b ⟨a,g,e,rfl⟩;have n:i<rs.length:=by omega
  have h:i+1<rs.length:=by omega
  obtain ⟨_,_,z,w,s⟩:=oJ _ (t _ (Em n));obtain ⟨_,_,x,y,u⟩:=oJ _ (t _ (Em h));have ix:∀ {j:Nat} (m:j<rs.length) (S:Sto),ixD (v8 rs) (.int (j:Int)) S=.ok (o6 rs[j]) S:=λ{j} m S=>lQ S (k4 (Ds m));refine ⟨.int ((i+1:Nat):Int),_,Y1 b S',rfl,?_⟩;unfold iF;rw [fv];refine Ok.first<|Ok.cg (nl ..)<|Ok.eq (by show R.ok (D.int (((i+1:Nat):Int)-1)) S'=_;rw [show (((i+1:Nat):Int)-1)=(i:Int) by omega])<|Ok.eq (ix n S')<|Ok.bind ((jM (by omega) (by omega) (k+1) S').mono ?_);rintro _ S2 ⟨rfl,f⟩;rw [s];refine Ok.nxt<|Ok.cg (li ..)<|nx_bind<|Ok.eq (ix h S2)<|Ok.bind ((jM (by omega) (by omega) (k+1) S2).mono ?_);rintro _ v ⟨rfl,p⟩;rw [u];exact Ok.of (Af v)<|Ok.eq rfl<|Ok.eq rfl<|Ok.neg (by decide)<|Ok.ret ⟨_,.inl rfl,(a.trans f).trans p,_,_,rfl⟩
 ·rintro _ S2 ⟨_,rfl,a,g,e,rfl⟩;exact Ok.nxt<|Ok.cg (CK ..)<|Ok.ret ⟨rfl,a⟩
def gdB (n:Nat) (rs:List Rnd):Bool:=decide (rs.length=n)&&rs.all (λr=>decide (r∈T3))&&smB 30 5000 (ty rs.reverse 0)&&smB 30 5000 (ty rs.reverse 1)
theorem g1:(rgE 1).all (gdB 1)=true:=by kernel_rfl
theorem g2:(rgE 2).all (gdB 2)=true:=by kernel_rfl
theorem g3:(rgE 3).all (gdB 3)=true:=by kernel_rfl
theorem g4:(rgE 4).all (gdB 4)=true:=by kernel_rfl
structure Gd (n:Nat) (rs:List Rnd):Prop where
 len:rs.length=n
 t3:∀ r∈rs,r∈T3
 s0:Sml 30 5000 (ty rs.reverse 0)
 s1:Sml 30 5000 (ty rs.reverse 1)
theorem BM (h:gdB n rs=true):Gd n rs:=by
 simp only [gdB,Dt,Eh,Er] at h;obtain ⟨⟨⟨h1,h2⟩,h5⟩,h6⟩:=h;exact ⟨h1,h2,.w h5,.w h6⟩
theorem wv3:∀ {g:List Rnd} {h:Int},(∀ r∈g,r∈T3)->(h=0\/h=1)->Wv 2 g h
 | [],h,_,i=>by
  show h∈rgL 2;rcases i with rfl | rfl <;> decide
 | r :: g,h,t,i=>by
  obtain ⟨a,b,c,d,e,f,_⟩:=vA r (t r (by simp));exact ⟨by rcases i with rfl | rfl <;> assumption,λx k=>wv3 (λq j=>t q (Ed _ j)) (d x k),a,b,c⟩
def g01:D:=.tup [.int 0,.int 1]
theorem DH (k:Nat) (S:Sto):rn (k+3) AR [g01] S=.ok (.bl true) S:=by kernel_rfl
theorem AM (k:Nat) (S:Sto):rn (k+2) AL [.int 2,g01] S=.ok (.bl true) S:=by kernel_rfl
section
variable {n:Nat} {rs:List Rnd} (G:Gd n rs) (n1:1<=n) (n4:n<=4)
include G n1 n4
theorem pD (S:Sto):v9 (v8 rs) S=.ok (.int (n:Int)) S:=by
 show R.ok (D.int ((rs.map o6).length:Int)) S=_;rw [Dr,G.len]
theorem tT (q:Nat) (k:Nat) (S:Sto):Ok (rn (k+4) Ac [.int (q:Int),ent rs]) S λd S'=>d=.bl (decide (n=q))/\Ex S S':=by
 rw [rn,d6 rfl,xD];refine Ok.eq rfl<|Ok.eq rfl<|Ok.neg (by decide) ?_;refine Ok.eq rfl<|Ok.eq rfl<|Ok.eq (a:=false) rfl<|Ok.neg (by decide) ?_;refine Ok.eq rfl<|Ok.eq (AM (k+1) S)<|Ok.eq rfl<|Ok.neg (by decide) ?_;refine Ok.eq rfl<|Ok.eq rfl<|Ok.eq rfl<|Ok.eq rfl<|Ok.neg (by decide) ?_;refine Ok.eq (a:=v8 rs) (S1:=S) rfl<|Ok.bind ((pa G.t3 (by have:=G.len;omega) (by have:=G.len;omega) k S).mono ?_);rintro _ S1 ⟨rfl,x1⟩;refine Ok.eq rfl<|Ok.neg (by decide) ?_;refine Ok.eq rfl<|Ok.eq (pD G n1 n4 S1)<|Ok.eq (oM _ _ S1)<|Ok.eq (ax _ S1) ?_;by_cases hq:n=q
 ·subst hq;rw [EE rfl,EE rfl];refine Ok.neg (by decide) ?_;refine nx_bind<|Ok.eq rfl<|Ok.eq (p0 _ S1) ?_;rw [Dr];refine (Ok.comp (λi S' es=>es=[]/\Ex S S') (λS' es _=>?_) ?_ ⟨rfl,x1⟩).mono ?_
  ·show some (rs.map o6)[rs.length]?=_;rw [Et (by simp)]
  ·rintro i S' es hi ⟨rfl,ex⟩;obtain ⟨a,b,c,d,e,f,g⟩:=vA rs[i] (G.t3 _ (Em hi));refine ⟨o6 rs[i],by show some (rs.map o6)[i]?=_;rw [k4 (Ds hi)],Ok.bind ((jM (by omega) (by omega) (k+2) S').mono ?_)⟩;rintro _ S2 ⟨rfl,x2⟩;rw [g];exact Ok.eq rfl<|Ok.eq rfl<|Ok.ret ⟨rfl,ex.trans x2⟩
  ·rintro _ S' ⟨rfl,ex⟩;exact Ok.eq rfl<|Ok.ret ⟨rfl,ex⟩
 ·rw [ES hq,ES (show ¬ (n:Int)=(q:Int) by omega)];exact Ok.pos rfl<|Ok.ret ⟨rfl,x1⟩
theorem nM (q:Nat) (k:Nat) (S:Sto):rn (k+7) wF [.int (q:Int),ent rs] S=.ok (.bl (decide (n=q))) S:=by
 refine F5 ?_;rw [rn,d6 rfl,sf,uA];refine Ok.first<|Ok.cg (BI ..) ?_;refine Ok.eq (a:=.bl true) (show rn (k+6) BD [ent rs,.int 2] S=_ from by kernel_rfl)<|Ok.eq (S1:=S) rfl<|Ok.neg (by decide) ?_;refine Ok.nxt<|Ok.cg (AE ..)<|Ok.eq rfl ?_;refine Ok.nxt<|Ok.cg (Aa ..)<|Ok.eq (DH (k+3) S)<|Ok.eq rfl<|Ok.neg (by decide) ?_;refine Ok.eq rfl<|Ok.eq rfl<|Ok.eq rfl<|Ok.neg (by decide) ?_;refine Ok.nxt<|Ok.cg (Au ..)<|Ok.eq (se G.t3 (by have:=G.len;omega) (by have:=G.len;omega) k S) ?_;refine Ok.eq rfl<|Ok.neg (by decide) ?_;refine Ok.eq (pD G n1 n4 S)<|Ok.eq (oM _ _ S)<|Ok.eq (ax _ S) ?_;by_cases hq:n=q
 ·subst hq;rw [EE rfl,EE rfl];refine Ok.neg (by decide) ?_;cases eq:rs.reverse with
  | nil=>
   have:=G.len;rw [List.reverse_eq_nil_iff] at eq;rw [eq] at this;simp at this;omega
  | cons r qs=>
   have er:rs=(r :: qs).reverse:=by rw [<- eq,Hq]
   have ht:=G.t3 r (by rw [er];simp);rw [er];refine Ok.nxt<|Ok.cg (zo ..) ?_;refine nx_bind<|Ok.eq rfl<|Ok.eq (mM qs r S) ?_;have c:∀ r∈T3,∃ l,(bind (q9 (o6 r)) λsm4=>d9 sm4.1 (λ_=>ret true) (λd1=>bind (v9 d1) λx5=>ret x5) sm4.2 0 []) S=.ok l S/\(bind (oS (.lst l)) λx7=>d7 .Eq x7 (.int 2)) S=.ok (.bl true) S:=by
    intro r hr;rcases Ea.mp hr with rfl | hr
    ·exact ⟨[.int 1,.int 1],by kernel_rfl,by kernel_rfl⟩
    rcases Ea.mp hr with rfl | hr
    ·exact ⟨[.int 2],by kernel_rfl,by kernel_rfl⟩
    rcases Ea.mp hr with rfl | hr
    ·exact ⟨[.int 1,.int 1],by kernel_rfl,by kernel_rfl⟩
    ·cases hr
   obtain ⟨l,e1,e2⟩:=c r ht;refine Ok.of e1 ?_;refine Ok.cg (bind_assoc (oS (.lst l)) (λx7=>d7 .Eq x7 (.int 2)) _).symm ?_;exact Ok.eq e2<|Ok.ret ⟨rfl,rfl⟩
 ·rw [ES hq,ES (show ¬ (n:Int)=(q:Int) by omega)];exact Ok.pos rfl<|Ok.ret ⟨rfl,rfl⟩
theorem jO (k:Nat) (S:Sto):Ok (rn (k+8) zh [ent rs]) S λd S'=>d=.lst [ty rs.reverse 0,ty rs.reverse 1]/\Ex S S':=by
 rw [rn,d6 rfl,wZ];have u:rs.reverse.length=n:=by rw [HA,G.len]
 have f:=λr j=>G.t3 r (List.mem_reverse.mp j);have b:∀ (h:Int),(h=0\/h=1)->∀ S,Ok (bind (ixD (ent rs) (.int 0)) λg=>bind (ixD (ent rs) (.int 1)) λo=>bind (rn (k+7) nO [o,.int h]) λx5=>bind (rn (k+7) pY [g,x5]) λx6=>ret x6) S λd S'=>d=ty rs.reverse h/\Ex S S':=λh p S=>by
  have w:=wv3 f p;obtain ⟨e,s⟩:∃ e,k+7=e+(rs.reverse.length+3):=⟨k+4-n,by omega⟩;obtain ⟨k2,q⟩:∃ k2,k+7=k2+(rs.reverse.length+2):=⟨k+5-n,by omega⟩;have V:=mE e w S;rw [<- s,Hq] at V;refine Ok.eq rfl<|Ok.eq rfl<|Ok.bind (V.mono ?_);rintro _ S1 ⟨rfl,l⟩;have Y:=xI (m:=2) (gs:=[0,1]) rfl (by omega) (by decide) w (by omega) k2 S1;rw [<- q] at Y;refine Ok.bind (Y.mono ?_);rintro _ S2 ⟨rfl,a⟩;exact Ok.ret ⟨rfl,l.trans a⟩
 refine nx_bind<|Ok.eq (p0 _ S) ?_;refine (Ok.comp (λi S' es=>es=([0,1].take i).map (λh=>ty rs.reverse h)/\Ex S S') (λS' es _=>rfl) ?_ ⟨rfl,Ex.refl S⟩).mono ?_
 ·rintro i S' es t ⟨rfl,c⟩
  match i,t with
  | 0,_=>
   refine ⟨.int 0,rfl,Ok.ret ?_⟩;rw [if_pos rfl];refine (b 0 (.inl rfl) S').mono ?_;rintro _ S2 ⟨rfl,a⟩;exact ⟨by show 0<sizeLine;exact X1 (by omega),rfl,c.trans a⟩
  | 1,_=>
   refine ⟨.int 1,rfl,Ok.ret ?_⟩;rw [if_pos rfl];refine (b 1 (.inr rfl) S').mono ?_;rintro _ S2 ⟨rfl,a⟩;exact ⟨by show 1<sizeLine;exact X1 (by omega),rfl,c.trans a⟩
 ·rintro _ S' ⟨rfl,c⟩;exact Ok.ret ⟨rfl,c⟩
theorem nq (f:h=0\/h=1) (k:Nat) (S:Sto):Ok (rn (k+8) xt [g01,v8 rs,.int h]) S λd S'=>d=ty rs.reverse h/\Ex S S':=by
 rw [rn,d6 rfl,sC];have j:rs.reverse.length=n:=by rw [HA,G.len]
 have a:=λr c=>G.t3 r (List.mem_reverse.mp c);have w:=wv3 a f;obtain ⟨b,i⟩:∃ b,k+7=b+(rs.reverse.length+3):=⟨k+4-n,by omega⟩;obtain ⟨k2,g⟩:∃ k2,k+7=k2+(rs.reverse.length+2):=⟨k+5-n,by omega⟩;have V:=mY b w S;rw [<- i,Hq] at V;refine Ok.bind (V.mono ?_);rintro _ S1 ⟨rfl,e⟩;have Y:=yR (m:=2) (gs:=[0,1]) rfl (by omega) (by decide) w (by omega) k2 S1;rw [<- g] at Y;exact Ok.eq Y<|Ok.ret ⟨rfl,e⟩
theorem pk (k:Nat) (S:Sto):Ok (rn (k+9) xj [ent rs]) S λd S'=>d=.tup [ty rs.reverse 0,ty rs.reverse 1]/\Ex S S':=by
 rw [rn,d6 rfl,rM,rP];refine Ok.first<|Ok.cg (AN ..)<|Ok.eq rfl ?_;refine Ok.nxt<|Ok.cg (AU ..)<|Ok.bind ((nq G n1 n4 (.inl rfl) k S).mono ?_);rintro _ S1 ⟨rfl,a⟩;refine Ok.bind ((nq G n1 n4 (.inr rfl) k S1).mono ?_);rintro _ S2 ⟨rfl,b⟩;exact Ok.ret ⟨rfl,a.trans b⟩
end
theorem uY (e:Sml 30 5000 a) (d:Sml 30 5000 b) (c:Bool) (S:Sto):eqP c a b S=.ok (.bl (if c=true then !PyData.eqv (py a) (py b) else PyData.eqv (py a) (py b))) S:=sg (e.any (by omega)) (by omega) d.pl (by have:=d.dp;omega) c S
theorem in2 (hd:Sml 30 5000 d) (f:Sml 30 5000 a) (c:Sml 30 5000 b) (S:Sto):d7 .NotIn d (.tup [a,b]) S=.ok (.bl (!(PyData.eqv (py a) (py d)||PyData.eqv (py b) (py d)))) S:=by
 show inD true d (.tup [a,b]) S=_;unfold inD;have e:i5 64 S (.tup [a,b])=some (.tuple [py a,py b]):=by
  show (i4 (i5 63 S) [a,b]).map PyData.tuple=_;simp only [i4,L9 S a 63 (f.pl) (by have:=f.dp;omega),L9 S b 63 (c.pl) (by have:=c.dp;omega)];rfl
 rw [L9 S d 64 hd.pl (by have:=hd.dp;omega),e];show kW true (py d) [py a,py b] S=_;unfold kW;have h:=ah d;have g:=hd.dp;rw [if_pos ⟨U7 d hd.pl,by simp only [PyData.canLayAll0,U7 a f.pl,U7 b c.pl,Io],by omega⟩];simp;rfl
theorem vD {s h a b:PyData} {l:List (PyData×PyData)} (w:wlk s h ((a,b) :: l)=true):(PyData.eqv h a=true/\PyData.eqv a h=true/\wlk s b l=true)\/(PyData.eqv h a=false/\PyData.eqv b h=true/\wlk s a l=true):=by
 unfold wlk at w;cases e:PyData.eqv h a with
 | true=>rw [e,if_pos rfl,Dt] at w;exact .inl ⟨rfl,w.1,w.2⟩
 | false=>rw [e,if_neg (by decide),Dt] at w;exact .inr ⟨rfl,w.1,w.2⟩
theorem uR (a:List Rnd) (h:Int):∃ ds,ty a h=.tup ds:=by cases a <;> exact ⟨_,rfl⟩
theorem eqS (d:Sml 30 5000 a) (e:Sml 30 5000 b) (c:∃ ds,b=.tup ds) (S:Sto):d7 .Eq a b S=.ok (.bl (PyData.eqv (py a) (py b))) S:=by
 obtain ⟨ds,rfl⟩:=c;cases a <;> exact uY d e false S
theorem neS (d:Sml 30 5000 a) (e:Sml 30 5000 b) (c:∃ ds,b=.tup ds) (S:Sto):d7 .NotEq a b S=.ok (.bl (!PyData.eqv (py a) (py b))) S:=by
 obtain ⟨ds,rfl⟩:=c;cases a <;> exact uY d e true S
structure Rg (n:Nat) (es:List (List Rnd)):Prop where
 g:∀ rs∈es,Gd n rs
 odd:es.length % 2=1
 le:es.length<=81
 w:∀ e l,es=e :: l->wlk (py (ty e.reverse 0)) (py (ty e.reverse 1)) (prs l)=true
theorem iU {es:List (List Rnd)} (h:es.all (gdB n)=true) (w:kM es=true):Rg n es:=by
 cases es with
 | nil=>cases w
 | cons e l=>
  simp only [kM,Dt,Eh] at w;exact ⟨λrs a=>BM (Er.mp h rs a),w.1.1,w.1.2,λb c z=>by cases z;exact w.2⟩
theorem rgs (b:1<=n) (a:n<=4):Rg n (rgE n):=by
 match n,b,a with
 | 1,_,_=>exact iU g1 w1
 | 2,_,_=>exact iU g2 w2
 | 3,_,_=>exact iU g3 w3
 | 4,_,_=>exact iU g4 w4
def u9 (es:List (List Rnd)):D:=.tup (es.map ent)
section
variable {n:Nat} {es:List (List Rnd)} (G:Rg n es) (n1:1<=n) (n4:n<=4)
theorem w5 (es:List (List Rnd)) (S:Sto):v9 (u9 es) S=.ok (.int (es.length:Int)) S:=by
 show R.ok (D.int ((es.map ent).length:Int)) S=_;grind
theorem R5 (a:i<es.length) (S:Sto):ixD (u9 es) (.int (i:Int)) S=.ok (ent es[i]) S:=lQ S (k4 (Ds a))
theorem hX {i:Nat} (hi:i<es.length) (S:Sto):U3 (es.map ent) i S=some (some (.tup [.int (i:Int),ent es[i]])):=by
 unfold U3;simp only [k4 (Ds hi)]
theorem Z5 (G:Rg n es) (S:Sto):Q8 (.int (es.length:Int)) (.int 2) S=.ok (.int 1) S:=by
 have h:=G.odd;show (if (0:Int)<2 then ret (D.int ((es.length:Int) % 2)) else bad) S=_;rw [if_pos (by decide),show (es.length:Int) % 2=1 by omega];rfl
theorem cb (G:Rg n es) (S:Sto):d7 .Gt (.int (es.length:Int)) (.int 81) S=.ok (.bl false) S:=by
 have h:=G.le;rw [AT,ES (by omega)]
theorem oH {i:Nat} (hi:i<l.length):(prs l).drop i=(py (ty l[i].reverse 0),py (ty l[i].reverse 1)) :: (prs l).drop (i+1):=by
 unfold prs;rw [HX (by simpa using hi)];simp
include G n1 n4
theorem rm (k:Nat) (S:Sto):Ok (rn (k+9) wb [.int (n:Int),u9 es]) S λd S'=>d=.bl true/\Ex S S':=by
 rw [rn,d6 rfl,tP,qV];refine Ok.first<|Ok.cg (Bg ..) ?_;refine Ok.eq rfl<|Ok.eq rfl<|Ok.neg (by decide) ?_;refine Ok.eq (w5 es S)<|Ok.eq (Z5 G S)<|Ok.eq rfl<|Ok.eq rfl<|Ok.neg (by decide) ?_;refine Ok.eq (w5 es S)<|Ok.eq (cb G S)<|Ok.eq rfl<|Ok.neg (by decide) ?_;have t:=G.le;refine Ok.nxt<|Ok.cg (Am ..)<|Ok.eq (w5 es S)<|Ok.eq (oa (by omega) S)<|Ok.bind ((Ok.loop (λi ρ S'=>Ex S S'/\∃ o:Option D,ρ=[some (.int (n:Int)),some (u9 es),o,none,none,none,none]) (λρ S' _=>qO _ S') ?_ ⟨Ex.refl S,_,rfl⟩).mono ?_)
 ·rintro i ρ S' a ⟨g,o,rfl⟩;refine ⟨.int (i:Int),_,yM a S',rfl,?_⟩;unfold dq;rw [el];refine Ok.first<|Ok.cg (ku ..)<|Ok.eq (R5 a S')<|Ok.bind ((tT (G.g _ (Em a)) n1 n4 n (k+4) S').mono ?_);rintro _ S2 ⟨rfl,x⟩;rw [EE rfl];exact Ok.eq rfl<|Ok.neg (by decide)<|Ok.ret ⟨_,.inl rfl,g.trans x,_,rfl⟩
 rintro _ S1 ⟨_,rfl,j,o,rfl⟩;cases c:es with
 | nil=>have:=G.odd;rw [c] at this;simp at this
 | cons e l=>
  have W:=G.w e l c;have p:=G.g e (by rw [c];simp);have F:=λrs H=>G.g rs (by rw [c];exact Ed _ H);have I:l.length<=80:=by rw [c] at t;simp at t;exact t
  refine Ok.nxt<|Ok.cg (zf ..)<|Ok.eq (R5 (by simp) S1)<|Ok.bind ((jO p n1 n4 k S1).mono ?_);rintro _ S2 ⟨rfl,x⟩;refine Ok.eq rfl ?_;have C:=Y6 (m:=l.length+1) (by omega) (by omega) S2;refine Ok.nxt<|Ok.cg (Bb ..)<|Ok.eq (w5 _ S2)<|Ok.eq C<|Ok.bind ((Ok.loop (n:=l.length) (λi ρ S'=>Ex S S'/\∃ (q z y:Option D) (hd:D),ρ=[some (.int (n:Int)),some (u9 (e :: l)),q,some (ty e.reverse 0),some hd,z,y]/\Sml 30 5000 hd/\wlk (py (ty e.reverse 0)) (py hd) ((prs l).drop i)=true) (λρ S' _=>Q9 _ S') ?_ ⟨j.trans x,_,_,_,_,rfl,p.s1,W⟩).mono ?_)
  ·rintro i ρ S' a ⟨g,q,z,y,hd,rfl,h,w⟩;refine ⟨.int ((i+1:Nat):Int),_,Y1 a S',rfl,?_⟩;unfold dZ;rw [fG];have b:=F _ (Em a);have ix:=R5 (es:=e :: l) (i:=i+1) (by simpa using a) S';refine Ok.first<|Ok.cg (ki ..)<|Ok.eq ix<|Ok.bind ((jO b n1 n4 k S').mono ?_);rintro _ f ⟨rfl,B⟩;rw [oH a] at w;refine Ok.eq rfl ?_;refine Ok.nxt<|Ok.cg (jr ..)<|Ok.eq (in2 h b.s0 b.s1 f)<|Ok.eq (ax _ f) ?_;have A:=eqS h b.s0 (uR _ _) f;rcases vD w with ⟨s,r,u⟩ | ⟨s,r,u⟩
   ·refine Ok.neg (by rw [r,Bool.true_or];decide)<|Ok.nxt<|Ok.cg (bT ..)<|Ok.eq A ?_;rw [s];exact Ok.eq rfl<|Ok.pos rfl<|Ok.ret ⟨_,.inl rfl,g.trans B,_,_,_,_,rfl,b.s1,u⟩
   ·refine Ok.neg (by rw [r,Bool.or_true];decide)<|Ok.nxt<|Ok.cg (bT ..)<|Ok.eq A ?_;rw [s];exact Ok.eq rfl<|Ok.neg (by decide)<|Ok.ret ⟨_,.inl rfl,g.trans B,_,_,_,_,rfl,b.s0,u⟩
  ·rintro _ f ⟨_,rfl,v,q,z,y,hd,rfl,h,w⟩;have E:(prs l).drop l.length=[]:=List.drop_of_length_le (by simp [prs]);rw [E] at w;have w:PyData.eqv (py hd) (py (ty e.reverse 0))=true:=w;refine Ok.nxt<|Ok.cg (Bn ..)<|Ok.eq (eqS h p.s0 (uR _ _) f) ?_;rw [w];exact Ok.eq rfl<|Ok.pos rfl<|Ok.ret ⟨rfl,v⟩
theorem xS (k:Nat) (S:Sto):Ok (rn (k+8) vk [.int (n:Int),u9 es]) S λ_ S'=>S'=S:=by
 rw [rn,d6 rfl,lz,oY];refine Ok.first<|Ok.cg (Br ..) ?_;refine Ok.eq rfl<|Ok.eq rfl<|Ok.neg (by decide) ?_;refine Ok.eq (w5 es S)<|Ok.eq (Z5 G S)<|Ok.eq rfl<|Ok.eq rfl<|Ok.neg (by decide) ?_;refine Ok.eq (w5 es S)<|Ok.eq (cb G S)<|Ok.eq rfl<|Ok.neg (by decide) ?_;have b:bi (u9 es) S=.ok (U3 (es.map ent),es.length+1) S:=by
  show R.ok (U3 (es.map ent),(es.map ent).length+1) S=_;rw [Dr]
 refine Ok.nxt<|Ok.cg (zk ..)<|Ok.eq b<|Ok.bind ((Ok.loop (λi ρ S'=>S'=S/\∃ o o':Option D,ρ=[some (.int (n:Int)),some (u9 es),o,o']) (λρ S' _=>?_) ?_ ⟨rfl,_,_,rfl⟩).mono ?_)
 ·simp [U3]
 ·rintro i ρ S' a ⟨rfl,o,o',rfl⟩;refine ⟨.tup [.int (i:Int),ent es[i]],[some (.int (n:Int)),some (u9 es),some (.int (i:Int)),some (ent es[i])],hX a S',rfl,?_⟩;unfold cp;rw [ab];refine Ok.first<|Ok.cg (eG ..)<|Ok.eq (nM (G.g _ (Em a)) n1 n4 n k S') ?_;rw [EE rfl];exact Ok.eq rfl<|Ok.neg (by decide)<|Ok.ret ⟨_,.inl rfl,rfl,_,_,rfl⟩
 ·rintro _ S1 ⟨_,rfl,rfl,o,o',rfl⟩;exact Ok.ret rfl
theorem wf (d:n≠q) (k:Nat) (S:Sto):Xn (rn (k+8) vk [.int (q:Int),u9 es]) S λm S'=>m=S.length/\S'=S++[.exc 2 [("word",.str "entry"),("at",.int 0)]]:=by
 rw [rn,d6 rfl,lz,oY];refine Xn.first<|Xn.cg (Br ..) ?_;refine Xn.eq rfl<|Xn.eq rfl<|Xn.neg (by decide) ?_;refine Xn.eq (w5 es S)<|Xn.eq (Z5 G S)<|Xn.eq rfl<|Xn.eq rfl<|Xn.neg (by decide) ?_;refine Xn.eq (w5 es S)<|Xn.eq (cb G S)<|Xn.eq rfl<|Xn.neg (by decide) ?_;have c:bi (u9 es) S=.ok (U3 (es.map ent),es.length+1) S:=by
  show R.ok (U3 (es.map ent),(es.map ent).length+1) S=_;rw [Dr]
 have a:0<es.length:=by have:=G.odd;omega
 refine Xn.nxt<|Xn.cg (zk ..)<|Xn.eq c<|Xn.bind ?_;refine Xn.for_ (λ_ ρ S'=>S'=S/\ρ=[some (.int (q:Int)),some (u9 es),none,none]) (λi ρ S b _=>absurd b (Nat.not_lt_zero i)) ?_ (es.length+1) 0 _ _ (Dz _) (by omega) ⟨rfl,rfl⟩;rintro ρ S' ⟨rfl,rfl⟩;refine ⟨.tup [.int 0,ent es[0]],[some (.int (q:Int)),some (u9 es),some (.int 0),some (ent es[0])],hX a S',rfl,?_⟩;unfold cp;rw [ab];refine Xn.first<|Xn.cg (eG ..)<|Xn.eq (nM (G.g _ (Em a)) n1 n4 q k S') ?_;rw [ES d];exact Xn.eq rfl<|Xn.pos rfl<|raise_k rfl (by kernel_rfl)
theorem sY (k:Nat) (S:Sto):Ok (rn (k+10) nY [.int (n:Int),u9 es]) S λd S'=>d=.bl true/\Ex S S':=by
 rw [rn,d6 rfl,hW,hG];refine Ok.first<|Ok.cg (vI ..)<|Ok.bind ((xS G n1 n4 (k+1) S).mono ?_);rintro _ S' F;rw [F];have q:=G.le;cases b:es with
 | nil=>have:=G.odd;rw [b] at this;simp at this
 | cons e l=>
  have W:=G.w e l b;have h:=G.g e (by rw [b];simp);have B:=λrs C=>G.g rs (by rw [b];exact Ed _ C);have H:l.length<=80:=by rw [b] at q;simp at q;exact q
  refine Ok.nxt<|Ok.cg (zp ..)<|Ok.eq (R5 (by simp) S)<|Ok.bind ((pk h n1 n4 k S).mono ?_);rintro _ S2 ⟨rfl,E⟩;refine Ok.eq rfl ?_;have z:=Y6 (m:=l.length+1) (by omega) (by omega) S2;refine Ok.nxt<|Ok.cg (zn ..)<|Ok.eq (w5 _ S2)<|Ok.eq z<|Ok.bind ((Ok.loop (n:=l.length) (λi ρ S'=>Ex S S'/\∃ (j u t:Option D) (hd:D),ρ=[some (.int (n:Int)),some (u9 (e :: l)),some (ty e.reverse 0),some hd,j,u,t]/\Sml 30 5000 hd/\wlk (py (ty e.reverse 0)) (py hd) ((prs l).drop i)=true) (λρ S' _=>Q9 _ S') ?_ ⟨E,_,_,_,_,rfl,h.s1,W⟩).mono ?_)
  ·rintro i ρ S' g ⟨y,j,u,t,hd,rfl,f,w⟩;refine ⟨.int ((i+1:Nat):Int),_,Y1 g S',rfl,?_⟩;unfold eC;rw [ef];have a:=B _ (Em g);have ix:=R5 (es:=e :: l) (i:=i+1) (by simpa using g) S';refine Ok.first<|Ok.cg (kf ..)<|Ok.eq ix<|Ok.bind ((pk a n1 n4 k S').mono ?_);rintro _ c ⟨rfl,x⟩;rw [oH g] at w;refine Ok.eq rfl ?_;refine Ok.nxt<|Ok.cg (kl ..)<|Ok.eq (in2 f a.s0 a.s1 c)<|Ok.eq (ax _ c) ?_;have v:=eqS f a.s0 (uR _ _) c;rcases vD w with ⟨p,o,r⟩ | ⟨p,o,r⟩
   ·refine Ok.neg (by rw [o,Bool.true_or];decide)<|Ok.nxt<|Ok.cg (bQ ..)<|Ok.eq v ?_;rw [p];exact Ok.eq rfl<|Ok.pos rfl<|Ok.ret ⟨_,.inl rfl,y.trans x,_,_,_,_,rfl,a.s1,r⟩
   ·refine Ok.neg (by rw [o,Bool.or_true];decide)<|Ok.nxt<|Ok.cg (bQ ..)<|Ok.eq v ?_;rw [p];exact Ok.eq rfl<|Ok.neg (by decide)<|Ok.ret ⟨_,.inl rfl,y.trans x,_,_,_,_,rfl,a.s0,r⟩
  ·rintro _ c ⟨_,rfl,s,j,u,t,hd,rfl,f,w⟩;have A:(prs l).drop l.length=[]:=List.drop_of_length_le (by simp [prs]);rw [A] at w;have w:PyData.eqv (py hd) (py (ty e.reverse 0))=true:=w;refine Ok.nxt<|Ok.cg (AQ ..)<|Ok.eq (neS f h.s0 (uR _ _) c) ?_;rw [w];exact Ok.eq rfl<|Ok.neg (by decide)<|Ok.nxt<|Ok.cg (AZ ..)<|Ok.ret ⟨rfl,s⟩
theorem pr (k:Nat) (S:Sto):Ok (rn (k+11) lN [.int (n:Int),u9 es]) S λd S'=>d=.bl true/\Ex S S':=by
 rw [rn,d6 rfl,ii,iK];refine Ok.first<|Ok.cg (vh ..)<|Ok.nxt<|Ok.cg (vH ..)<|Ok.bind<|Ok.try_ ?_;rw [af];refine Ok.bind ((sY G n1 n4 k S).mono ?_);rintro _ S1 ⟨rfl,a⟩;exact Ok.ret<|Ok.nxt<|Ok.cg (vQ ..)<|Ok.ret ⟨rfl,a⟩
theorem rc (b:n≠q) (k:Nat) (S:Sto):Ok (rn (k+11) lN [.int (q:Int),u9 es]) S λd S'=>d=.tup [.str "entry",.int 0]/\Ex S S':=by
 rw [rn,d6 rfl,ii,iK];refine Ok.first<|Ok.cg (vh ..)<|Ok.nxt<|Ok.cg (vH ..)<|Ok.bind<|Ok.caught ?_;rw [af];have X:Xn (rn (k+10) nY [.int (q:Int),u9 es]) S λm S'=>m=S.length/\S'=S++[.exc 2 [("word",.str "entry"),("at",.int 0)]]:=by
  rw [rn,d6 rfl,hW,hG];exact Xn.first<|Xn.cg (vI ..)<|Xn.bind (wf G n1 n4 b (k+1) S)
 refine Xn.bind (X.mono ?_);rintro m S1 ⟨rfl,rfl⟩;have e:(S++[O.exc 2 [("word",D.str "entry"),("at",D.int 0)]])[S.length]?=some (O.exc 2 [("word",D.str "entry"),("at",D.int 0)]):=by simp
 refine ⟨2,[("word",.str "entry"),("at",.int 0)],e,rfl,?_⟩;show Ok (k6 (evK Rs Γ _ 39) (I0 P2) P6 [some (.int (q:Int)),some (u9 es),some (.tup [.str "other"]),some (.ref S.length)] ret) _ _;rw [eL];have a:rn (k+10) xl [.ref S.length] (S++[O.exc 2 [("word",D.str "entry"),("at",D.int 0)]])=.ok (.tup [.str "entry",.int 0]) (S++[O.exc 2 [("word",D.str "entry"),("at",D.int 0)]]):=by
  refine F5 ?_;rw [rn,d6 rfl,sr];refine Ok.eq (by simp only [B0,e];rfl)<|Ok.eq (by simp only [B0,e];rfl)<|Ok.eq rfl<|Ok.pos rfl ?_;refine Ok.eq (by simp only [B0,e];rfl)<|Ok.eq rfl<|Ok.pos rfl ?_;refine Ok.eq rfl<|Ok.pos rfl ?_;exact Ok.eq (by simp only [dM,e];rfl)<|Ok.eq (by simp only [dM,e];rfl)<|Ok.ret ⟨rfl,rfl⟩
 exact Ok.first (Ok.cg (kO ..) (nx_bind (Ok.of a (Ok.ret<|Ok.nxt<|Ok.cg (vQ ..)<|Ok.ret ⟨rfl,_,rfl⟩))))
end
theorem sR (ns:List Int) (S:Sto) (k:Nat):∃ ms:List Int,rn (k+1) wA [.scr (ns.map D.int)] S=.ok (.ref S.length) (S++[i8 ms 0 0 0]):=by
 obtain ⟨ms,a⟩:=mH ns;refine ⟨ms,?_⟩;rw [rn,d6 (fd:=ny) rfl,uS,b6 (show slD (.scr (ns.map D.int)) none (some 63) S=.ok (.lst (R4 (ns.map D.int) none (some 63))) S from rfl),a];rfl
theorem wo {n:Nat} (b:1<=n) (a:n<=4) (k:Nat) (S:Sto):rn (k+2) aE [.int (n:Int)] S=.ok (u9 (rgE n)) S:=by
 match n,b,a with
 | 1,_,_=>exact yw k S
 | 2,_,_=>exact zy k S
 | 3,_,_=>exact Ax k S
 | 4,_,_=>exact BO k S
theorem wt {n:Nat} (b:1<=n) (c:n<=4) {g f h k r:Option D} (S:Sto):Ok (aR (rn 11) [g,f,h,some (.int (n:Int)),k,r]) S λv S'=>(∃ p l,v=.nx [g,f,h,some (.int (n:Int)),p,l])/\Ex S S':=by
 unfold aR;rw [dy];have G:=rgs b c;refine Ok.first<|Ok.cg (kJ ..)<|Ok.eq (wo b c 9 S) ?_;refine Ok.nxt<|Ok.cg (kX ..)<|Ok.bind ((rm G b c 2 S).mono ?_);rintro _ S1 ⟨rfl,t⟩;refine Ok.eq (a:=.bl false) (S1:=S1) rfl<|Ok.eq (a:=false) (S1:=S1) rfl<|Ok.neg (by decide)<|Ok.bind ((pr G b c 0 S1).mono ?_);rintro _ S2 ⟨rfl,j⟩;refine Ok.eq (a:=.bl false) (S1:=S2) rfl<|Ok.eq (a:=false) (S1:=S2) rfl<|Ok.neg (by decide) ?_;refine Ok.nxt<|Ok.cg (jg ..)<|Ok.eq (a:=(W9 1 4,4+1)) (S1:=S2) (Y6 (m:=5) (by omega) (by omega) S2)<|Ok.bind ((Ok.loop (n:=4) (λi ρ S'=>Ex S S'/\∃ o:Option D,ρ=[g,f,h,some (.int (n:Int)),some (u9 (rgE n)),o]) (λρ S' _=>Q9 4 S') ?_ ⟨t.trans j,_,rfl⟩).mono ?_)
 ·rintro i ρ S' s ⟨d,o,rfl⟩;refine ⟨.int ((i+1:Nat):Int),_,Y1 s S',rfl,?_⟩;unfold R7;rw [X3];refine Ok.first<|Ok.cg (bA ..)<|Ok.eq (oM _ _ S')<|Ok.eq (ax _ S') ?_;by_cases u:n=i+1
  ·rw [EE (show ((i+1:Nat):Int)=(n:Int) by omega)];exact Ok.neg (by decide)<|Ok.ret ⟨_,.inl rfl,d,_,rfl⟩
  ·rw [ES (show ¬ ((i+1:Nat):Int)=(n:Int) by omega)];refine Ok.pos rfl<|Ok.bind ((rc G b c u 0 S').mono ?_);rintro _ e ⟨rfl,q⟩;exact Ok.eq (a:=.bl false) (S1:=e) (by kernel_rfl)<|Ok.eq (a:=false) (S1:=e) rfl<|Ok.neg (by decide)<|Ok.ret ⟨_,.inl rfl,d.trans q,_,rfl⟩
 ·rintro _ e ⟨_,rfl,d,o,rfl⟩;exact Ok.ret ⟨⟨_,_,rfl⟩,d⟩
theorem yD (ns:List Int):∃ S',rn 12 lf [.scr (ns.map D.int)] []=.ok (.bl true) S':=by
 suffices h:Ok (rn 12 lf [.scr (ns.map D.int)]) [] λd _=>d=.bl true by
  obtain ⟨d,S',e,rfl⟩:=h;exact ⟨S',e⟩
 rw [rn,d6 (fd:=law_F) rfl,qW,tI];obtain ⟨ms,B⟩:=sR ns [] 10;refine Ok.first<|Ok.cg (zm ..)<|Ok.eq B ?_;have w:Ft ms 0 900 ([]++[i8 ms 0 0 0]):=⟨0,0,0,by simp,by omega,by omega,by omega,by omega⟩;generalize ([]++[i8 ms 0 0 0]:Sto)=S0 at w;show Ok (nxt _ _ _ _ (.nx [some (.scr (ns.map D.int)),some (.ref 0),none,none,none,none])) S0 _;refine Ok.nxt<|Ok.cg (BN ..)<|Ok.bind ((jP (m:=3) (N:=800) (w.less (by omega)) (by omega) (by omega) 10).mono ?_);rintro _ S1 ⟨r,rfl,M,p,R,P⟩;refine Ok.eq (oI 1 r S1)<|Ok.eq (show newL [.int 1,.int 2,.int ((1+r:Nat):Int)] S1=.ok (.ref S1.length) (S1++[.lst [.int 1,.int 2,.int ((1+r:Nat):Int)]]) from rfl) ?_;have k:(S1++[O.lst [D.int 1,.int 2,.int ((1+r:Nat):Int)]])[S1.length]?=some (.lst ([1,2,1+r].map λn:Nat=>D.int (n:Int))):=by simp
 have u:Ft ms 0 800 (S1++[O.lst [D.int 1,.int 2,.int ((1+r:Nat):Int)]]):=p.keep (by rw [EC (vd p)]);have F:(0:Nat)<S1.length:=vd p;generalize U:(S1++[O.lst [D.int 1,.int 2,.int ((1+r:Nat):Int)]]:Sto)=S2 at k u;generalize I:S1.length=L at k F;refine Ok.nxt<|Ok.cg (Aw ..)<|Ok.bind ((jP (m:=4) (N:=700) (u.less (by omega)) (by omega) (by omega) 10).mono ?_);rintro _ g ⟨q,rfl,T,H,K,E⟩;have f:g[L]?=some (.lst ([1,2,1+r].map λn:Nat=>D.int (n:Int))):=by rw [E L (by omega)];exact k
 have a:∀ (l:List Nat) (S:Sto),(∀ n∈l,1<=n/\n<=4)->l.length<=10->S[L]?=some (.lst (l.map λn:Nat=>D.int (n:Int)))->Ok (nxt (evK Rs Γ (rn 11) 40) E7 [nth law_F.body 3,nth law_F.body 4] endD (.nx [some (.scr (ns.map D.int)),some (.ref 0),some (.ref L),none,none,none])) S λd _=>d=.bl true:=λl S v A e=>by
  have C:q9 (.ref L) S=.ok (fy L,l.length+1) S:=by
   simp only [q9,e,Dr]
  have b:∀ {S':Sto},Ex S S'->S'[L]?=some (.lst (l.map λn:Nat=>D.int (n:Int))):=λx=>by rw [x.at (Eb.mp e).1];exact e
  refine Ok.nxt<|Ok.cg (zc ..)<|Ok.eq C<|Ok.bind ((Ok.loop (n:=l.length) (λi ρ S'=>Ex S S'/\∃ o t j:Option D,ρ=[some (.scr (ns.map D.int)),some (.ref 0),some (.ref L),o,t,j]) ?_ ?_ ⟨Ex.refl S,_,_,_,rfl⟩).mono ?_)
  ·rintro ρ S' ⟨c,_⟩;show fy L l.length S'=some none;rw [vM (b c),Et (by simp)]
  ·rintro i ρ S' s ⟨c,o,t,j,rfl⟩;refine ⟨.int (l[i]:Int),_,by show fy L i S'=_;rw [vM (b c),k4 (Ds s)],rfl,(wt (v _ (Em s)).1 (v _ (Em s)).2 S').mono ?_⟩;rintro _ G ⟨⟨J,Q,rfl⟩,z⟩;exact ⟨_,.inl rfl,c.trans z,_,_,_,rfl⟩
  ·rintro _ G ⟨_,rfl,c,o,t,j,rfl⟩;exact Ok.nxt<|Ok.cg (AH ..)<|Ok.ret rfl
 refine Ok.eq (zE _ _ g)<|Ok.eq (ax _ g) ?_;by_cases y:(q:Int)=0
 ·rw [EE y];refine Ok.pos rfl<|Ok.eq (de f)<|Ok.eq (Bf f (by simp;exact X1 (by omega))) ?_;refine a [1,2,1+r,4] _ (by simp;omega) (by simp) ?_;rw [EM (Eb.mp f).1];rfl
 ·rw [ES y];refine Ok.neg (by decide) ?_;exact a [1,2,1+r] _ (by simp;omega) (by simp) f
end L3.K51
namespace L3.K51
open PySem L2 Hn
abbrev iHE:Stmt:=M0 (top 1) 0
abbrev iNS:Stmt:=M0 (top 2) 0
abbrev iNP:Stmt:=M0 (top 3) 0
abbrev iND:Stmt:=M0 (top 4) 0
abbrev iTM:Stmt:=M0 (top 5) 0
abbrev iNT:Stmt:=M0 (top 6) 0
section
variable {P:Program} {w:World} {K:PySem.W.Frag} {mg:Str->Option Value} {base:Heap} {f fB B:Addr} {fd fdB:FuncData}
theorem Cp:FnScope ["self","text"] ["self","text"] (c8 iHE):=⟨rfl,rfl,rfl,by decide +kernel,rfl,by decide +kernel,by decide +kernel⟩
theorem bP (F:Fun K "__init__" "HandError.__init__" iHE f fd) (T:TxE K mg B fB):FnOk P w K mg base CX0 1 f fd ["self","text"] (spHE K):=by
 refine F.ok Cp (λvs H Q E h=>?_) (λcdv A outer s H vs Q E hr h=>?_)
 ·obtain ⟨x,y,C,d,rfl,_⟩:=h;rfl
 ·obtain ⟨x,y,C,d,rfl,M,e0,k⟩:=h;refine ⟨_,M3 (F3 (qG rfl T.mV T.fV (j0 (pv 0) (j0 (pv 1) B6)))),?_⟩;exact ⟨_,rfl,_,rfl,x,C,d,y,rfl,M,e0,k⟩
theorem CM:FnScope ["self","hand"] ["self","hand"] (c8 iNS):=⟨rfl,rfl,rfl,by decide +kernel,rfl,by decide +kernel,by decide +kernel⟩
theorem zY (F:Fun K "__init__" "NoStep.__init__" iNS f fd) (T:TxE K mg B fB) (FB:Fun K "__init__" "HandError.__init__" iHE fB fdB) (bB:Binds K fdB ["self","text"] []):FnOk P w K mg base CX0 2 f fd ["self","hand"] (sp1 K "hand"):=by
 have G:FnOk P w K mg base CX0 1 fB fdB ["self","text"] (spHE K):=bP FB T;refine F.ok CM (λvs H Q E h=>?_) (λcdv A outer s H vs Q E hr h=>?_)
 ·obtain ⟨x,v,C,dv,rfl,_⟩:=h;rfl
 ·obtain ⟨x,v,C,dv,rfl,M,na,e0,ft,k⟩:=h;have hu:(A.deeper (PyProof.Rows.envOfC "NoStep.__init__" (c8 iNS) s.heap.objs.size f cdv)).units+80<cLine:=by have:=hr.un;omega
  refine ⟨_,A2 (F3 (L4 rfl T.mB T.sB T.rB T.cB T.kB G hr bB W3 (j0 (pv 0) (j0 (R6 (D7 (F8 hr.gd hu (pv 1) (D7 R0))) (by decide)) B6))))
   (M3 (F2 (pv 0) (pv 1) rfl)),?_⟩
  refine ⟨_,rfl,_,rfl,dv,ft.at_,ft.sh,ft.l1,ft.l2,λz hz=>?_⟩;refine ⟨x,.str z,C,none,rfl,M,e0,?_⟩;refine ⟨_,rfl,_,rfl,x,C,rfl,M,na,.inl ⟨e0,λd hd=>?_⟩⟩;have ne:d≠x:=λq=>by rw [q,e0] at hd;cases hd
  exact k _ ⟨d,hd,ne,b8,by rw [a8 ne,b8],λb hb hb2=>by rw [a8 hb,a8 hb2]⟩
theorem DF:FnScope ["self","word","at"] ["self","word","at"] (c8 iNP):=⟨rfl,rfl,rfl,by decide +kernel,rfl,by decide +kernel,by decide +kernel⟩
theorem AD (F:Fun K "__init__" "NoPaper.__init__" iNP f fd) (T:TxE K mg B fB) (FB:Fun K "__init__" "HandError.__init__" iHE fB fdB) (bB:Binds K fdB ["self","text"] []):FnOk P w K mg base CX0 2 f fd ["self","word","at"] (sp2 K "word" "at"):=by
 have G:FnOk P w K mg base CX0 1 fB fdB ["self","text"] (spHE K):=bP FB T;refine F.ok DF (λvs H Q E h=>?_) (λcdv A outer s H vs Q E hr h=>?_)
 ·obtain ⟨x,v,u,C,dv,du,rfl,_⟩:=h;rfl
 ·obtain ⟨x,v,u,C,dv,du,rfl,M,na,nb,e0,ft,fu,k⟩:=h;have hu:(A.deeper (PyProof.Rows.envOfC "NoPaper.__init__" (c8 iNP) s.heap.objs.size f cdv)).units+80<cLine:=by have:=hr.un;omega
  refine ⟨_,A2 (F3 (L4 rfl T.mB T.sB T.rB T.cB T.kB G hr bB W3 (j0 (pv 0) (j0 (R6 (D7 (F8 hr.gd hu (pv 1) (D7 (F8 hr.gd hu (pv 2) R0)))) (by decide)) B6))))
   (A2 (F2 (pv 0) (pv 1) rfl) (M3 (F2 (pv 0) (pv 2) rfl))),?_⟩
  refine ⟨_,rfl,_,rfl,dv,ft.at_,ft.sh,ft.l1,ft.l2,_,rfl,du,fu.at_,fu.sh,fu.l1,fu.l2,λz hz=>?_⟩;refine ⟨x,.str z,C,none,rfl,M,e0,?_⟩;refine ⟨_,rfl,_,rfl,x,C,rfl,M,na,.inl ⟨e0,λd hd=>?_⟩⟩;have ne:d≠x:=λq=>by rw [q,e0] at hd;cases hd
  refine ⟨_,rfl,_,rfl,x,C,rfl,M,nb,.inr ⟨d,_,ne,b8,by rw [a8 ne,b8],by show 1<900;decide,?_⟩⟩;refine k _ ⟨d,hd,ne,by rw [a8 ne.symm,b8],by rw [b8,jV],λb hb hb2=>by rw [a8 hb2,a8 hb,a8 hb2]⟩
theorem DY:FnScope ["self","word","at"] ["self","word","at"] (c8 iND):=⟨rfl,rfl,rfl,by decide +kernel,rfl,by decide +kernel,by decide +kernel⟩
theorem Ad (F:Fun K "__init__" "NoStand.__init__" iND f fd) (T:TxE K mg B fB) (FB:Fun K "__init__" "HandError.__init__" iHE fB fdB) (bB:Binds K fdB ["self","text"] []):FnOk P w K mg base CX0 2 f fd ["self","word","at"] (sp2 K "word" "at"):=by
 have G:FnOk P w K mg base CX0 1 fB fdB ["self","text"] (spHE K):=bP FB T;refine F.ok DY (λvs H Q E h=>?_) (λcdv A outer s H vs Q E hr h=>?_)
 ·obtain ⟨x,v,u,C,dv,du,rfl,_⟩:=h;rfl
 ·obtain ⟨x,v,u,C,dv,du,rfl,M,na,nb,e0,ft,fu,k⟩:=h;have hu:(A.deeper (PyProof.Rows.envOfC "NoStand.__init__" (c8 iND) s.heap.objs.size f cdv)).units+80<cLine:=by have:=hr.un;omega
  refine ⟨_,A2 (F3 (L4 rfl T.mB T.sB T.rB T.cB T.kB G hr bB W3 (j0 (pv 0) (j0 (R6 (D7 (F8 hr.gd hu (pv 1) (D7 (F8 hr.gd hu (pv 2) R0)))) (by decide)) B6))))
   (A2 (F2 (pv 0) (pv 1) rfl) (M3 (F2 (pv 0) (pv 2) rfl))),?_⟩
  refine ⟨_,rfl,_,rfl,dv,ft.at_,ft.sh,ft.l1,ft.l2,_,rfl,du,fu.at_,fu.sh,fu.l1,fu.l2,λz hz=>?_⟩;refine ⟨x,.str z,C,none,rfl,M,e0,?_⟩;refine ⟨_,rfl,_,rfl,x,C,rfl,M,na,.inl ⟨e0,λd hd=>?_⟩⟩;have ne:d≠x:=λq=>by rw [q,e0] at hd;cases hd
  refine ⟨_,rfl,_,rfl,x,C,rfl,M,nb,.inr ⟨d,_,ne,b8,by rw [a8 ne,b8],by show 1<900;decide,?_⟩⟩;refine k _ ⟨d,hd,ne,by rw [a8 ne.symm,b8],by rw [b8,jV],λb hb hb2=>by rw [a8 hb2,a8 hb,a8 hb2]⟩
theorem DB:FnScope ["self","word"] ["self","word"] (c8 iTM):=⟨rfl,rfl,rfl,by decide +kernel,rfl,by decide +kernel,by decide +kernel⟩
theorem Al (F:Fun K "__init__" "TooMany.__init__" iTM f fd) (T:TxE K mg B fB) (FB:Fun K "__init__" "HandError.__init__" iHE fB fdB) (bB:Binds K fdB ["self","text"] []):FnOk P w K mg base CX0 2 f fd ["self","word"] (sp1 K "word"):=by
 have G:FnOk P w K mg base CX0 1 fB fdB ["self","text"] (spHE K):=bP FB T;refine F.ok DB (λvs H Q E h=>?_) (λcdv A outer s H vs Q E hr h=>?_)
 ·obtain ⟨x,v,C,dv,rfl,_⟩:=h;rfl
 ·obtain ⟨x,v,C,dv,rfl,M,na,e0,ft,k⟩:=h;have hu:(A.deeper (PyProof.Rows.envOfC "TooMany.__init__" (c8 iTM) s.heap.objs.size f cdv)).units+80<cLine:=by have:=hr.un;omega
  refine ⟨_,A2 (F3 (L4 rfl T.mB T.sB T.rB T.cB T.kB G hr bB W3 (j0 (pv 0) (j0 (R6 (D7 (F8 hr.gd hu (pv 1) R0)) (by decide)) B6))))
   (M3 (F2 (pv 0) (pv 1) rfl)),?_⟩
  refine ⟨_,rfl,_,rfl,dv,ft.at_,ft.sh,ft.l1,ft.l2,λz hz=>?_⟩;refine ⟨x,.str z,C,none,rfl,M,e0,?_⟩;refine ⟨_,rfl,_,rfl,x,C,rfl,M,na,.inl ⟨e0,λd hd=>?_⟩⟩;have ne:d≠x:=λq=>by rw [q,e0] at hd;cases hd
  exact k _ ⟨d,hd,ne,b8,by rw [a8 ne,b8],λb hb hb2=>by rw [a8 hb,a8 hb2]⟩
theorem DJ:FnScope ["self","type_here"] ["self","type_here"] (c8 iNT):=⟨rfl,rfl,rfl,by decide +kernel,rfl,by decide +kernel,by decide +kernel⟩
theorem zg (F:Fun K "__init__" "NoType.__init__" iNT f fd) (T:TxE K mg B fB) (FB:Fun K "__init__" "HandError.__init__" iHE fB fdB) (bB:Binds K fdB ["self","text"] []):FnOk P w K mg base CX0 2 f fd ["self","type_here"] (sp1 K "type_here"):=by
 have G:FnOk P w K mg base CX0 1 fB fdB ["self","text"] (spHE K):=bP FB T;refine F.ok DJ (λvs H Q E h=>?_) (λcdv A outer s H vs Q E hr h=>?_)
 ·obtain ⟨x,v,C,dv,rfl,_⟩:=h;rfl
 ·obtain ⟨x,v,C,dv,rfl,M,na,e0,ft,k⟩:=h;have hu:(A.deeper (PyProof.Rows.envOfC "NoType.__init__" (c8 iNT) s.heap.objs.size f cdv)).units+80<cLine:=by have:=hr.un;omega
  refine ⟨_,A2 (F3 (L4 rfl T.mB T.sB T.rB T.cB T.kB G hr bB W3 (j0 (pv 0) (j0 (R6 (D7 (F8 hr.gd hu (pv 1) R0)) (by decide)) B6))))
   (M3 (F2 (pv 0) (pv 1) rfl)),?_⟩
  refine ⟨_,rfl,_,rfl,dv,ft.at_,ft.sh,ft.l1,ft.l2,λz hz=>?_⟩;refine ⟨x,.str z,C,none,rfl,M,e0,?_⟩;refine ⟨_,rfl,_,rfl,x,C,rfl,M,na,.inl ⟨e0,λd hd=>?_⟩⟩;have ne:d≠x:=λq=>by rw [q,e0] at hd;cases hd
  exact k _ ⟨d,hd,ne,b8,by rw [a8 ne,b8],λb hb hb2=>by rw [a8 hb,a8 hb2]⟩
end
end L3.K51
section
namespace L3.K51
open PySem PySem.Spec PyProof.Rows L2 Hn
theorem all_mk {l:PySem.W.OpenLaw} {w:World} {K:PySem.W.Frag} {h:Heap} {mg:Str->Option Value} {fa tA B fB C1 f1 C2 f2 C3 f3 C4 f4 C5 f5 C6 g0 g1 g2 g3 g4 g5 g6 g7 g8 g9 g10 g11 g12 g13 g14 g15 g16 g17 g18 g19 g20 g21 g22 g23 g24 g25 g26 g27 g28 g29 g30 g31 g32 g33 g34 g35 g36 g37 g38 g39:Addr} (X:K.In h) (G:h.Ns mainGlobals mg) (hfa:mg "law" = some (.ref fa))
  {odHE anHE odNS anNS odNP anNP odND anND odTM anTM odNT anNT:Option Addr} {slHE slNS slNP slND slTM slNT:Array (Option Value)} {ocHE kVHE dcHE pmHE cdHE ctHE ocNS kVNS dcNS pmNS cdNS ctNS ocNP kVNP dcNP pmNP cdNP ctNP ocND kVND dcND pmND cdND ctND ocTM kVTM dcTM pmTM cdTM ctTM ocNT kVNT dcNT pmNT cdNT ctNT:Value} {tC0:Tok} {tC1:Tok} {tC2:Tok} {tC3:Tok}
  (aHE:PySem.W.nsIn K mainGlobals "HandError" = some (some (.ref B))) (iHE_:PySem.W.findIn K (.ref B) "__init__" = some (some (.ref fB))) (nHE:PySem.W.isFn K (.ref fB)=true) (lHE:K.lookup fB=some ⟨ocHE,odHE,.func (PySem.W.fnOf "__init__" "HandError.__init__" (m8 (iHE)) (i9 (iHE)) (c8 (iHE)) .none kVHE dcHE pmHE anHE cdHE ctHE),slHE⟩) (cHE:PySem.W.codeIn K cdHE "HandError.__init__" = true) (kHE:PySem.W.keepIn K (.ref fB)=true)
  (aNS:PySem.W.nsIn K mainGlobals "NoStep" = some (some (.ref C1))) (iNS_:PySem.W.findIn K (.ref C1) "__init__" = some (some (.ref f1))) (nNS:PySem.W.isFn K (.ref f1)=true) (lNS:K.lookup f1=some ⟨ocNS,odNS,.func (PySem.W.fnOf "__init__" "NoStep.__init__" (m8 (iNS)) (i9 (iNS)) (c8 (iNS)) .none kVNS dcNS pmNS anNS cdNS ctNS),slNS⟩) (cNS:PySem.W.codeIn K cdNS "NoStep.__init__" = true) (kNS:PySem.W.keepIn K (.ref f1)=true)
  (aNP:PySem.W.nsIn K mainGlobals "NoPaper" = some (some (.ref C2))) (iNP_:PySem.W.findIn K (.ref C2) "__init__" = some (some (.ref f2))) (nNP:PySem.W.isFn K (.ref f2)=true) (lNP:K.lookup f2=some ⟨ocNP,odNP,.func (PySem.W.fnOf "__init__" "NoPaper.__init__" (m8 (iNP)) (i9 (iNP)) (c8 (iNP)) .none kVNP dcNP pmNP anNP cdNP ctNP),slNP⟩) (cNP:PySem.W.codeIn K cdNP "NoPaper.__init__" = true) (kNP:PySem.W.keepIn K (.ref f2)=true)
  (aND:PySem.W.nsIn K mainGlobals "NoStand" = some (some (.ref C3))) (iND_:PySem.W.findIn K (.ref C3) "__init__" = some (some (.ref f3))) (nND:PySem.W.isFn K (.ref f3)=true) (lND:K.lookup f3=some ⟨ocND,odND,.func (PySem.W.fnOf "__init__" "NoStand.__init__" (m8 (iND)) (i9 (iND)) (c8 (iND)) .none kVND dcND pmND anND cdND ctND),slND⟩) (cND:PySem.W.codeIn K cdND "NoStand.__init__" = true) (kND:PySem.W.keepIn K (.ref f3)=true)
  (aTM:PySem.W.nsIn K mainGlobals "TooMany" = some (some (.ref C4))) (iTM_:PySem.W.findIn K (.ref C4) "__init__" = some (some (.ref f4))) (nTM:PySem.W.isFn K (.ref f4)=true) (lTM:K.lookup f4=some ⟨ocTM,odTM,.func (PySem.W.fnOf "__init__" "TooMany.__init__" (m8 (iTM)) (i9 (iTM)) (c8 (iTM)) .none kVTM dcTM pmTM anTM cdTM ctTM),slTM⟩) (cTM:PySem.W.codeIn K cdTM "TooMany.__init__" = true) (kTM:PySem.W.keepIn K (.ref f4)=true)
  (aNT:PySem.W.nsIn K mainGlobals "NoType" = some (some (.ref C5))) (iNT_:PySem.W.findIn K (.ref C5) "__init__" = some (some (.ref f5))) (nNT:PySem.W.isFn K (.ref f5)=true) (lNT:K.lookup f5=some ⟨ocNT,odNT,.func (PySem.W.fnOf "__init__" "NoType.__init__" (m8 (iNT)) (i9 (iNT)) (c8 (iNT)) .none kVNT dcNT pmNT anNT cdNT ctNT),slNT⟩) (cNT:PySem.W.codeIn K cdNT "NoType.__init__" = true) (kNT:PySem.W.keepIn K (.ref f5)=true)
  (aNR:PySem.W.nsIn K mainGlobals "NoRow" = some (some (.ref C6))) (iNR:PySem.W.findIn K (.ref C6) "__init__" = some (some (.ref fB)))
  (fV:PySem.W.findCls K (.type "ValueError") (.type "type") "__init__" = some (.val (.builtin "ValueError.__init__"))) (sB:PySem.W.specialIn K (.ref B) "__getattribute__" = some (some (.builtin "type.__getattribute__"))) (rB:PySem.W.readsIn K B (.type "type")=true) (cB:PySem.W.findCls K (.ref B) (.type "type") "__init__" = some (.val (.ref fB)))
  (rxc:[B,C1,C2,C3,C4,C5,C6].all (xcB K)=true)
  (rjk:V8 K tA=false)
  (t4:(K.lookup tA).isNone=true)
  (rsub:((List.range [B,C1,C2,C3,C4,C5,C6].length).all λc=>(List.range [B,C1,C2,C3,C4,C5,C6].length).all λc0=>isB (PySem.W.kitOne K (.ref (X2 [B,C1,C2,C3,C4,C5,C6] tA c)) (.ref (X2 [B,C1,C2,C3,C4,C5,C6] tA c0))) (Γ.sub c c0))=true)
  (rsV:([B,C1,C2,C3,C4,C5,C6].all λC=>isB (PySem.W.kitOne K (.ref C) (.type "ValueError")) true)=true)
  (rsT:([B,C1,C2,C3,C4,C5,C6].all λC=>tys.all λt=>isB (PySem.W.kitOne K (.ref C) (.type t)) false)=true)
  (rfl_:(Γ.flds.all λg=>[B,C1,C2,C3,C4,C5,C6].all λC=>isNo (PySem.W.findIn K (.ref C) g))=true)
  (rbl:(bnames.all λx=>(Γ.gl.lookup x).isSome||isNo (PySem.W.nsIn K mainGlobals x))=true)
  (dg0:GF K "is_whole" (top 9) g0)
  (dg1:GF K "is_within" (top 10) g1)
  (dg2:GF K "is_tuple_of" (top 11) g2)
  (dg3:GF K "are_rising_hands" (top 12) g3)
  (dg4:GF K "are_rounds" (top 15) g4)
  (dg5:GF K "is_round" (top 16) g5)
  (dg6:GF K "is_block" (top 17) g6)
  (dg7:GF K "hands_of_round" (top 18) g7)
  (dg8:GF K "seen_in" (top 19) g8)
  (dg9:GF K "view_of" (top 20) g9)
  (dg10:GF K "are_greats" (top 24) g10)
  (dg11:GF K "type_of" (top 26) g11)
  (dg12:GF K "hands_in" (top 27) g12)
  (dg13:GF K "placed" (top 28) g13)
  (dg14:GF K "type_at" (top 29) g14)
  (dg15:GF K "lets_ring" (top 32) g15)
  (dg16:GF K "check_entries" (top 33) g16)
  (dg17:GF K "is_entry" (top 34) g17)
  (dg18:GF K "types_of" (top 35) g18)
  (dg19:GF K "told_ring" (top 36) g19)
  (dg20:GF K "parted" (top 37) g20)
  (dg21:GF K "_law_tape" (top 39) g21)
  (dg22:GF K "_law_draw" (top 40) g22)
  (dg23:GF K "_law_hands" (top 41) g23)
  (dg24:GF K "_law_seen" (top 42) g24)
  (dg25:GF K "_law_view" (top 43) g25)
  (dg26:GF K "_law_in_view" (top 44) g26)
  (dg27:GF K "_law_put" (top 45) g27)
  (dg28:GF K "_law_type" (top 46) g28)
  (dg29:GF K "_law_whole" (top 47) g29)
  (dg30:GF K "_law_rises" (top 48) g30)
  (dg31:GF K "_law_is_round" (top 49) g31)
  (dg32:GF K "_law_are_rounds" (top 50) g32)
  (dg33:GF K "_law_are_greats" (top 51) g33)
  (dg34:GF K "_law_refused" (top 52) g34)
  (dg35:GF K "_law_ring_types" (top 53) g35)
  (dg36:GF K "_law_is_ring_entry" (top 54) g36)
  (dg37:GF K "_law_ring_due" (top 55) g37)
  (dg38:GF K "_law_told" (top 56) g38)
  (dg39:GF K "law" (top 57) g39)
  (aC0:PySem.W.nsIn K mainGlobals "MOST_ROUNDS" = some (some (.int 4 tC0)))
  (aC1:PySem.W.nsIn K mainGlobals "MOST_HANDS" = some (some (.int 6 tC1)))
  (aC2:PySem.W.nsIn K mainGlobals "MOST_GREAT" = some (some (.int 1000000000 tC2)))
  (aC3:PySem.W.nsIn K mainGlobals "MOST_ENTRIES" = some (some (.int 81 tC3))) (t1:xr K g13 tA=true) (t3:decide (hF K tA = "placed.<locals>.<lambda>")=true) :
  ∃ (fd:FuncData) (c:Addr) (cl:Nat->Addr),PySem.W.codeHdIn K c tA=true/\K.lookup tA=none/\cl 1000000=tA/\(∀ (s:Shared) (v:Value),BindsTo s fd ⟨[v],[]⟩ [("_law_script",v)])/\∀ base:Heap,K.In base->base.Ns mainGlobals mg->FnOk l.prog w K mg base CX0 15 fa fd ["_law_script"] (cV K cl):=by
 obtain ⟨cT,t1,t2⟩:=tV t1;have t3:=Fi t3;have t4:=Ey.mp t4;have e:=hfa.symm.trans (Fc X G dg39.a);cases e;have RB:RowB K Γ [B,C1,C2,C3,C4,C5,C6] tA:=⟨rxc,rjk,rsub,rsV,rsT,rfl_,rbl⟩;have FHE:=L1 (st:=iHE) lHE cHE kHE;have bHE:=FHE.binds (ps:=["self","text"]) λ_ _ _ _ _ _ us hl=>A5 hl λ_ _=>rfl;have FNS:=L1 (st:=iNS) lNS cNS kNS;have bNS:=FNS.binds (ps:=["self","hand"]) λ_ _ _ _ _ _ us hl=>A5 hl λ_ _=>rfl;have FNP:=L1 (st:=iNP) lNP cNP kNP;have bNP:=FNP.binds (ps:=["self","word","at"]) λ_ _ _ _ _ _ us hl=>fP hl λ_ _ _=>rfl;have FND:=L1 (st:=iND) lND cND kND;have bND:=FND.binds (ps:=["self","word","at"]) λ_ _ _ _ _ _ us hl=>fP hl λ_ _ _=>rfl;have FTM:=L1 (st:=iTM) lTM cTM kTM;have bTM:=FTM.binds (ps:=["self","word"]) λ_ _ _ _ _ _ us hl=>A5 hl λ_ _=>rfl;have FNT:=L1 (st:=iNT) lNT cNT kNT;have bNT:=FNT.binds (ps:=["self","type_here"]) λ_ _ _ _ _ _ us hl=>A5 hl λ_ _=>rfl;have xHE:XC K B:=O4 ((Er.mp rxc) B (by simp));have xNS:XC K C1:=O4 ((Er.mp rxc) C1 (by simp));have xNP:XC K C2:=O4 ((Er.mp rxc) C2 (by simp));have xND:XC K C3:=O4 ((Er.mp rxc) C3 (by simp));have xTM:XC K C4:=O4 ((Er.mp rxc) C4 (by simp));have xNT:XC K C5:=O4 ((Er.mp rxc) C5 (by simp));have xNR:XC K C6:=O4 ((Er.mp rxc) C6 (by simp));obtain ⟨_,⟨oc,od,kV,dc,pm,an,cd,ct,sl,rfl,lk,hc⟩,kp⟩:=dg39.f;have FL:=L1 lk hc kp;refine ⟨PySem.W.fnOf "law" "law" (m8 (top 57)) (i9 (top 57)) (c8 (top 57)) .none kV dc pm an cd ct,cT,X2 [B,C1,C2,C3,C4,C5,C6] tA,t2,t4,rfl,λs v=>.of_eq rfl,λbase KB GB=>?_⟩
 let T:Tx:=⟨l.prog,w,K,mg,base,X2 [B,C1,C2,C3,C4,C5,C6] tA⟩
 have mV:mg "ValueError" = none:=PySem.W.mg_none_of X G (Y9 ((Er.mp rbl) "ValueError" (by decide)));have TE:TxE K mg B fB:=⟨mV,fV,Fc X G aHE,sB,rB,cB,kHE⟩;have gHE:FnOk l.prog w K mg base CX0 2 fB _ ["self","text"] (spHE K):=(bP FHE TE).mono (by decide);have gNS:FnOk l.prog w K mg base CX0 2 f1 _ _ _:=zY FNS TE FHE bHE;have gNP:FnOk l.prog w K mg base CX0 2 f2 _ _ _:=AD FNP TE FHE bHE;have gND:FnOk l.prog w K mg base CX0 2 f3 _ _ _:=Ad FND TE FHE bHE;have gTM:FnOk l.prog w K mg base CX0 2 f4 _ _ _:=Al FTM TE FHE bHE;have gNT:FnOk l.prog w K mg base CX0 2 f5 _ _ _:=zg FNT TE FHE bHE;have st:TxSt T Γ:=by
  refine RB.st (T:=T) X G rfl (λx d e=>?_) (λx c fs e=>?_) (λx kvs e=>?_)
  ·have m:=L2.mem_of_lookup e;simp only [Γ,Ea,Fo,Hm,IT,L3.G.val.injEq,reduceCtorEq,and_false,false_or] at m;rcases m with ⟨rfl,rfl⟩ | ⟨rfl,rfl⟩ | ⟨rfl,rfl⟩ | ⟨rfl,rfl⟩
   ·exact ⟨_,.int 4,Fc X G aC0,⟨_,rfl⟩,λμ H=>.int _⟩
   ·exact ⟨_,.int 6,Fc X G aC1,⟨_,rfl⟩,λμ H=>.int _⟩
   ·exact ⟨_,.int 1000000000,Fc X G aC2,⟨_,rfl⟩,λμ H=>.int _⟩
   ·exact ⟨_,.int 81,Fc X G aC3,⟨_,rfl⟩,λμ H=>.int _⟩
  ·have m:=L2.mem_of_lookup e;simp only [Γ,Ea,Fo,Hm,IT,L3.G.err.injEq,reduceCtorEq,and_false,false_or] at m;rcases m with ⟨rfl,rfl,rfl⟩ | ⟨rfl,rfl,rfl⟩ | ⟨rfl,rfl,rfl⟩ | ⟨rfl,rfl,rfl⟩ | ⟨rfl,rfl,rfl⟩ | ⟨rfl,rfl,rfl⟩ | ⟨rfl,rfl,rfl⟩
   ·exact ⟨by simp,⟨xHE,Fc X G aHE,fB,_,_,iHE_,nHE,bHE,gHE⟩,by simp⟩
   ·exact ⟨by simp,⟨xNS,Fc X G aNS,f1,_,_,iNS_,nNS,bNS,gNS⟩,by simp [Γ]⟩
   ·exact ⟨by simp,⟨xNP,Fc X G aNP,f2,_,_,iNP_,nNP,bNP,gNP⟩,by simp [Γ]⟩
   ·exact ⟨by simp,⟨xND,Fc X G aND,f3,_,_,iND_,nND,bND,gND⟩,by simp [Γ]⟩
   ·exact ⟨by simp,⟨xTM,Fc X G aTM,f4,_,_,iTM_,nTM,bTM,gTM⟩,by simp [Γ]⟩
   ·exact ⟨by simp,⟨xNT,Fc X G aNT,f5,_,_,iNT_,nNT,bNT,gNT⟩,by simp [Γ]⟩
   ·exact ⟨by simp,⟨xNR,Fc X G aNR,fB,_,_,iNR,nHE,bHE,gHE⟩,by simp⟩
  ·have m:=L2.mem_of_lookup e;simp [Γ] at m
 have fs:ls T Γ Tb:=by
  refine zz ?_;refine And.intro (fe X G (T:=T) dg0 (by decide +kernel) (λ_ _ _ _ _ _ us hl=>V2 hl λ_=>rfl) rfl rfl) ?_;refine And.intro (fe X G (T:=T) dg1 (by decide +kernel) (λ_ _ _ _ _ _ us hl=>fP hl λ_ _ _=>rfl) rfl rfl) ?_;refine And.intro (fe X G (T:=T) dg2 (by decide +kernel) (λ_ _ _ _ _ _ us hl=>A5 hl λ_ _=>rfl) rfl rfl) ?_;refine And.intro (fe X G (T:=T) dg3 (by decide +kernel) (λ_ _ _ _ _ _ us hl=>A5 hl λ_ _=>rfl) rfl rfl) ?_;refine And.intro (fe X G (T:=T) dg4 (m:=["cell"]) (by decide +kernel) (λ_ _ _ _ _ _ us hl=>A5 hl λ_ _=>rfl) rfl rfl) ?_;refine And.intro (fe X G (T:=T) dg5 (by decide +kernel) (λ_ _ _ _ _ _ us hl=>A5 hl λ_ _=>rfl) rfl rfl) ?_;refine And.intro (fe X G (T:=T) dg6 (by decide +kernel) (λ_ _ _ _ _ _ us hl=>A5 hl λ_ _=>rfl) rfl rfl) ?_;refine And.intro (fe X G (T:=T) dg7 (by decide +kernel) (λ_ _ _ _ _ _ us hl=>V2 hl λ_=>rfl) rfl rfl) ?_;refine And.intro (fe X G (T:=T) dg8 (m:=["seen"]) (by decide +kernel) (λ_ _ _ _ _ _ us hl=>A5 hl λ_ _=>rfl) rfl rfl) ?_;refine And.intro (fe X G (T:=T) dg9 (by decide +kernel) (λ_ _ _ _ _ _ us hl=>A5 hl λ_ _=>rfl) rfl rfl) ?_;refine And.intro (fe X G (T:=T) dg10 (by decide +kernel) (λ_ _ _ _ _ _ us hl=>V2 hl λ_=>rfl) rfl rfl) ?_;refine And.intro (fe X G (T:=T) dg11 (by decide +kernel) (λ_ _ _ _ _ _ us hl=>A5 hl λ_ _=>rfl) rfl rfl) ?_;refine And.intro (fe X G (T:=T) dg12 (by decide +kernel) (λ_ _ _ _ _ _ us hl=>V2 hl λ_=>rfl) rfl rfl) ?_;refine And.intro (fe X G (T:=T) dg13 (m:=["lam"]) (by decide +kernel) (λ_ _ _ _ _ _ us hl=>fP hl λ_ _ _=>rfl) rfl rfl (λ_=>⟨cT,t1,t2,t4,t3.symm⟩)) ?_;refine And.intro (fe X G (T:=T) dg14 (by decide +kernel) (λ_ _ _ _ _ _ us hl=>fP hl λ_ _ _=>rfl) rfl rfl) ?_;refine And.intro (fe X G (T:=T) dg15 (by decide +kernel) (λ_ _ _ _ _ _ us hl=>A5 hl λ_ _=>rfl) rfl rfl) ?_;refine And.intro (fe X G (T:=T) dg16 (by decide +kernel) (λ_ _ _ _ _ _ us hl=>A5 hl λ_ _=>rfl) rfl rfl) ?_;refine And.intro (fe X G (T:=T) dg17 (by decide +kernel) (λ_ _ _ _ _ _ us hl=>A5 hl λ_ _=>rfl) rfl rfl) ?_;refine And.intro (fe X G (T:=T) dg18 (by decide +kernel) (λ_ _ _ _ _ _ us hl=>V2 hl λ_=>rfl) rfl rfl) ?_;refine And.intro (fe X G (T:=T) dg19 (by decide +kernel) (λ_ _ _ _ _ _ us hl=>V2 hl λ_=>rfl) rfl rfl) ?_;refine And.intro (fe X G (T:=T) dg20 (by decide +kernel) (λ_ _ _ _ _ _ us hl=>A5 hl λ_ _=>rfl) rfl rfl) ?_;refine And.intro (fe X G (T:=T) dg21 (m:=["return"]) (by decide +kernel) (λ_ _ _ _ _ _ us hl=>V2 hl λ_=>rfl) rfl rfl) ?_;refine And.intro (fe X G (T:=T) dg22 (by decide +kernel) (λ_ _ _ _ _ _ us hl=>A5 hl λ_ _=>rfl) rfl rfl) ?_;refine And.intro (fe X G (T:=T) dg23 (m:=["_law_found"]) (by decide +kernel) (λ_ _ _ _ _ _ us hl=>V2 hl λ_=>rfl) rfl rfl) ?_;refine And.intro (fe X G (T:=T) dg24 (by decide +kernel) (λ_ _ _ _ _ _ us hl=>A5 hl λ_ _=>rfl) rfl rfl) ?_;refine And.intro (fe X G (T:=T) dg25 (by decide +kernel) (λ_ _ _ _ _ _ us hl=>A5 hl λ_ _=>rfl) rfl rfl) ?_;refine And.intro (fe X G (T:=T) dg26 (m:=["_law_found"]) (by decide +kernel) (λ_ _ _ _ _ _ us hl=>V2 hl λ_=>rfl) rfl rfl) ?_;refine And.intro (fe X G (T:=T) dg27 (by decide +kernel) (λ_ _ _ _ _ _ us hl=>fP hl λ_ _ _=>rfl) rfl rfl) ?_;refine And.intro (fe X G (T:=T) dg28 (by decide +kernel) (λ_ _ _ _ _ _ us hl=>A5 hl λ_ _=>rfl) rfl rfl) ?_;refine And.intro (fe X G (T:=T) dg29 (by decide +kernel) (λ_ _ _ _ _ _ us hl=>fP hl λ_ _ _=>rfl) rfl rfl) ?_;refine And.intro (fe X G (T:=T) dg30 (by decide +kernel) (λ_ _ _ _ _ _ us hl=>V2 hl λ_=>rfl) rfl rfl) ?_;refine And.intro (fe X G (T:=T) dg31 (m:=["_law_met"]) (by decide +kernel) (λ_ _ _ _ _ _ us hl=>A5 hl λ_ _=>rfl) rfl rfl) ?_;refine And.intro (fe X G (T:=T) dg32 (by decide +kernel) (λ_ _ _ _ _ _ us hl=>A5 hl λ_ _=>rfl) rfl rfl) ?_;refine And.intro (fe X G (T:=T) dg33 (by decide +kernel) (λ_ _ _ _ _ _ us hl=>A5 hl λ_ _=>rfl) rfl rfl) ?_;refine And.intro (fe X G (T:=T) dg34 (m:=["~"]) (by decide +kernel) (λ_ _ _ _ _ _ us hl=>V2 hl λ_=>rfl) rfl rfl) ?_;refine And.intro (fe X G (T:=T) dg35 (by decide +kernel) (λ_ _ _ _ _ _ us hl=>V2 hl λ_=>rfl) rfl rfl) ?_;refine And.intro (fe X G (T:=T) dg36 (by decide +kernel) (λ_ _ _ _ _ _ us hl=>A5 hl λ_ _=>rfl) rfl rfl) ?_;refine And.intro (fe X G (T:=T) dg37 (m:=["[;]"]) (by decide +kernel) (λ_ _ _ _ _ _ us hl=>A5 hl λ_ _=>rfl) rfl rfl) ?_;refine And.intro (fe X G (T:=T) dg38 (by decide +kernel) (λ_ _ _ _ _ _ us hl=>A5 hl λ_ _=>rfl) rfl rfl) ?_;refine And.intro (fe X G (T:=T) dg39 (m:=["_law_some"]) (by decide +kernel) (λ_ _ _ _ _ _ us hl=>V2 hl λ_=>rfl) rfl rfl) ?_
  trivial
 have ok:=rj (Rs:=Rs) (T:=T) (k:=11) (i:=39) (fd:=j7 (top 57) ["_law_some"]) (qS st fs 11) rfl FL rfl rfl (O2 (by decide +kernel));exact FnOk.imp ok (fO yD)
end L3.K51
open PySem PySem.W PyProof.Rows
set_option maxRecDepth 100000 in
set_option maxHeartbeats 0 in
theorem PySem.Challenge.cw_handnames_k51_told_rings_holds : PySem.Challenge.rw_handnames_k51_told_rings.Holds := by
 w_on;o_law;k_head;(case hw=>w_witness2)
 k_fill
 refine L3.walk_tab (l:=PySem.Challenge.rw_handnames_k51_told_rings) (n:=63) (k:=15) (x:="_law_script") rfl (by decide) rfl ⟨λ_=>rfl,by decide,by decide,rfl⟩ (λw h Y=>⟨PySem.W.km_in_of Y,PySem.W.km_tabs_of Y _ (List.Mem.head _)⟩) ?F
 case F=>
  intro w mg fa h KX G hmg;refine' L3.K51.all_mk KX G hmg ?_ ?_ ?_ ?_ ?_ ?_ ?_ ?_ ?_ ?_ ?_ ?_ ?_ ?_ ?_ ?_ ?_ ?_ ?_ ?_ ?_ ?_ ?_ ?_ ?_ ?_ ?_ ?_ ?_ ?_ ?_ ?_ ?_ ?_ ?_ ?_ ?_ ?_ ?_ ?_ ?_ ?_ ?_ ?_ ?_ ?_ ?_ ?_ ?_ ?_ ?_ ?_ ?_ ?_ ?_ ?_ ?_ ?_ ?_ ?_ ?_ ?_ ?_ ?_ ?_ ?_ ?_ ?_ ?_ ?_ ?_ ?_ ?_ ?_ ?_ ?_ ?_ ?_ ?_ ?_ ?_ ?_ ?_ ?_ ?_ ?_ ?_ ?_ ?_ ?_ ?_ ?_ ?_ ?_ ?_ ?_
  rotate_left 111
  iterate 42 k_is
  iterate 8 kernel_rfl
  iterate 40 (refine' L3.gf_mk ?a ?l ?c ?k;(case a=>k_is);(case l=>k_is);(case c=>k_is);(case k=>k_is))
  iterate 4 k_is
  iterate 2 kernel_rfl
end
