import PyProof.Rows.All
import Wide.All
import OpenK.AllK
import Wide.FinOn
import Lean
import PyProof.EqAt
import PyProof.EqKinds
import PyProof.TupleCall
import PyProof.CompUse
import PyProof.P3Eq
import PyProof.NeData
import PyProof.P3In
import PyProof.EnumMake
import PyProof.Draws
import PyProof.ConsumeWalk
import PyProof.Rows.SetFrom
import PyProof.SetRoads
import PyProof.Rows.SortWalk
import PyProof.ListRange
import PyProof.WalksMore
import PySem.Challenge.RW_handnames_k35_ends
set_option Elab.async false
set_option linter.all false
set_option bootstrap.genMatcherCode false
set_option maxRecDepth 100000
set_option maxHeartbeats 4000000
local macro_rules (kind:=Lean.Parser.Command.declaration)
|s=>do
 if (s[1].isOfKind ``Lean.Parser.Command.definition||s[1].isOfKind ``Lean.Parser.Command.abbrev)&&s[0].getArgs.all (·.isNone) then return s.setArg 0 (<-`(command|noncomputable def x:=0)).raw[0]
 else Lean.Macro.throwUnsupported
local macro_rules|`(tactic|omega)=>`(tactic|first|with_reducible assumption|with_reducible exact Nat.le_refl _|exact Nat.zero_le _|exact Nat.succ_pos _|exact Nat.le_of_lt (by with_reducible assumption)|exact Nat.lt_succ_of_le (by with_reducible assumption)|exact Nat.le_trans (by with_reducible assumption) (by decide)|exact Nat.lt_of_le_of_lt (by with_reducible assumption) (by decide)|exact Nat.lt_of_lt_of_le (by with_reducible assumption) (by decide)|lia|omega +splitDisjunctions)
namespace PySem.W.Fast
def tw6174884142630685184:=0
def tw2312890860989022587:=0
def tw3655382348126653773:=0
def tw8306400171015714967:=0
def tw12034236353263977174:=0
def tw7178383093620171719:=0
def tw17389889783635618854:=0
def tw15210745602015439510:=0
def tw17904903214091399449:=0
def tw2858655205752783696:=0
def tw2242746082657114847:=0
def tw348380017434703038:=0
def tw13801314220372072725:=0
def tw7346631419260517535:=0
def tw16117391976567261152:=0
def tw4196141848424637919:=0
def tw420885689681425878:=0
def tw4490829771837439306:=0
def tw4548281431650274799:=0
def tw2913911541482082859:=0
def tw13183552730000937867:=0
def tw5769276675375835818:=0
def tw3231412699332645183:=0
def tw9605147732280105938:=0
def tw1543323836782313958:=0
def tw6785827750649774705:=0
def tw11713419558371896166:=0
def tw5654189958884557567:=0
def tw10468610235537716469:=0
def tw16734689382530935199:=0
def tw17357759473112468026:=0
def tw15944263438528071452:=0
def tw14189993068768590855:=0
def tw16277371589732700801:=0
def tw14277336231188158173:=0
def tw1044869018941379945:=0
def tw6896930214373830288:=0
def tw17540034576730568990:=0
def tw6182320826390561603:=0
def tw1115232314273182307:=0
def tw10027654113611336345:=0
def tw9274968266355199393:=0
def tw16077327841557320047:=0
def tw13783905421143652383:=0
def tw8143974042415122790:=0
def tw5556067166447044470:=0
def tw14410257412406143690:=0
def tw12810941146853633155:=0
def tw696171266194264585:=0
def tw16855792042192009097:=0
def tw1151952677880361749:=0
def tw16507245428340725381:=0
def tw8670893380799242811:=0
def tw13577564354713056142:=0
def tw6950371010587521168:=0
def tw3536302389151076012:=0
def tw5009630388056569834:=0
def tw14006091925931768621:=0
def tw8265511943842168941:=0
def tw13797700703680336535:=0
def tw5462208232081292844:=0
def tw16355620490764815478:=0
def tw13326568053728958831:=0
def tw17804389614928464857:=0
def tw5811819061218660472:=0
def tw1057086114881147384:=0
def tw15539291324000684795:=0
def tw14466502287112586629:=0
def tw1962908185081821294:=0
def tw9435806115525593419:=0
def tw18276206920820924999:=0
def tw1336338605913963685:=0
def tw16707582996346199741:=0
def tw14637684888843623223:=0
def tw15507946770126382454:=0
def tw1297723628962815831:=0
def tw6705932102148503275:=0
def tw10358918960580858949:=0
def tw4140736825878668472:=0
def tw2595122500306940004:=0
def tw17278937260734240884:=0
def tw894695925451679934:=0
def tw10071128387370616281:=0
def tw9664884267129313007:=0
def tw7511447092376147591:=0
def tw11910450032678537369:=0
def tw7257493746885857426:=0
def tw17921454638032601318:=0
def tw13843850631125980655:=0
def tw14898727136865034301:=0
def tw14359167532850521904:=0
def tw2650079818106238351:=0
def tw10630157915597794829:=0
def tw13912711507640136004:=0
def tw2325424099778064302:=0
def tw2471342668058990467:=0
def tw1388557537032830663:=0
def tw12625975934719165175:=0
def tw1350079338438058137:=0
def tw9114298611965830007:=0
def tw1432198816059669138:=0
def tw2445966859192917400:=0
def tw9192187966546574906:=0
def tw1381110951269376638:=0
def tw3372020457036653473:=0
def tw6934688964785868002:=0
def tw14697445287895786460:=0
def tw10426060162066521481:=0
def tw18273493366670674918:=0
def tw14339353653736004048:=0
def tw13770575880880052696:=0
def tw1090953772113211910:=0
def tw13339565750671348443:=0
def tw5518502322599987992:=0
def tw13293765608287508240:=0
def tw2994378592041606870:=0
def tw8811098505047862898:=0
def tw5647656285315253013:=0
def tw12824461160665870994:=0
def tw11282768376160914105:=0
def tw16153566496909270013:=0
def tw11946059403615560952:=0
def tw15734438394647776526:=0
def tw1401995403439726386:=0
def tw1902228820027010676:=0
def tw9221105831165391199:=0
def tw10220160314151569960:=0
def tw5593906356957746083:=0
def tw14729785506191584353:=0
def tw15541400210151169868:=0
def tw5421840988861718838:=0
def tw8014790829009547634:=0
def tw3187463453011973930:=0
def tw16289959603317651367:=0
def tw1002993527729936263:=0
def tw2723852805737979859:=0
def tw14614180097582245140:=0
def tw17077069304359856453:=0
def tw4048545697049680354:=0
def tw9593015584350589631:=0
def tw16808713029325549321:=0
def tw291874198653984381:=0
def tw11732214721104236480:=0
def tw7303023010144346324:=0
def tw5114895302398304667:=0
def tw4100887027349156152:=0
def tw15984646450943275921:=0
def tw7626480280598069845:=0
def tw10109159001256112363:=0
def tw17398436389007257117:=0
def tw4932284397259881085:=0
def tw3289031607843696631:=0
def tw12179337594947022709:=0
def tw3612590555298728541:=0
def tw4270369588255312445:=0
def tw8329213873098421472:=0
def tw4423717840790097899:=0
def tw2365157182683619202:=0
def tw8324610171901165516:=0
def tw7333636292187062207:=0
def tw16618260019397374841:=0
def tw14425678441714102025:=0
def tw3539745392006720309:=0
def tw8656061508112525240:=0
def tw14908749889820543337:=0
def tw5157289058080163262:=0
def tw14043539815878001920:=0
def tw148448031929421614:=0
def tw18381095507316477439:=0
def tw9973767791252865799:=0
def tw15916720018266436912:=0
def tw11375392007148320384:=0
def tw8794135048250652476:=0
def tw11930239885425603335:=0
def tw273879330364331300:=0
def tw7132387271982880253:=0
def tw4314021927881635229:=0
def tw7274768281398955553:=0
def tw14601684786534724065:=0
def tw14582971081584734028:=0
def tw7392124215884901735:=0
def tw6898246545886426630:=0
def tw6074308780362014051:=0
def tw16616850523283498694:=0
def tw262583863170781790:=0
def tw16205032504958554450:=0
def tw2609863743204885087:=0
def tw10205377828750150245:=0
def tw17980905515942559889:=0
def tw15848058194973354377:=0
def tw7100200654880214263:=0
def tw17445107598921655766:=0
def tw3352972187793672520:=0
def tw7343538836774783252:=0
def tw6801402195228460561:=0
def tw8118490584351581527:=0
def tw14798926289019061533:=0
def tw3677687591701676449:=0
def tw1005712070492866775:=0
def tw543021896021417223:=0
def tw756022866270729669:=0
def tw8088102692741652109:=0
def tw6838735918063781350:=0
def tw10044507596554308361:=0
def tw12370767928764524809:=0
def tw7264906469472703302:=0
def tw16191230870373120787:=0
def tw10397145898727258850:=0
def tw8316292706064354630:=0
def tw16682766636094174566:=0
def tw10047141759586368943:=0
def tw4133076524803498511:=0
def tw16672142976858304266:=0
def tw15789348663231933423:=0
def tw14469247795630037777:=0
def tw7135085686775717600:=0
def tw2603743823664414624:=0
def tw4837638975420157459:=0
def tw12016711481038086760:=0
def tw16839610384401004763:=0
def tw9514824400910413430:=0
def tw5812932677601584153:=0
def tw1300808971590540312:=0
def tw6901645252727789735:=0
def tw14374124455382737650:=0
def tw17672642803140747318:=0
def tw17148997065562706805:=0
def tw3591708201246572686:=0
def tw18152803384553986431:=0
def tw7041296486299593522:=0
def tw5986066263093000580:=0
def tw1872246029677290884:=0
def tw13577240189916680826:=0
def tw5497445585457099464:=0
def tw13607766348417113109:=0
def tw3191335845206531993:=0
def tw5697979795890804608:=0
def tw7293346452750526187:=0
def tw8007691066447118456:=0
def tw9499653964959466120:=0
def tw1562741192666858886:=0
def tw18427399463840694276:=0
def tw10317024321021387934:=0
def tw6098911000595066039:=0
def tw127772897679348950:=0
def tw8371283105781047956:=0
def tw9209669076205270072:=0
def tw18007019644984227582:=0
def tw5858617350868035344:=0
def tw6239891454911523555:=0
def tw17409093467300025353:=0
def tw9565560495082470234:=0
def tw8854417575732051363:=0
def tw15826209309801070568:=0
def tw8312717234684048858:=0
def tw8912166805945711162:=0
def tw17274313712445795214:=0
def tw13975617864387606175:=0
def tw7263026735976344764:=0
def tw8224696233998318798:=0
def tw9353157917247375807:=0
def tw2059092851591590771:=0
def tw12496100833385984696:=0
def tw11078646981383897222:=0
def tw13045416132968489827:=0
def tw13254043580827991853:=0
def tw15344318747135855829:=0
def tw4201171288277841960:=0
def tw7089280996588786063:=0
def tw9963505378504379851:=0
def tw2920491075371279537:=0
def tw2307904895327462148:=0
def tw8465486063205294971:=0
def tw3663832437514868017:=0
def tw1995571313567549602:=0
def tw10621433506673961611:=0
def tw7359758050563926277:=0
def tw17233004013200264041:=0
def tw3206179148653956518:=0
def tw2486081742868223883:=0
def tw7585738586896298420:=0
def tw1124110363756066475:=0
def tw14173476464628163677:=0
def tw1139202389412285711:=0
def tw4411634016205682933:=0
def tw16988799601655570142:=0
def tw10385371298497358712:=0
def tw16326510148362430575:=0
def tw8910362121938028214:=0
def tw17509178713968981133:=0
def tw14808966763878649100:=0
def tw9446662618679665998:=0
def tw16668424617215316559:=0
def tw11534418197985089606:=0
def tw10187096547055731149:=0
def tw11750563085203478807:=0
def tw6186983997168047581:=0
def tw3033330581685992236:=0
def tw2031259928994017241:=0
def tw11578502229261741427:=0
def tw4271932288899278856:=0
def tw4678282020684480238:=0
def tw15557269832480688787:=0
def tw7945724250551010578:=0
def tw13089968218419193450:=0
def tw17427006431466322974:=0
def tw10641311659290720027:=0
def tw11958333402165370151:=0
def tw11988192615416988138:=0
def tw15159072217168881765:=0
def tw4204066451804130495:=0
def tw286134260185822514:=0
def tw16837120285954224747:=0
def tw3210787210207372123:=0
def tw12722021078247404027:=0
def tw9859500973699936558:=0
def tw144532978250489639:=0
def tw6250352487454808248:=0
def tw6522638102743192907:=0
def tw17935805763763650615:=0
def tw17353428687418307248:=0
def tw8580652388651872251:=0
def tw17721079378255800944:=0
def tw18088774447538182420:=0
def tw5354629585832721400:=0
def tw17966915534117424422:=0
def tw4551610253633589575:=0
def tw13428692542116183374:=0
def tw6360478560496251837:=0
def tw4348695291534017762:=0
def tw17406688102756145483:=0
def tw14905477699408626545:=0
def tw10431444301431991447:=0
def tw15256873303307566788:=0
def tw3665640362340977519:=0
def tw9409264545866499832:=0
def tw11908114659518900149:=0
def tw12436705811886914375:=0
def tw12700710333419309245:=0
def tw17403119652320445434:=0
def tw3007516686748057768:=0
def tw11628929800428511578:=0
def tw7807330683834938241:=0
def tw10479798326523387718:=0
def tw16658700845663382165:=0
def tw2966401714370391712:=0
def tw15368182945454025793:=0
def tw9756894578304832019:=0
def tw10867712121045855083:=0
def tw11677176540596956503:=0
def tw6073883993837566802:=0
def tw9295012885264477266:=0
def tw3183679375402470352:=0
def tw744811855326700296:=0
def tw11576584869949004012:=0
def tw4527886570896654875:=0
def tw9302351735309582393:=0
def tw3451844243092360003:=0
def tw4069793750189936466:=0
def tw6274607287912098426:=0
def tw5139558434394837565:=0
def tw15659037059390113775:=0
def tw17567557066976918626:=0
def tw7533881020548865109:=0
def tw3880329890751022524:=0
def tw9374184894263059635:=0
def tw5512050778349660686:=0
def tw9220193553134984711:=0
def tw12486269303008551046:=0
def tw16968271965248682011:=0
def tw9341981053742383136:=0
def tw10971769381440860287:=0
def tw15512367086285395318:=0
def tw14082174112022809699:=0
def tw14451815125280905630:=0
def tw5360064245017817426:=0
def tw10539664822216398813:=0
def tw12766049254468959498:=0
def tw17280509605585988283:=0
def tw17290959812140123211:=0
def tw2278953280035844750:=0
def tw12964547121616324989:=0
def tw12183528145708069136:=0
def tw12799863910149616233:=0
def tw3511040986707343935:=0
def tw404189449586318403:=0
def tw1897234938610197495:=0
def tw13307114092752300779:=0
def tw6251335692066768276:=0
def tw4578906773397310854:=0
def tw14190120591735980364:=0
def tw12709132407120558089:=0
def tw11563855231304860269:=0
def tw7024989527079335211:=0
def tw17581128194327332296:=0
def tw2070491299615943213:=0
def tw15947788755414236312:=0
def tw13827750189150641979:=0
def tw7840217844003124582:=0
def tw12995479648505723187:=0
def tw2533660165990123568:=0
def tw735670744163034843:=0
def tw5631735187334783769:=0
def tw4164818473004003009:=0
def tw15114027671019727078:=0
def tw15791094066351194908:=0
def tw6020954221659704188:=0
def tw8886923224483352001:=0
def tw7943635183952402150:=0
def tw13690726895767095460:=0
def tw7002348421758240022:=0
def tw9132931139871292626:=0
def tw5137897455703588545:=0
def tw7660003598966706404:=0
def tw16477559121593285956:=0
end PySem.W.Fast
def Er:=@PySem.wpAny_bind
def Es:=@List.length_map
def Et:=@List.getElem?_eq_some_iff
def Eu:=@PySem.wpAny_pure
def Ew:=@PySem.Heap.get?_push_of_some
def Ey:=@Bool.and_eq_true
def Ez:=@List.getElem?_eq_getElem
def EH:=@Bool.false_ne_true
def EI:=@Nat.le_refl
def EJ:=@List.getElem?_append_left
def EK:=@PySem.Heap.lt_size
def EL:=@List.mem_cons_self
def EM:=@List.mem_cons_of_mem
def EN:=@List.size_toArray
def EO:=@decide_eq_true
def EQ:=@Nat.ne_of_lt
def ER:=@List.getElem?_set_ne
def ES:=@List.mem_append_right
def ET:=@PySem.Heap.get?_push_size
def EU:=@List.mem_cons
def EV:=@List.length_set
def EW:=@Nat.lt_of_lt_of_le
def EX:=@decide_eq_false
def EY:=@List.mem_of_getElem?
def EZ:=@List.mem_singleton
def Fa:=@List.all_eq_true
def Fb:=@List.map_cons
def Fc:=@Option.some.inj
def Fe:=@Option.isSome_iff_exists
def Ff:=@List.mem_append
def Fg:=@List.getElem?_set_self
def Fh:=@decide_eq_true_eq
def Fi:=@List.map_set
def Fj:=@PySem.sizeLine_eq
def Fk:=@Nat.le_trans
def Fm:=@List.append_nil
def Fn:=@Nat.lt_succ_self
def Fo:=@PySem.wpAny_mono
def Fp:=@List.getElem?_append_right
def Fq:=@List.getElem?_map
def Fs:=@PySem.wpAny_newObj_type
def Ft:=@List.length_filter_le
def Fu:=@PySem.lookup_relabel_local
def Fv:=@List.all_cons
def Fy:=@List.length_cons
def Fz:=@PySem.Heap.get?_update_self
def FA:=@PySem.W.mg_of
def FB:=@List.find?_cons
def FC:=@List.length_append
def FD:=@List.filter_append
def FE:=@Nat.le_of_not_lt
def FF:=@List.nodup_cons
def FG:=@PyProof.Rows.slot_tuple_getitem
def FH:=@Option.isNone_iff_eq_none
def FI:=@List.getElem_mem
def FJ:=@PySem.wpAny_field
def FK:=@List.getElem?_replicate
def FM:=@Nat.lt_succ_of_lt
def FN:=@Bool.not_eq_true'
def FO:=@List.forIn_cons
def FP:=@PySem.W.kia_one
def FQ:=@List.map_append
def FR:=@List.replicate_succ
def FS:=@Option.map_eq_some_iff
def FT:=@PySem.wpAny_holding
def FU:=@Nat.zero_le
def FV:=@Nat.le_succ
def FW:=@List.length_take
def FX:=@Option.bind_some
def FY:=@PySem.wpAny_Call_Name_kw
def FZ:=@Bool.false_eq_true
def Ga:=@List.length_replicate
def Gb:=@List.getElem?_eq_none_iff
def Gc:=@List.mem_or_eq_of_mem_set
def Gd:=@PySem.wpAny_passesOwn
def Ge:=@of_decide_eq_true
def Gf:=@List.length_range
def Gg:=@PySem.mem_of_lookup
def Gh:=@PySem.wpAny_callSpecial?_slot
def Gi:=@List.lookup_cons
def Gj:=@PySem.Heap.size_push
def Gk:=@PySem.Heap.get?_update_other
def Gn:=@PySem.wpAny_pyIter_tuple
def Go:=@PySem.PyData.shownAll_length
def Gp:=@PySem.wpAny_execs_nil
def Gq:=@List.range_succ
def Gr:=@List.getElem?_eq_none
def Gs:=@PyProof.Rows.callWith_type1
def Gu:=@List.flatten_cons
def Gv:=@Option.isSome_map
def Gw:=@List.nodup_append
def Gx:=@List.mem_range
def Gy:=@PySem.call_meets
def Gz:=@List.forIn_nil
def GA:=@PySem.codeAny_mono
def GC:=@PySem.wpAny_binaryOp_repeat_ref
def GD:=@List.filterMap_cons
def GE:=@beq_eq_false_iff_ne
def GG:=@PySem.Heap.get?_update_ne
def GH:=@List.getElem_of_mem
def GI:=@Nat.lt_irrefl
def GJ:=@PySem.wpAny_standAt
def GK:=@PySem.F.args_tuple_add_2
def GL:=@List.any_cons
def GM:=@PySem.wpAny_comprehension_free
def GN:=@List.mem_filter
def GO:=@Bool.eq_iff_iff
def GP:=@beq_iff_eq
def GQ:=@PySem.wpAny_call
def GR:=@PySem.W.callWith_K
def GS:=@PySem.tupleKind_room_in1
def GT:=@Int.emod_lt_of_pos
def GU:=@List.mem_replicate
def GV:=@PySem.F.entry_tuple_add
def GW:=@Int.eq_ofNat_of_zero_le
def GX:=@PySem.F.slot_tuple_add
def GY:=@PySem.codeAny_compStart_list
def GZ:=@PySem.PyData.noDict_hsm
def Ha:=@PySem.wpAny_setField
def Hb:=@PySem.eqIsQuiet_byValue
def Hc:=@PySem.wpAny_pyIter_enum
def He:=@List.take_succ_eq_append_getElem
def Hf:=@List.length_singleton
def Hg:=@Nat.le_of_ble_eq_true
def Hh:=@PyProof.Rows.callWith_builtin1
def Hi:=@PySem.wpAny_call_entry
def Hj:=@PySem.typeIs_int
def Hk:=@List.not_mem_nil
def Hl:=@List.take_length
def Hm:=@Nat.lt_of_not_le
def Ho:=@PySem.wpAny_newFunctionEnv
def Hq:=@PySem.codeAny_call_builtin
def Hr:=@List.mem_of_mem_tail
def Hs:=@Int.natCast_mul
def Ht:=@List.find?_some
def Hu:=@Int.emod_nonneg
def Hv:=@PySem.Calls.Name_function_global
def Hw:=@PyProof.Rows.isRef_of_reads
def Hx:=@PySem.wpAny_loadPart
def Hy:=@PySem.F.excBase_ValueError
def Hz:=@List.getD_eq_getElem?_getD
def HB:=@Array.getElem?_eq_getElem
def HC:=@List.append_assoc
def HD:=@bne_self_eq_false
def HE:=@Int.toNat_natCast
def HF:=@PySem.strLen_append
def HG:=@PySem.PyData.tuple.sizeOf_spec
def HH:=@PySem.F.slot_tuple_count
def HI:=@Bool.and_self
def HJ:=@PySem.wpAny_execs_cons
def HK:=@PySem.noFill_tuple_add
def HL:=@Nat.succ_ne_self
def HM:=@PySem.F.plainAttrs_list
def HN:=@List.filter_cons_of_neg
def HP:=@PySem.F.slot_list_clear
def HQ:=@List.countP_cons
def HR:=@Int.natCast_ediv
def HS:=@Nat.le_of_lt
def HU:=@Int.ne_of_gt
def HV:=@List.of_mem_zip
def HW:=@Bool.or_eq_true
def HX:=@if_false
def HY:=@PySem.seq_tuple_add
def Ia:=@List.map_take
def Ib:=@if_true
namespace L2
open PySem PySem.Spec PyProof.Rows
abbrev Key:=Sum Int Str
def bw:Key->Value->Bool
 | .inl k,v=>Value.isInt k v
 | .inr x,v=>Value.isStrOf x v
def Dd (w:World):Key->Int
 | .inl k=>hashInt k
 | .inr x=>hashStr w x
theorem i8:∀ {k:Key} {v:Value},bw k v=true->(∃ i t,k=Sum.inl i/\v=Value.int i t)\/(∃ x t,k=Sum.inr x/\v=Value.str x t)
 | .inl i,v,h=>by
  obtain ⟨t,e⟩:=Value.isInt_shape h;exact .inl ⟨i,t,rfl,e⟩
 | .inr x,v,h=>by
  obtain ⟨t,e⟩:=Value.isStrOf_shape h;exact .inr ⟨x,t,rfl,e⟩
theorem jV (i:Int) (t:Tok):bw (.inl i) (.int i t)=true:=by simp [bw,Value.isInt]
theorem kW (x:Str) (t:Tok):bw (.inr x) (.str x t)=true:=by simp [bw,Value.isStrOf]
theorem yZ (a b:Int):decide ((Sum.inl a:Key)=Sum.inl b)=(a==b):=by grind
theorem yd (a b:Str):decide ((Sum.inr a:Key)=Sum.inr b)=decide (a=b):=by grind
theorem xM (a:Int) (b:Str):decide ((Sum.inl a:Key)=Sum.inr b)=false:=by grind
theorem yr (a:Str) (b:Int):decide ((Sum.inr a:Key)=Sum.inl b)=false:=by grind
def j5 (prog:Program) (w:World):PySem.KeyKind prog w Key where
 is:=bw
 hash:=Dd w
 inj:=λv a b f d=>by
  rcases i8 f with ⟨i,t,rfl,rfl⟩ | ⟨x,t,rfl,rfl⟩
  ·rcases i8 d with ⟨j,u,rfl,e⟩ | ⟨y,u,rfl,e⟩
   ·grind
   ·exact nomatch e
  ·rcases i8 d with ⟨j,u,rfl,e⟩ | ⟨y,u,rfl,e⟩
   ·exact nomatch e
   ·grind
 byValue:=λk v h=>by
  rcases i8 h with ⟨i,t,rfl,rfl⟩ | ⟨x,t,rfl,rfl⟩ <;> rfl
 pyHash:=λc h=>by
  rcases i8 c with ⟨i,t,rfl,rfl⟩ | ⟨x,t,rfl,rfl⟩
  ·exact wpAny_pyHash_int h
  ·exact wpAny_pyHash_str h
 eqBool:=λg c h=>by
  rcases i8 g with ⟨i,t,rfl,rfl⟩ | ⟨x,t,rfl,rfl⟩
  ·rcases i8 c with ⟨j,u,rfl,rfl⟩ | ⟨y,u,rfl,rfl⟩
   ·rw [yZ] at h;exact wpAny_eqBool_int h
   ·rw [xM] at h;exact SeqAt.EqAt.int_str i t y u _ _ _ _ h
  ·rcases i8 c with ⟨j,u,rfl,rfl⟩ | ⟨y,u,rfl,rfl⟩
   ·rw [yr] at h;exact SeqAt.EqAt.str_int x t j u _ _ _ _ h
   ·rw [yd] at h;exact wpAny_eqBool_str h
 «strs»:=λk x t v h=>by
  rcases i8 h with ⟨i,u,rfl,e⟩ | ⟨y,u,rfl,e⟩
  ·exact nomatch e
  ·injection e with e1 _;subst e1;cases v <;> rfl
theorem di (prog:Program) (w:World) (i:Int) (t:Tok):(j5 prog w).is (.inl i) (.int i t)=true:=jV i t
theorem fK (prog:Program) (w:World) (x:Str) (t:Tok):(j5 prog w).is (.inr x) (.str x t)=true:=kW x t
inductive V where
 | non | bl (b:Bool) | int (i:Int) | str (x:Str) | byt (b:Array UInt8) | flt (b:UInt64) | ref (a:Addr) | ty (n:String)
 deriving DecidableEq
def RelV:V->Value->Prop
 | .non,u=>u=Value.none
 | .bl b,u=>u=Value.bool b
 | .int i,u=>∃ t,u=Value.int i t
 | .str x,u=>∃ t,u=Value.str x t
 | .byt b,u=>∃ t,u=Value.bytes b t
 | .flt b,u=>∃ t,u=Value.float b t
 | .ref a,u=>u=Value.ref a
 | .ty n,u=>u=Value.type n
abbrev Vals:List V->List Value->Prop:=Paired RelV
theorem Vals.length (r:Vals xs us):xs.length=us.length:=Paired.length r
theorem Vals.get:∀ {xs:List V} {us:List Value} {i:Nat} {x:V},Vals xs us->xs[i]?=some x->∃ u,us[i]?=some u/\RelV x u
 | _,_,_,_,.nil,e=>by simp at e
 | _,_,0,_,.cons r _,e=>by simp at e;subst e;exact ⟨_,rfl,r⟩
 | _,_,i+1,x,.cons _ t,e=>by
  obtain ⟨u,b,a⟩:=Vals.get t (by simpa using e);exact ⟨u,by simpa using b,a⟩
theorem Vals.set (r:RelV x u):∀ {xs:List V} {us:List Value} (i:Nat),Vals xs us->Vals (xs.set i x) (us.set i u)
 | _,_,_,.nil=>.nil
 | _,_,0,.cons _ t=>.cons r t
 | _,_,i+1,.cons q t=>.cons q (Vals.set r i t)
theorem Vals.append:∀ {xs ys:List V} {us ws:List Value},Vals xs us->Vals ys ws->Vals (xs++ys) (us++ws)
 | _,_,_,_,.nil,s=>s
 | _,_,_,_,.cons r t,s=>.cons r (Vals.append t s)
theorem Vals.take:∀ {xs:List V} {us:List Value} (n:Nat),Vals xs us->Vals (xs.take n) (us.take n)
 | _,_,0,_=>.nil
 | _,_,_+1,.nil=>.nil
 | _,_,n+1,.cons r t=>.cons r (Vals.take n t)
theorem Vals.drop:∀ {xs:List V} {us:List Value} (n:Nat),Vals xs us->Vals (xs.drop n) (us.drop n)
 | _,_,0,r=>r
 | _,_,_+1,.nil=>.nil
 | _,_,n+1,.cons _ t=>Vals.drop n t
def RelO:Option V->Option Value->Prop
 | some v,some u=>RelV v u
 | none,none=>True
 | _,_=>False
def KV {κ:Type}:List (κ×V)->List (κ×Value)->Prop:=Paired λ(p:κ×V) (q:κ×Value)=>p.1=q.1/\RelV p.2 q.2
def kV:Key->V
 | .inl i=>.int i
 | .inr x=>.str x
inductive HO where
 | lst (xs:List V)
 | tup (xs:List V)
 | dK (kvs:List (Key×V)) | dT (kvs:List (List Key×V))
 | set (S:Int->Bool) (n:Nat)
 | ins (C dx:Addr) (fs:List (Str×V))
 | own (x:Addr)
 | xd (fs:List (Str×V))
 | met (f x:Addr)
 | rng (lo hi:Int)
 | frz (o:Obj) (u:HO)
 | tbl (ps:Array Value)
 | ext (φ:Heap->Prop)
abbrev Hp:=Addr->Option HO
def upd (H:Hp) (a:Addr) (o:HO):Hp:=λb=>if b=a then some o else H b
theorem b6:upd H a o a=some o:=by unfold upd;rw [if_pos rfl]
theorem a7 {a b:Addr} {o:HO} (h:b≠a):upd H a o b=H b:=by unfold upd;rw [if_neg h]
theorem jD {H:Hp} {a b:Addr} {o u:HO} (h:H a=some o) (h':H b=some u) (d:o≠u):a≠b:=by grind
theorem b9 {H:Hp} {a b:Addr} {o:HO} (h:H a=some o) (h':H b=none):a≠b:=by grind
def TupN (h:Heap) (a:Addr) (items:Array Value):Prop:=∃ o,h.get? a=some o/\o.cls=.type "tuple"/\∃ n,o.data=.seq items n/\o.dict=none
theorem TupN.is (x:TupN h a items):IsTup h a items:=let ⟨o,e,c,n,d,_⟩:=x;⟨o,e,c,n,d⟩
theorem TupN.new (h:Heap) (items:Array Value):TupN (h.push { cls:=.type "tuple",data:=.seq items }) h.objs.size items:=⟨_,ET _ rfl,rfl,_,rfl,rfl⟩
section
variable (P:Program) (w:World)
def ObjOk (H:Hp) (h:Heap) (a:Addr):HO->Prop
 | .lst xs=>xs.length<=sizeLine/\∃ (b:List Value) (n:Nat),Vals xs b/\h.get? a=some { cls:=.type "list",data:=.seq b.toArray n }
 | .tup xs=>xs.length<=sizeLine/\∃ b:List Value,Vals xs b/\TupN h a b.toArray
 | .dK c=>c.length<=sizeLine/\(a==sysModules)=false/\∃ vs,KV c vs/\h.DictOf (j5 P w) a vs
 | .dT c=>c.length<=sizeLine/\(a==sysModules)=false/\∃ xs:List (List Key×Addr×Value),
   Paired (λ(p:List Key×V) (q:List Key×Addr×Value)=>p.1=q.1/\H q.2.1=some (.tup (p.1.map kV))/\RelV p.2 q.2.2) c xs /\
   ∃ o es k,h.get? a=some o/\o.ExactDict/\o.data=.dict es k/\es.toList=xs.map (entryOfKey (tupleKind (j5 P w)))/\(xs.map (·.1)).Nodup
 | .set S n=>h.SetOf (intKind P w) a S n
 | .ins C d fs=>H d=some (.own a)/\fs.length<=1000/\d≠a/\h.get? a=some (PySem.W.instObj C d) /\
   ∃ mA,h.Ns1 d mA/\(∀ f,RelO (fs.lookup f) (mA f))/\PySem.Within mA (fs.map (·.1))
 | .own _=>∃ o,h.get? a=some o
 | .xd fs=>∃ mA,h.Ns1 a mA/\∀ f,RelO (fs.lookup f) (mA f)
 | .rng lo j=>∃ t u v,h.get? a=some { cls:=.type "range",data:=.fields #[.int lo t,.int j u,.int 1 v] }
 | .frz o u=>h.get? a=some o/\ObjOk H h a u
 | .tbl ps=>h.get? a=some { cls:=.none,data:=.fields ps }
 | .met f x=>h.get? a=some (PySem.W.methodObj (.ref f) (.ref x))
 | .ext e=>e h/\(∃ o,h.get? a=some o)/\∀ g i:Heap,e g->(∀ o,g.get? a=some o->i.get? a=some o)->e i
def HOk (H:Hp) (h:Heap):Prop:=∀ a o,H a=some o->ObjOk P w H h a o
end
section
variable {P:Program} {w:World} {H H':Hp} {h h':Heap} {a:Addr} {o:HO}
theorem ObjOk.lt (x:ObjOk P w H h a o):a<h.objs.size:=by
 cases o with
 | lst xs=>obtain ⟨_,_,_,_,e⟩:=x;exact EK e
 | tup xs=>obtain ⟨_,_,_,p⟩:=x;exact p.is.lt
 | dK kvs=>obtain ⟨_,_,_,_,o,_,_,e,_⟩:=x;exact EK e
 | dT kvs=>obtain ⟨_,_,_,_,o,_,_,e,_⟩:=x;exact EK e
 | set S n=>obtain ⟨o,_,_,_,e,_⟩:=x;exact EK e
 | ins C dx fs=>obtain ⟨_,_,_,e,_⟩:=x;exact EK e
 | own y=>obtain ⟨_,e⟩:=x;exact EK e
 | xd fs=>obtain ⟨_,⟨_,_,_,e,_⟩,_⟩:=x;exact EK e
 | rng lo hi=>obtain ⟨_,_,_,e⟩:=x;exact EK e
 | frz ob u=>obtain ⟨e,_⟩:=x;exact EK e
 | tbl ps=>exact EK (x)
 | met f y=>exact EK (x)
 | ext φ=>obtain ⟨_,⟨_,e⟩,_⟩:=x;exact EK e
theorem Paired.mapP:∀ {c:List α} {d:List β},Paired F c d->(∀ a b,F a b->G a b)->Paired G c d
 | _,_,.nil,_=>.nil
 | _,_,.cons r t,f=>.cons (f _ _ r) (Paired.mapP t f)
theorem ObjOk.stay (x:ObjOk P w H h a o) (k:∀ b u,(b=a\/H b=some (.own a))->h.get? b=some u->h'.get? b=some u)
  (ho:∀ b,H b=some (.own a)->H' b=some (.own a)) (ht:∀ b xs,H b=some (.tup xs)->H' b=some (.tup xs)):ObjOk P w H' h' a o:=by
 induction o with
 | lst xs=>obtain ⟨z,its,n,r,e⟩:=x;exact ⟨z,its,n,r,k _ _ (.inl rfl) e⟩
 | tup xs=>obtain ⟨z,its,r,ob,e,c⟩:=x;exact ⟨z,its,r,ob,k _ _ (.inl rfl) e,c⟩
 | dK kvs=>obtain ⟨z,y,vs,r,ob,es,ep,e,c⟩:=x;exact ⟨z,y,vs,r,ob,es,ep,k _ _ (.inl rfl) e,c⟩
 | dT kvs=>
  obtain ⟨z,y,xs,r,ob,es,ep,e,c⟩:=x;exact ⟨z,y,xs,Paired.mapP r λp q z=>⟨z.1,ht _ _ z.2.1,z.2.2⟩,ob,es,ep,k _ _ (.inl rfl) e,c⟩
 | set S n=>obtain ⟨ob,es,ep,t,e,c⟩:=x;exact ⟨ob,es,ep,t,k _ _ (.inl rfl) e,c⟩
 | ins C dx fs=>
  obtain ⟨d,z,ne,e,mA,⟨od,es,ep,e2,c⟩,r⟩:=x;exact ⟨ho _ d,z,ne,k _ _ (.inl rfl) e,mA,⟨od,es,ep,k _ _ (.inr d) e2,c⟩,r⟩
 | own y=>obtain ⟨ob,e⟩:=x;exact ⟨ob,k _ _ (.inl rfl) e⟩
 | xd fs=>obtain ⟨mA,⟨od,es,ep,e,c⟩,r⟩:=x;exact ⟨mA,⟨od,es,ep,k _ _ (.inl rfl) e,c⟩,r⟩
 | rng lo hi=>obtain ⟨t,u,v,e⟩:=x;exact ⟨t,u,v,k _ _ (.inl rfl) e⟩
 | frz ob u ih=>obtain ⟨e,q⟩:=x;exact ⟨k _ _ (.inl rfl) e,ih q⟩
 | tbl ps=>
  have e:=x;exact k a _ (.inl rfl) e
 | met f y=>
  have e:=x;exact k a _ (.inl rfl) e
 | ext φ=>obtain ⟨p,⟨o,e⟩,st⟩:=x;exact ⟨st _ _ p λo q=>k _ _ (.inl rfl) q,⟨o,k _ _ (.inl rfl) e⟩,st⟩
theorem HOk.lt (x:HOk P w H h) (e:H a=some o):a<h.objs.size:=(x a o e).lt
theorem HOk.fresh (x:HOk P w H h) (e:h.objs.size<=a):H a=none:=by
 cases q:H a with
 | none=>rfl
 | some u=>exact absurd (EW (x.lt q) e) (GI _)
theorem HOk.kept (x:HOk P w H h) (k:∀ b u,h.get? b=some u->h'.get? b=some u):HOk P w H h':=λa o e=>
 (x a o e).stay (λb u _ q=>k b u q) (λ_ q=>q) λ_ _ q=>q
theorem HOk.laid (x:HOk P w H h) (k:∀ b u,h.get? b=some u->h'.get? b=some u) (i:h.objs.size<=a) (d:ObjOk P w (upd H a o) h' a o):HOk P w (upd H a o) h':=λb u e=>by
 have g:=x.fresh i;by_cases f:b=a
 ·subst f;rw [b6] at e;cases e;exact d
 ·rw [a7 f] at e;exact (x b u e).stay (λc v _ q=>k c v q) (λc q=>by rw [a7 (b9 q g)];exact q) λc xs q=>by rw [a7 (b9 q g)];exact q
end
def Rd (H:Hp) (a:Addr) (u:HO):Prop:=H a=some u\/∃ o,H a=some (.frz o u)
theorem Rd.ok {H:Hp} {h:Heap} {a:Addr} {u:HO} (r:Rd H a u) (x:HOk P w H h):ObjOk P w H h a u:=by
 rcases r with r | ⟨o,r⟩
 ·exact x a u r
 ·obtain ⟨_,q⟩:=x a _ r;exact q
def Mut:Option HO->Prop
 | some (.lst _)=>True
 | some (.dK _)=>True
 | some (.dT _)=>True
 | some (.set _ _)=>True
 | some (.ins _ _ _)=>True
 | some (.ext _)=>True
 | _=>False
section
variable {P:Program} {w:World} {H:Hp} {h h':Heap} {x e:Addr} {o':HO}
theorem HOk.write (s:HOk P w H h) (g:Mut (H x)) (o:e=x\/H e=some (.own x)) (k:∀ b u,b≠e->h.get? b=some u->h'.get? b=some u) (i:∃ u,h'.get? e=some u)
  (j:ObjOk P w (upd H x o') h' x o'):HOk P w (upd H x o') h':=λb u q=>by
 have f:∀ c y,H c=some (.own y)->c≠x:=λc y r z=>by subst z;rw [r] at g;exact g
 have d:∀ c xs,H c=some (.tup xs)->c≠x:=λc xs r z=>by subst z;rw [r] at g;exact g
 by_cases l:b=x
 ·subst l;rw [b6] at q;cases q;exact j
 ·rw [a7 l] at q;by_cases a:b=e
  ·have n:H b=some (.own x):=by
    rcases o with z | z
    ·grind
    ·rw [a];exact z
   rw [q] at n;cases n;obtain ⟨v,p⟩:=i;exact ⟨v,by rw [a];exact p⟩
  ·refine (s b u q).stay (λc v m r=>k c v ?_ r) (λc r=>by rw [a7 (f c b r)];exact r) λc xs r=>by rw [a7 (d c xs r)];exact r
   rcases m with rfl | m
   ·exact a
   ·grind
end
structure Un (fs ex:List Addr) (H H':Hp) (h h':Heap):Prop where
 keep:∀ b o,h.get? b=some o->H b=none->b∉fs->b∉ex->h'.get? b=some o
 slot:∀ b o,h.get? b=some o->H b=none->b∈fs->b∉ex->∃ sl,h'.get? b=some { o with slots:=sl }
 free:∀ b o,h.get? b=some o->H b=none->b∉ex->H' b=none
 there:∀ b o,h.get? b=some o->b∉ex->∃ o',h'.get? b=some o'
 tups:∀ b xs,H b=some (.tup xs)->H' b=some (.tup xs)
 frzs:∀ b o u,H b=some (.frz o u)->H' b=some (.frz o u)
 tbls:∀ b ps,H b=some (.tbl ps)->∃ more,H' b=some (.tbl (ps++more))
section
variable {fs fs' ex ex':List Addr} {H H1 H2:Hp} {h h1 h2 h':Heap} {a x e:Addr} {o:HO}
theorem Un.any (u:Un fs ex H H1 h h1) {b:Addr} {ob:Obj} (q:h.get? b=some ob) (n:H b=none) (c:b∉ex):∃ d,h1.get? b=some { ob with slots:=d }:=by
 by_cases a:b∈fs
 ·exact u.slot b ob q n a c
 ·exact ⟨ob.slots,u.keep b ob q n a c⟩
theorem Un.kept (k:∀ b u,h.get? b=some u->h'.get? b=some u):Un fs ex H H h h':=
 ⟨λb ob q _ _ _=>k b ob q,λb ob q _ _ _=>⟨ob.slots,k b ob q⟩,λ_ _ _ n _=>n,λb ob q _=>⟨ob,k b ob q⟩,λ_ _ q=>q,λ_ _ _ q=>q,λ_ ps q=>⟨#[],by rw [q];simp⟩⟩
theorem Un.refl:Un fs ex H H h h:=Un.kept λ_ _ q=>q
theorem Un.laid (k:∀ b u,h.get? b=some u->h'.get? b=some u) (d:h.objs.size<=a) (c:H a=none):Un fs ex H (upd H a o) h h' where
 keep:=λb u q _ _ _=>k b u q
 slot:=λb u q _ _ _=>⟨u.slots,k b u q⟩
 free:=λb u q n _=>by rw [a7 (EQ (EW (EK q) d))];exact n
 there:=λb u q _=>⟨u,k b u q⟩
 tups:=λb xs q=>by rw [a7 (b9 q c)];exact q
 frzs:=λb u xs q=>by rw [a7 (b9 q c)];exact q
 tbls:=λb ps q=>⟨#[],by rw [a7 (b9 q c),q];simp⟩
theorem Un.write (a:Mut (H x)) (i:e=x\/H e=some (.own x)) (k:∀ b u,b≠e->h.get? b=some u->h'.get? b=some u) (g:∃ u,h'.get? e=some u):Un fs ex H (upd H x o) h h':=by
 have d:∀ b,H b=none->b≠x:=λb n z=>by subst z;rw [n] at a;exact a
 have f:∀ b,H b=none->b≠e:=λb n z=>by
  subst z;rcases i with r | r
  ·exact d b n r
  ·rw [n] at r;cases r
 have c:∀ b u,H b=some u->¬ Mut (some u)->b≠x:=λb u q j z=>by subst z;rw [q] at a;exact j a
 refine ⟨λb u q n _ _=>k b u (f b n) q,λb u q n _ _=>⟨u.slots,k b u (f b n) q⟩,λb u q n _=>by rw [a7 (d b n)];exact n,λb u q _=>?_,
  λb xs q=>by rw [a7 (c b _ q λz=>z)];exact q,λb u xs q=>by rw [a7 (c b _ q λz=>z)];exact q,λb ps q=>⟨#[],by rw [a7 (c b _ q λz=>z),q];simp⟩⟩
 grind
end
def trk (h:Heap) (H:Hp):List Addr:=(List.range h.objs.size).filter λa=>(H a).isSome
def fA (h:Heap) (H:Hp):Heap:=PySem.W.hideAll h (trk h H)
theorem jh (h:Heap) (H:Hp):(fA h H).objs.size=h.objs.size:=PySem.W.hideAll_size _ _
theorem nE {H:Hp} {b:Addr} {o:Obj} (e:h.get? b=some o) (n:H b=none):(fA h H).get? b=some o:=
 PySem.W.hideAll_get _ e λa=>by
  have q:=(GN.mp a).2;rw [n] at q;simp at q
theorem uJ (e:(fA h H).get? b=some o):h.get? b=some o/\H b=none:=by
 have a:=PySem.W.of_hideAll (trk h H) e;refine ⟨a,?_⟩;cases q:H b with
 | none=>rfl
 | some x=>
  have c:b∈trk h H:=GN.mpr ⟨Gx.mpr (EK a),by simp [q]⟩;have z:(fA h H).get? b=none:=PySem.W.hideAll_none (trk h H) c;rw [z] at e;cases e
structure Mod (K:PySem.W.Frag) (mg:Str->Option Value) (base:Heap):Prop where
 kin:K.In base
 glob:base.Ns mainGlobals mg
 blt:∃ mb,base.Ns builtinsNs mb/\∀ x:Str,x ≠ "__name__"->mb x=bootBuiltins x
 nolimit:base.NoLimit
structure Cx where
 prog:Program
 w:World
 K:PySem.W.Frag
 mg:Str->Option Value
 base:Heap
 A:Around
 N:List Str
 s₀:Shared
 H₀:Hp
 env:Env
 outer:List Env
 stack:List Env
 ex:List Addr
 fn:Str->Bool
 calm:Bool
 pn:List (Addr×Obj)
 xe:Value->Shared->Prop
def frs (l:List Env):List Addr:=l.filterMap (·.frame)
abbrev Cx.fs (X:Cx):List Addr:=frs X.outer
def Vis (a:Scope) (x:Str):Prop:=a.names.lookup x=some .local\/a.names.lookup x=some .cell\/a.names.lookup x=some .free
def Loc (a:Scope) (x:Str):Prop:=a.names.lookup x=some .local\/a.names.lookup x=some .cell
def Cz (a:Env) (h:Heap) (m:Str->Option Value) (x:Str) (u:Value):Prop:=
 (a.kindOf x=some .local/\m x=some u)\/((a.kindOf x=some .cell\/a.kindOf x=some .free)/\∃ c,a.cells.lookup x=some c/\h.IsCell c (some u))
structure Cx.Ok (X:Cx):Prop where
 mod:Mod X.K X.mg X.base
 kind:X.env.scope.kind=.function
 glob:X.env.globals=mainGlobals
 blt:X.env.builtins=builtinsNs
 above:X.s₀.heap.objs.size<=X.env.locals
 inj:∀ x y c,X.env.cells.lookup x=some c->X.env.cells.lookup y=some c->x=y
 has:∀ x,(X.env.kindOf x=some .cell\/X.env.kindOf x=some .free)->∃ c,X.env.cells.lookup x=some c
 cab:∀ x c,X.fn x=true->X.env.cells.lookup x=some c->X.s₀.heap.objs.size<=c
 hd:X.calm=true->X.A.handled=none
 frames:X.A.frames=some X.stack
 stk:X.stack=X.outer\/(X.stack=X.env :: X.outer/\X.env.frame=some X.env.locals)
 exf:∀ b∈X.ex,b≠X.env.locals/\∀ x c,X.env.cells.lookup x=some c->c≠b
 bs:∀ b o,X.base.get? b=some o->X.s₀.heap.get? b=some o/\X.H₀ b=none
 bsz:X.base.objs.size<=X.s₀.heap.objs.size
 noex:∀ b o,X.base.get? b=some o->b∉X.ex
 exfs:∀ b∈X.ex,b∉X.fs
 funs:X.s₀.heap.FunFrames X.base X.outer
 frf:∀ b∈X.fs,X.H₀ b=none
structure Inv (X:Cx) (pins:List (Addr×Obj)) (σ:List (Option V)) (H:Hp) (s:Shared):Prop where
 ok:X.Ok
 os:s.os=X.s₀.os
 bare:AllBare s.gens
 base:Un X.fs X.ex X.H₀ H X.s₀.heap s.heap
 loc:∃ m,s.heap.Ns X.env.locals m/\∀ (i:Nat) (x:Str) (v:V),X.N[i]?=some x->σ[i]?=some (some v)->Vis X.env.scope x->∃ u,RelV v u/\Cz X.env s.heap m x u
 cell:∀ x c,X.env.cells.lookup x=some c->∃ v,s.heap.IsCell c v
 free:H X.env.locals=none
 freeC:∀ x c,X.env.cells.lookup x=some c->H c=none
 pin:∀ p∈X.pn++pins,s.heap.get? p.1=some p.2/\H p.1=none/\p.1≠X.env.locals/\p.1∉X.fs/\∀ v,p.2.data≠.cell v
 hok:HOk X.prog X.w H s.heap
 len:σ.length=X.N.length
section
variable {X:Cx} {pins:List (Addr×Obj)} {σ:List (Option V)} {H H':Hp} {s:Shared} {h':Heap}
theorem Cx.Ok.nofr (c:X.Ok) {b:Addr} {o:Obj} (e:X.base.get? b=some o):b∉X.fs:=λa=>by
 have:=(c.funs.mem a).1;rw [e] at this;cases this
theorem Inv.bs (I:Inv X pins σ H s):∀ b o,X.base.get? b=some o->s.heap.get? b=some o/\H b=none:=λb o e=>
 ⟨I.base.keep b o (I.ok.bs b o e).1 (I.ok.bs b o e).2 (I.ok.nofr e) (I.ok.noex b o e),I.base.free b o (I.ok.bs b o e).1 (I.ok.bs b o e).2 (I.ok.noex b o e)⟩
theorem Inv.bk (I:Inv X pins σ H s):∀ b o,X.base.get? b=some o->s.heap.get? b=some o:=λb o e=>(I.bs b o e).1
theorem Inv.mod (I:Inv X pins σ H s):Mod X.K X.mg X.base:=I.ok.mod
theorem Inv.kIn (I:Inv X pins σ H s):X.K.In s.heap:=I.ok.mod.kin.keeps I.bk
theorem Inv.fr (I:Inv X pins σ H s):∃ m,Fr X.base X.env.locals s.heap m:=
 let ⟨m,a,_⟩:=I.loc
 ⟨m,a,I.bk,Fk I.ok.bsz I.ok.above⟩
theorem Inv.lt (I:Inv X pins σ H s):X.env.locals<s.heap.objs.size:=let ⟨_,a,_⟩:=I.loc;a.lt
theorem Inv.sz (I:Inv X pins σ H s):X.s₀.heap.objs.size<=s.heap.objs.size:=Fk I.ok.above (HS I.lt)
theorem Inv.nofs (I:Inv X pins σ H s) {a:Addr} (h:s.heap.objs.size<=a):a∉X.fs:=λb=>by
 obtain ⟨_,o,c,_⟩:=I.ok.funs.mem b;exact absurd (EW (EK c) (Fk I.sz h)) (GI _)
theorem Inv.cne (I:Inv X pins σ H s):∀ x c,X.env.cells.lookup x=some c->c≠X.env.locals:=λx c e z=>by
 obtain ⟨v,o,d,hd⟩:=I.cell x c e;obtain ⟨m,⟨o',es,f,a,b,_⟩,_⟩:=I.loc;rw [z,a] at d;cases d;rw [b] at hd;cases hd
theorem Inv.funs (I:Inv X pins σ H s):s.heap.FunFrames X.base X.outer:=by
 have a:∀ (l:List Env),(∀ b∈frs l,b∈X.fs)->X.s₀.heap.FunFrames X.base l->s.heap.FunFrames X.base l:=by
  intro l;induction l with
  | nil=>intro _ _;trivial
  | cons j r n=>
   intro hs k;obtain ⟨g,⟨L,o,c,i,h,hd⟩,m⟩:=k;have f:=hs L (by unfold frs;rw [GD,c];exact EL);obtain ⟨p,e⟩:=I.base.slot L o h (I.ok.frf L f) f λz=>I.ok.exfs L z f;exact ⟨g,⟨L,_,c,i,e,hd⟩,n (λb d=>hs b (by unfold frs;rw [GD,c];exact EM _ d)) m⟩
 exact a X.outer (λ_ d=>d) I.ok.funs
theorem Inv.stack (I:Inv X pins σ H s):s.heap.FunFrames X.base X.stack:=by
 rcases I.ok.stk with e | ⟨e,hf⟩
 ·rw [e];exact I.funs
 ·rw [e];obtain ⟨m,a,_⟩:=I.loc;refine .cons (by rw [I.ok.kind];decide) hf a ?_ I.funs;exact Heap.get?_none_of_le (Fk I.ok.bsz I.ok.above)
theorem Inv.stkSub (I:Inv X pins σ H s):∀ b∈frs X.stack,b∈X.env.locals :: X.fs:=λb a=>by
 rcases I.ok.stk with e | ⟨e,hf⟩
 ·grind
 ·rw [e] at a;unfold frs at a;rw [GD,hf] at a;exact a
theorem Inv.stkFree (I:Inv X pins σ H s):∀ b∈frs X.stack,H b=none:=λb a=>by
 rcases EU.mp (I.stkSub b a) with e | a
 ·rw [e];exact I.free
 ·obtain ⟨_,o,c,_⟩:=I.ok.funs.mem a;exact I.base.free b o c (I.ok.frf b a) λz=>I.ok.exfs b z a
theorem Inv.step {d':Drawn} {ch:List Addr} (I:Inv X pins σ H s)
  (h:∀ b∈ch,(b∈X.ex\/X.s₀.heap.objs.size<=b)/\b≠X.env.locals/\(∀ x c,X.env.cells.lookup x=some c->c≠b)/\∀ p∈X.pn++pins,p.1≠b)
  (j:∀ b o,b≠X.env.locals->b∉X.fs->b∉ch->s.heap.get? b=some o->H b=none->h'.get? b=some o)
  (A:∀ b o,b≠X.env.locals->b∈X.fs->b∉ch->s.heap.get? b=some o->H b=none->∃ O,h'.get? b=some { o with slots:=O }) (f:∀ b o,b∉ch->s.heap.get? b=some o->H b=none->H' b=none)
  (C:∀ b o,b∉ch->s.heap.get? b=some o->∃ o',h'.get? b=some o')
  (G:∀ b xs,H b=some (.tup xs)->H' b=some (.tup xs)) (J:∀ b o u,H b=some (.frz o u)->H' b=some (.frz o u)) (E:∀ b ps,H b=some (.tbl ps)->∃ F,H' b=some (.tbl (ps++F)))
  (ns:∀ m,s.heap.Ns X.env.locals m->h'.Ns X.env.locals m) (N:HOk X.prog X.w H' h') (Y:AllBare g') :
  Inv X pins σ H' { s with heap:=h',gens:=g',drawn:=d',toks:=t' }:=by
 have K:∀ b o,X.s₀.heap.get? b=some o->b≠X.env.locals:=λb o e=>EQ (EW (EK e) I.ok.above);have w:∀ b o,X.s₀.heap.get? b=some o->b∉X.ex->b∉ch:=λb o e a B=>by
  rcases (h b B).1 with z | z
  ·exact a z
  ·exact absurd (EW (EK e) z) (GI _)
 have t:∀ x c,X.env.cells.lookup x=some c->∀ v,s.heap.IsCell c v->h'.IsCell c v:=λx c e v ⟨o,D,hd⟩=>by
  have g:=λz=>(h c z).2.2.1 x c e rfl;by_cases P:c∈X.fs
  ·obtain ⟨O,q⟩:=A c o (I.cne x c e) P g D (I.freeC x c e);exact ⟨_,q,hd⟩
  ·exact ⟨o,j c o (I.cne x c e) P g D (I.freeC x c e),hd⟩
 refine ⟨I.ok,I.os,Y,⟨λb o e n B a=>?_,λb o e n B a=>?_,λb o e n a=>?_,λb o e a=>?_,λb xs e=>G b xs (I.base.tups b xs e),λb o xs e=>J b o xs (I.base.frzs b o xs e),λb ps e=>?_⟩,?_,λx c e=>?_,?_,λx c e=>?_,λp S=>?_,N,I.len⟩
 ·exact j b o (K b o e) B (w b o e a) (I.base.keep b o e n B a) (I.base.free b o e n a)
 ·obtain ⟨O,y⟩:=I.base.slot b o e n B a;obtain ⟨M,L⟩:=A b _ (K b o e) B (w b o e a) y (I.base.free b o e n a);exact ⟨M,L⟩
 ·obtain ⟨o',y⟩:=I.base.there b o e a;exact f b o' (w b o e a) y (I.base.free b o e n a)
 ·obtain ⟨o',y⟩:=I.base.there b o e a;exact C b o' (w b o e a) y
 ·obtain ⟨U,y⟩:=I.base.tbls b ps e;obtain ⟨m2,L⟩:=E b _ y;exact ⟨U++m2,by rw [L,Array.append_assoc]⟩
 ·obtain ⟨m,V,T⟩:=I.loc;refine ⟨m,ns m V,λi x v y L W=>?_⟩;obtain ⟨u,r,l⟩:=T i x v y L W;refine ⟨u,r,?_⟩;rcases l with l | ⟨k,c,e,z⟩
  ·exact .inl l
  ·exact .inr ⟨k,c,e,t x c e _ z⟩
 ·obtain ⟨v,z⟩:=I.cell x c e;exact ⟨v,t x c e v z⟩
 ·obtain ⟨m,⟨o,_,_,D,_⟩,_⟩:=I.loc;exact f _ o (λz=>(h _ z).2.1 rfl) D I.free
 ·obtain ⟨v,o,D,hd⟩:=I.cell x c e;exact f c o (λz=>(h c z).2.2.1 x c e rfl) D (I.freeC x c e)
 ·obtain ⟨e,n,R,Q,d⟩:=I.pin p S;have g:=λz=>(h p.1 z).2.2.2 p S rfl;exact ⟨j p.1 p.2 R Q g e n,f p.1 p.2 g e n,R,Q,d⟩
theorem Inv.un (I:Inv X pins σ H s) (u:Un X.fs [] H H' s.heap h') (c:HOk X.prog X.w H' h'):Inv X pins σ H' { s with heap:=h',toks:=t' }:=by
 obtain ⟨m,⟨o,es,k,g,r⟩,_⟩:=id I.loc;obtain ⟨l,j⟩:=u.any g I.free (by simp);exact I.step (ch:=[]) (λ_ z=>nomatch z) (λb o _ d _ e n=>u.keep b o e n d (by simp)) (λb o _ d _ e n=>u.slot b o e n d (by simp)) (λb o _ e n=>u.free b o e n (by simp)) (λb o _ e=>u.there b o e (by simp)) u.tups u.frzs u.tbls (λm' i=>by
  obtain ⟨o',es',f,a,h⟩:=i;rw [g] at a;cases a;exact ⟨_,es',f,j,h⟩) c I.bare
theorem Inv.call {d':Drawn} {ch:List Addr} (I:Inv X pins σ H s) (u:Un (frs X.stack) ch H H' s.heap h') (g:HOk X.prog X.w H' h') (q:AllBare g')
  (f:∀ b∈ch,(b∈X.ex\/X.s₀.heap.objs.size<=b)/\b≠X.env.locals/\(∀ x c,X.env.cells.lookup x=some c->c≠b)/\∀ p∈X.pn++pins,p.1≠b) :
  Inv X pins σ H' { s with heap:=h',gens:=g',drawn:=d',toks:=t' }:=by
 obtain ⟨m,⟨o,es,v,j,r⟩,_⟩:=id I.loc;obtain ⟨w,i⟩:=u.any j I.free λz=>(f _ z).2.1 rfl;exact I.step f (λb o i l a e n=>u.keep b o e n (λz=>(EU.mp (I.stkSub b z)).elim i l) a) (λb o _ _ a e n=>u.any e n a) (λb o a e n=>u.free b o e n a) (λb o a e=>u.there b o e a) u.tups u.frzs u.tbls (λm' t=>by
  obtain ⟨o',es',h,d,k⟩:=t;rw [j] at d;cases d;exact ⟨_,es',h,i,k⟩) g q
theorem Inv.turned {t':Nat} {it:Addr} (I:Inv X pins σ H s) (k:∀ b o,b≠it->s.heap.get? b=some o->h'.get? b=some o) (hn:H it=none) (hL:it≠X.env.locals)
  (h1:it∈X.ex\/X.s₀.heap.objs.size<=it) (h2:∀ x c,X.env.cells.lookup x=some c->c≠it) (h3:∀ p∈X.pn++pins,p.1≠it):Inv X pins σ H { s with heap:=h',toks:=t' }:=by
 have nit:∀ b u,H b=some u->b≠it:=λb u e z=>by rw [z,hn] at e;cases e
 refine I.step (g':=s.gens) (d':=s.drawn) (ch:=[it]) (λb hb=>?_) (λb o _ _ hc e _=>k b o (λz=>hc (by simp [z])) e) (λb o _ _ hc e _=>⟨o.slots,k b o (λz=>hc (by simp [z])) e⟩) (λ_ _ _ _ n=>n)
  (λb o hc e=>⟨o,k b o (λz=>hc (by simp [z])) e⟩) (λ_ _ e=>e) (λ_ _ _ e=>e) (λb ps e=>⟨#[],by rw [e];simp⟩) (λm hm=>?_) (λb u e=>?_) I.bare
 ·have e:b=it:=by simpa using hb
  subst e;exact ⟨h1,hL,h2,h3⟩
 ·obtain ⟨o,es,ep,ho,r⟩:=hm;exact ⟨o,es,ep,k _ o (Ne.symm hL) ho,r⟩
 ·refine (I.hok b u e).stay (λc v hc q=>k c v ?_ q) (λ_ q=>q) λ_ _ q=>q;rcases hc with z | z
  ·rw [z];exact nit b u e
  ·exact nit c _ z
theorem Inv.tok (I:Inv X pins σ H s) (t:Nat):Inv X pins σ H { s with toks:=t }:=I.un Un.refl I.hok
theorem Inv.kept (I:Inv X pins σ H s) (k:∀ b u,s.heap.get? b=some u->h'.get? b=some u):Inv X pins σ H { s with heap:=h',toks:=t' }:=I.un (Un.kept k) (I.hok.kept k)
theorem Inv.laid {a:Addr} {o:HO} {t':Nat} (I:Inv X pins σ H s) (k:∀ b u,s.heap.get? b=some u->h'.get? b=some u) (d:s.heap.objs.size<=a) (c:ObjOk X.prog X.w (upd H a o) h' a o) :
  Inv X pins σ (upd H a o) { s with heap:=h',toks:=t' }:=I.un (Un.laid k d (I.hok.fresh d)) (I.hok.laid k d c)
theorem Inv.write (I:Inv X pins σ H s) (f:Mut (H x)) (d:e=x\/H e=some (.own x)) (k:∀ b u,b≠e->s.heap.get? b=some u->h'.get? b=some u) (a:∃ u,h'.get? e=some u)
  (c:ObjOk X.prog X.w (upd H x o) h' x o):Inv X pins σ (upd H x o) { s with heap:=h',toks:=t' }:=I.un (Un.write f d k a) (I.hok.write f d k a c)
theorem Inv.weak (I:Inv X pins σ H s) (d:σ'.length=σ.length) (w:∀ (i:Nat) v,σ'[i]?=some (some v)->σ[i]?=some (some v)):Inv X pins σ' H s:=
 ⟨I.ok,I.os,I.bare,I.base,let ⟨m,b,a⟩:=I.loc;⟨m,b,λi x v e c f=>a i x v e (w i v c) f⟩,I.cell,I.free,I.freeC,I.pin,I.hok,d.trans I.len⟩
theorem Inv.pins_of (I:Inv X pins σ H s) (h:∀ p∈pins',s.heap.get? p.1=some p.2/\H p.1=none/\p.1≠X.env.locals/\p.1∉X.fs/\∀ v,p.2.data≠.cell v):Inv X pins' σ H s:=
 ⟨I.ok,I.os,I.bare,I.base,I.loc,I.cell,I.free,I.freeC,λp a=>(Ff.mp a).elim (λz=>I.pin p (List.mem_append_left _ z)) (h p),I.hok,I.len⟩
theorem aN {N:List Str} (e:N.Nodup) {i j:Nat} {x:Str} (a:N[i]?=some x) (b:N[j]?=some x):i=j:=by
 obtain ⟨f,d⟩:=Et.mp a;obtain ⟨g,c⟩:=Et.mp b;exact (List.getElem_inj e).mp (d.trans c.symm)
theorem bS {i:Nat} {x:Str} {v:V} {u:Value} {Q:Unit->Shared->Prop} (I:Inv X pins σ H s) (hN:X.N.Nodup) (O:X.N[i]?=some x) (t:Loc X.env.scope x) (r:RelV v u)
  (h:∀ s',Inv X pins (σ.set i (some v)) H s'->(∃ a,Heap.SameBut a s.heap s'.heap/\(a=X.env.locals\/X.env.cells.lookup x=some a))->Q () s') (hf:X.fn x=true\/X.env.scope.names.lookup x=some .local:=by first | exact .inl rfl | exact .inr rfl | assumption):wpAny M A (storeName X.env x u) Q E s:=by
 obtain ⟨m,Z,hl⟩:=id I.loc;have L:(X.env.scope.kind==.class||(X.env.scope.kind==.module&&X.env.locals != X.env.globals))=false:=by rw [I.ok.kind];rfl
 have B:i<σ.length:=by rw [I.len];exact (Et.mp O).1
 have C:=I.cne;have f:∀ {a:Addr} {h':Heap},(∃ o,s.heap.get? a=some o/\H a=none)->Heap.SameBut a s.heap h'->HOk X.prog X.w H h':=λ{a h'} ha hs b ob e=>by
  obtain ⟨_,_,hfree⟩:=ha;refine (I.hok b ob e).stay (λc w' l q=>(hs.2 c ?_).trans q) (λ_ q=>q) λ_ _ q=>q;rintro rfl;rcases l with rfl | l
  ·grind
  ·grind
 rcases t with hk | hk
 ·refine wpAny_storeName_local hk Z (λh' W hs=>?_) L;obtain ⟨oL,_,_,hoL,_⟩:=id Z;refine h _ ⟨I.ok,I.os,I.bare,⟨λb o e n D t=>?_,λb o e n D t=>?_,I.base.free,λb o e t=>?_,I.base.tups,I.base.frzs,I.base.tbls⟩,⟨_,W,λj y T g w e3=>?_⟩,λy c e=>?_,I.free,I.freeC,λp hp=>?_,f ⟨oL,hoL,I.free⟩ hs,by simpa using I.len⟩ ⟨_,hs,.inl rfl⟩
  ·exact (hs.2 b (EQ (EW (EK e) I.ok.above))).trans (I.base.keep b o e n D t)
  ·obtain ⟨sl,g⟩:=I.base.slot b o e n D t;exact ⟨sl,(hs.2 b (EQ (EW (EK e) I.ok.above))).trans g⟩
  ·obtain ⟨o',g⟩:=I.base.there b o e t;exact ⟨o',(hs.2 b (EQ (EW (EK e) I.ok.above))).trans g⟩
  ·by_cases F:j=i
   ·subst F;rw [O] at g;cases g;rw [Fg B] at w;cases w;exact ⟨u,r,.inl ⟨hk,by simp⟩⟩
   ·rw [ER (Ne.symm F)] at w;obtain ⟨Y,r',q⟩:=hl j y T g w e3;refine ⟨Y,r',?_⟩;rcases q with ⟨k,e⟩ | ⟨k,c,e,z⟩
    ·refine .inl ⟨k,?_⟩;have:y≠x:=λe=>F (aN hN g (e▸O));simp [this,e]
    ·exact .inr ⟨k,c,e,z.sameBut hs (C y c e)⟩
  ·obtain ⟨w',z⟩:=I.cell y c e;exact ⟨w',z.sameBut hs (C y c e)⟩
  ·obtain ⟨e,n,R,U,d⟩:=I.pin p hp;exact ⟨(hs.2 p.1 R).trans e,n,R,U,d⟩
 ·have G:X.fn x=true:=by
   rcases hf with z | z
   ·exact z
   ·rw [z] at hk;cases hk
  obtain ⟨c,l⟩:=I.ok.has x (.inl hk);obtain ⟨w',z⟩:=I.cell x c l;refine wpAny_storeName_cell I.ok.kind hk l z (λh' N hs=>?_);obtain ⟨oc,J,P⟩:=id z;refine h { s with heap:=h' } ⟨I.ok,I.os,I.bare,⟨λb o e n D t=>?_,λb o e n D t=>?_,I.base.free,λb o e t=>?_,I.base.tups,I.base.frzs,I.base.tbls⟩,⟨m,Z.sameBut hs (Ne.symm (C x c l)),λj y T g w e3=>?_⟩,λy S e=>?_,I.free,I.freeC,λp hp=>?_,f ⟨oc,J,I.freeC x c l⟩ hs,by simpa using I.len⟩ ⟨c,hs,.inr l⟩
  ·exact (hs.2 b (EQ (EW (EK e) (I.ok.cab x c G l)))).trans (I.base.keep b o e n D t)
  ·obtain ⟨sl,g⟩:=I.base.slot b o e n D t;exact ⟨sl,(hs.2 b (EQ (EW (EK e) (I.ok.cab x c G l)))).trans g⟩
  ·obtain ⟨o',g⟩:=I.base.there b o e t;exact ⟨o',(hs.2 b (EQ (EW (EK e) (I.ok.cab x c G l)))).trans g⟩
  ·by_cases F:j=i
   ·subst F;rw [O] at g;cases g;rw [Fg B] at w;cases w;exact ⟨u,r,.inr ⟨.inl hk,c,l,N⟩⟩
   ·rw [ER (Ne.symm F)] at w;obtain ⟨Y,r',q⟩:=hl j y T g w e3;refine ⟨Y,r',?_⟩;rcases q with q | ⟨k,S,e,z'⟩
    ·exact .inl q
    ·refine .inr ⟨k,S,e,z'.sameBut hs ?_⟩;rintro rfl;exact F (aN hN g (I.ok.inj _ _ _ e l▸O))
  ·by_cases K:S=c
   ·subst K;exact ⟨_,N⟩
   ·obtain ⟨w2,z2⟩:=I.cell y S e;exact ⟨w2,z2.sameBut hs K⟩
  ·obtain ⟨e,n,R,U,d⟩:=I.pin p hp;refine ⟨(hs.2 p.1 ?_).trans e,n,R,U,d⟩;intro q;rw [q,J] at e;have q':=Fc e;exact d w' (by rw [<- q'];exact P)
theorem G3 {i:Nat} {x:Str} {v:V} {u:Value} {Q:Unit->Shared->Prop} (I:Inv X pins σ H s) (e:X.N.Nodup) (c:X.N[i]?=some x) (a:Loc X.env.scope x) (r:RelV v u)
  (h:∀ s',Inv X pins (σ.set i (some v)) H s'->Q () s') (b:X.fn x=true\/X.env.scope.names.lookup x=some .local:=by first | exact .inl rfl | exact .inr rfl | assumption):wpAny M A (storeName X.env x u) Q E s:=
 bS I e c a r (λs' d _=>h s' d) b
theorem Inv.call' {ch:List Addr} (I:Inv X pins σ H s) (g:s'.os=s.os) (u:Un (frs X.stack) ch H H' s.heap s'.heap) (d:HOk X.prog X.w H' s'.heap) (f:AllBare s'.gens)
  (a:∀ b∈ch,(b∈X.ex\/X.s₀.heap.objs.size<=b)/\b≠X.env.locals/\(∀ x c,X.env.cells.lookup x=some c->c≠b)/\∀ p∈X.pn++pins,p.1≠b):Inv X pins σ H' s':=by
 obtain ⟨h',g',d',t',o'⟩:=s';have e:=g;subst e;exact I.call u d f a
end
abbrev XK:=Value->Option Addr->Hp->Prop
abbrev St:=List (Option V)
abbrev VK:=V->Hp->Prop
abbrev TE:=St->Hp->VK->Prop
abbrev TT:=St->Hp->(Bool->Hp->Prop)->Prop
abbrev TA:=St->Hp->(List V->Hp->Prop)->Prop
structure Ends where
 nx:St->Hp->Prop
 rt:VK
 bk:St->Hp->Prop:=λ_ _=>False
 ct:St->Hp->Prop:=λ_ _=>False
abbrev TS:=Ends->St->Hp->Prop
def EP (X:Cx) (pins:List (Addr×Obj)) (σ:St) (Q:VK) (u:Value) (s':Shared):Prop:=∃ v H',Inv X pins σ H' s'/\RelV v u/\Q v H'
def TP (X:Cx) (pins:List (Addr×Obj)) (σ:St) (Q:Bool->Hp->Prop) (b:Bool) (s':Shared):Prop:=∃ H',Inv X pins σ H' s'/\Q b H'
def AP (X:Cx) (pins:List (Addr×Obj)) (σ:St) (Q:List V->Hp->Prop) (us:List Value) (s':Shared):Prop:=∃ vs H',Inv X pins σ H' s'/\Vals vs us/\Q vs H'
def SP (X:Cx) (pins:List (Addr×Obj)) (D:Ends) (f:Flow) (s':Shared):Prop:=
 match f with
 | .next=>∃ a H',Inv X pins a H' s'/\D.nx a H'
 | .brk=>∃ a H',Inv X pins a H' s'/\D.bk a H'
 | .cont=>∃ a H',Inv X pins a H' s'/\D.ct a H'
 | .ret u=>∃ v a H',Inv X pins a H' s'/\RelV v u/\D.rt v H'
def PE (X:Cx) (e:Expr) (t:TE):Prop:=
 ∀ (pins:List (Addr×Obj)) (s:Shared) (σ:St) (H:Hp) (Q:VK),Inv X pins σ H s->t σ H Q->wpAny (model X.prog X.w) X.A (eval e X.env) (EP X pins σ Q) X.xe s
def PT (X:Cx) (e:Expr) (t:TT):Prop:=
 ∀ (pins:List (Addr×Obj)) (s:Shared) (σ:St) (H:Hp) (Q:Bool->Hp->Prop),Inv X pins σ H s->t σ H Q->wpAny (model X.prog X.w) X.A (isTrue e X.env (eval e X.env)) (TP X pins σ Q) X.xe s
def PW (X:Cx) (e:Expr) (t:TT):Prop:=
 ∀ (a:Sem Value) (pins:List (Addr×Obj)) (s:Shared) (σ:St) (H:Hp) (Q:Bool->Hp->Prop),Inv X pins σ H s->t σ H Q->wpAny (model X.prog X.w) X.A (isTrue e X.env a) (TP X pins σ Q) X.xe s
theorem PW.pt (h:PW X e t):PT X e t:=h _
def PA (X:Cx) (es:List Expr) (t:TA):Prop:=
 ∀ (pos:Pos) (pins:List (Addr×Obj)) (s:Shared) (σ:St) (H:Hp) (Q:List V->Hp->Prop),Inv X pins σ H s->t σ H Q->wpAny (model X.prog X.w) X.A (spliced (backTo pos (starEach es X.env))) (AP X pins σ Q) X.xe s
def PS (X:Cx) (st:Stmt) (t:TS):Prop:=
 ∀ (pins:List (Addr×Obj)) (s:Shared) (σ:St) (H:Hp) (D:Ends),Inv X pins σ H s->t D σ H->wpAny (model X.prog X.w) X.A (exec st X.env) (SP X pins D) X.xe s
def PSs (X:Cx) (st:List Stmt) (t:TS):Prop:=
 ∀ (pins:List (Addr×Obj)) (s:Shared) (σ:St) (H:Hp) (D:Ends),Inv X pins σ H s->t D σ H->wpAny (model X.prog X.w) X.A (execs st X.env) (SP X pins D) X.xe s
theorem thn {M:Model} {A:Around} {E:Value->Shared->Prop} {s:Shared} (h:wpAny M A t Q E s) (b:∀ a s,Q a s->Q' a s):wpAny M A t Q' E s:=Fo h b λ_ _ x=>x
section
variable {X:Cx}
def wH (i:Nat):TE:=λσ H Q=>∃ v,σ[i]?=some (some v)/\Q v H
def tC (v:V):TE:=λ_ H Q=>Q v H
theorem nA {pos:Pos} (o:X.N[i]?=some x) (p:Vis X.env.scope x) (hd:(x==("__debug__" : Str))=false:=by decide) (f:(x==("__classdict__" : Str))=false:=by decide):PE X (.Name x pos) (wH i):=by
 intro pins s σ H Q I h;obtain ⟨v,e,h⟩:=h;obtain ⟨m,j,k⟩:=I.loc;obtain ⟨u,r,l⟩:=k i x v o e p;have d:EP X pins σ Q u s:=⟨v,H,I,r,h⟩;rcases l with ⟨b,n⟩ | ⟨b,c,g,a⟩
 ·exact wpAny_Name (wpAny_loadName_local I.ok.kind b j n d) hd
 ·rcases b with b | b
  ·exact wpAny_Name (wpAny_loadName_cell I.ok.kind b g a d) hd
  ·exact wpAny_Name (wpAny_loadName_free I.ok.kind b g a d f) hd
theorem yt {i j pos}:PE X (.Constant (.int i) j pos) (tC (.int i)):=λ_ _ _ H _ I h=>wpAny_Constant_int ⟨.int i,H,I.tok _,⟨_,rfl⟩,h⟩
theorem AQ {b j pos}:PE X (.Constant (.bool b) j pos) (tC (.bl b)):=λ_ _ _ H _ I h=>Constant_bool ⟨.bl b,H,I,rfl,h⟩
theorem yg {j pos}:PE X (.Constant .none j pos) (tC .non):=λ_ _ _ H _ I h=>Constant_none ⟨.non,H,I,rfl,h⟩
theorem xE {x j pos}:PE X (.Constant (.str x) j pos) (tC (.str x)):=λ_ _ _ H _ I h=>Calls.Constant_str ⟨.str x,H,I.tok _,⟨_,rfl⟩,h⟩
def Gl (X:Cx) (x:Str):Prop:=X.env.kindOf x=some .globalImplicit
theorem D5 {pins:List (Addr×Obj)} {s:Shared} {σ:St} {H:Hp} {x:Str} {u:Value} {pos:Pos} {Q:Value->Shared->Prop} (I:Inv X pins σ H s) (a:Gl X x) (b:X.mg x=some u) (h:Q u s)
  (hd:(x==("__debug__" : Str))=false:=by decide):wpAny (model X.prog X.w) X.A (eval (.Name x pos) X.env) Q E s:=
 Hv I.ok.kind a (Calls.loadGlobal_global (by rw [I.ok.glob];exact I.mod.glob.keeps I.bk) b h) hd
theorem T0 {E:Value->Shared->Prop} {pins:List (Addr×Obj)} {s:Shared} {σ:St} {H:Hp} {x:Str} {u:Value} {pos:Pos} {Q:Value->Shared->Prop} (I:Inv X pins σ H s) (d:Gl X x) (e:X.mg x=none) (f:bootBuiltins x=some u) (h:Q u s)
  (a:x ≠ "__name__":=by decide) (hd:(x==("__debug__" : Str))=false:=by decide):wpAny (model X.prog X.w) X.A (eval (.Name x pos) X.env) Q E s:=by
 obtain ⟨g,b,c⟩:=I.mod.blt;exact Hv I.ok.kind d (Calls.loadGlobal_builtin (by rw [I.ok.glob];exact I.mod.glob.keeps I.bk) e (by rw [I.ok.blt];exact b.keeps I.bk) ((c x a).trans f) h) hd
theorem cT {u:Value} {pos:Pos} (a:Gl X x) (b:X.mg x=some u) (r:RelV v u) (hd:(x==("__debug__" : Str))=false:=by decide):PE X (.Name x pos) (tC v):=
 λ_ _ _ H _ I h=>D5 I a b ⟨v,H,I,r,h⟩ hd
theorem qM {u:Value} {pos:Pos} (c:Gl X x) (d:X.mg x=none) (b:bootBuiltins x=some u) (r:RelV v u) (a:x ≠ "__name__":=by decide) (hd:(x==("__debug__" : Str))=false:=by decide):PE X (.Name x pos) (tC v):=
 λ_ _ _ H _ I h=>T0 I c d b ⟨v,H,I,r,h⟩ a hd
variable {a b:Expr} {ta tb:TE} {pos:Pos}
variable {tA tB':TT} {rest:List Expr}
def DO (t u:TT):TT:=λσ H Q=>t σ H λc a=>if c=true then u σ a Q else Q false a
def tOr (t u:TT):TT:=λσ H Q=>t σ H λc a=>if c=true then Q true a else u σ a Q
def yh (t:TT):TT:=λσ H Q=>t σ H λc a=>Q (!c) a
theorem pw_and1 (b:PT X a tA):PW X (.BoolOp .And [a] pos) tA:=by
 intro d pins s σ H Q I h;refine isTrue_and (thn (b pins s σ H Q I h) λc f e=>?_);cases c with
 | true=>exact isTrue_and_nil e
 | false=>exact e
theorem pw_or1 (b:PT X a tA):PW X (.BoolOp .Or [a] pos) tA:=by
 intro d pins s σ H Q I h;refine isTrue_or (thn (b pins s σ H Q I h) λc f e=>?_);cases c with
 | false=>exact isTrue_or_nil e
 | true=>exact e
theorem pw_and (g:PT X a tA) (j:PW X (.BoolOp .And (b :: rest) pos) tB'):PW X (.BoolOp .And (a :: b :: rest) pos) (DO tA tB'):=by
 intro i pins s σ H Q I h;refine isTrue_and (thn (g pins s σ H _ I h) λc k ⟨e,d,f⟩=>?_);cases c with
 | true=>exact j i pins k σ e Q d f
 | false=>exact ⟨e,d,f⟩
theorem pw_or (g:PT X a tA) (j:PW X (.BoolOp .Or (b :: rest) pos) tB'):PW X (.BoolOp .Or (a :: b :: rest) pos) (tOr tA tB'):=by
 intro i pins s σ H Q I h;refine isTrue_or (thn (g pins s σ H _ I h) λc k ⟨e,d,f⟩=>?_);cases c with
 | true=>exact ⟨e,d,f⟩
 | false=>exact j i pins k σ e Q d f
theorem zD (d:PT X a tA):PT X (.UnaryOp .Not a pos) (yh tA):=by
 intro pins s σ H Q I h;exact isTrue_not (d pins s σ H (λc b=>Q (!c) b) I h)
theorem wA {op} {t:TE} (h:PE X a t):PE X (.BoolOp op [a] pos) t:=λpins s σ H Q I b=>BoolOp_one (h pins s σ H Q I b)
def tIf (t:TT) (b d:TE):TE:=λσ H Q=>t σ H λc a=>if c=true then b σ a Q else d σ a Q
theorem oJ (l:PT X c tA) (j:PE X a ta) (k:PE X b tb):PE X (.IfExp c a b pos) (tIf tA ta tb):=by
 intro pins s σ H Q I h;refine wpAny_IfExp (thn (l pins s σ H _ I h) λd g ⟨f,e,i⟩=>?_);cases d with
 | true=>exact j pins g σ f Q e i
 | false=>exact k pins g σ f Q e i
end
def SqL (K:PySem.W.Frag) (H:Hp) (a:Addr) (xs:List V):Prop:=
 Rd H a (.lst xs) \/
  ∃ (o:Obj) (b:Array Value) (n:Nat),K.lookup a=some o/\o.cls=.type "list"/\o.dict=none/\o.data=.seq b n/\b.size<=sizeLine/\Vals xs b.toList
def SqT (K:PySem.W.Frag) (H:Hp) (a:Addr) (xs:List V):Prop:=
 Rd H a (.tup xs) \/
  ∃ (o:Obj) (b:Array Value) (n:Nat),K.lookup a=some o/\o.cls=.type "tuple"/\o.data=.seq b n/\b.size<=sizeLine/\Vals xs b.toList
def Dr:Value->Option V
 | .none=>some .non
 | .bool b=>some (.bl b)
 | .int i _=>some (.int i)
 | .str x _=>some (.str x)
 | .bytes b _=>some (.byt b)
 | .float b _=>some (.flt b)
 | .ref a=>some (.ref a)
 | .type n=>some (.ty n)
 | _=>none
theorem RelV.abs (r:RelV x u):Dr u=some x:=by
 cases x with
 | non=>cases r;rfl
 | bl _=>cases r;rfl
 | int _=>obtain ⟨t,rfl⟩:=r;rfl
 | str _=>obtain ⟨t,rfl⟩:=r;rfl
 | byt _=>obtain ⟨t,rfl⟩:=r;rfl
 | flt _=>obtain ⟨t,rfl⟩:=r;rfl
 | ref _=>cases r;rfl
 | ty _=>cases r;rfl
theorem RelV.inj {u:Value} (r:RelV x u) (q:RelV y u):x=y:=Fc (r.abs.symm.trans q.abs)
theorem Vals.inj:∀ {xs ys:List V} {us:List Value},Vals xs us->Vals ys us->xs=ys
 | _,_,_,.nil,.nil=>rfl
 | _,_,_,.cons r t,.cons a t'=>by rw [r.inj a,Vals.inj t t']
section
variable {X:Cx} {pins:List (Addr×Obj)} {σ:St} {H:Hp} {s:Shared} {a:Addr} {xs ys:List V}
theorem Inv.list (I:Inv X pins σ H s) (h:SqL X.K H a xs):∃ b:List Value,Vals xs b/\PlainL s.heap a b.toArray/\xs.length<=sizeLine:=by
 rcases h with h | ⟨o,b,n,hk,hc,hd,hs,hz,r⟩
 ·obtain ⟨z,b,n,r,e⟩:=h.ok I.hok;exact ⟨b,r,⟨_,n,e,rfl,rfl,rfl⟩,z⟩
 ·refine ⟨b.toList,r,⟨o,n,I.kIn a o hk,hc,hd,by simpa using hs⟩,?_⟩;have e:=r.length;simp at e;omega
theorem Inv.tuple (I:Inv X pins σ H s) (h:SqT X.K H a xs):∃ b:List Value,Vals xs b/\IsTup s.heap a b.toArray/\xs.length<=sizeLine:=by
 rcases h with h | ⟨o,b,n,hk,hc,hs,hz,r⟩
 ·obtain ⟨z,b,r,p⟩:=h.ok I.hok;exact ⟨b,r,p.is,z⟩
 ·refine ⟨b.toList,r,⟨o,I.kIn a o hk,hc,n,by simpa using hs⟩,?_⟩;have e:=r.length;simp at e;omega
theorem Inv.list_inj (I:Inv X pins σ H s) (h:SqL X.K H a xs) (h':SqL X.K H a ys):xs=ys:=by
 obtain ⟨b,r,⟨o,n,e,_,_,d⟩,_⟩:=I.list h;obtain ⟨its',f,⟨o',g,c,_,_,d'⟩,_⟩:=I.list h';rw [e] at c;cases c;rw [d] at d';injection d' with d1 _;have:b=its':=by simpa using congrArg Array.toList d1
 subst this;exact r.inj f
theorem Inv.tuple_inj (I:Inv X pins σ H s) (h:SqT X.K H a xs) (h':SqT X.K H a ys):xs=ys:=by
 obtain ⟨b,r,⟨o,e,_,n,d⟩,_⟩:=I.tuple h;obtain ⟨its',f,⟨o',c,_,g,d'⟩,_⟩:=I.tuple h';rw [e] at c;cases c;rw [d] at d';injection d' with d1 _;have:b=its':=by simpa using congrArg Array.toList d1
 subst this;exact r.inj f
end
abbrev Cx.wish (X:Cx) (E:Value->Shared->Prop):Cx:={ X with xe:=E }
abbrev Cx.nox (X:Cx):Cx:=X.wish λ_ _=>False
theorem Cx.Ok.wish {X:Cx} (a:X.Ok) (E:Value->Shared->Prop):(X.wish E).Ok:=
 ⟨a.mod,a.kind,a.glob,a.blt,a.above,a.inj,a.has,a.cab,a.hd,a.frames,a.stk,a.exf,a.bs,a.bsz,a.noex,a.exfs,a.funs,a.frf⟩
theorem Cx.Ok.unwish {X:Cx} {E:Value->Shared->Prop} (a:(X.wish E).Ok):X.Ok:=
 ⟨a.mod,a.kind,a.glob,a.blt,a.above,a.inj,a.has,a.cab,a.hd,a.frames,a.stk,a.exf,a.bs,a.bsz,a.noex,a.exfs,a.funs,a.frf⟩
section
variable {X:Cx} {pins:List (Addr×Obj)} {σ:St} {H:Hp} {s:Shared} {E:Value->Shared->Prop}
theorem Inv.wish (I:Inv X pins σ H s) (E:Value->Shared->Prop):Inv (X.wish E) pins σ H s:=⟨I.ok.wish E,I.os,I.bare,I.base,I.loc,I.cell,I.free,I.freeC,I.pin,I.hok,I.len⟩
theorem Inv.unwish (I:Inv (X.wish E) pins σ H s):Inv X pins σ H s:=⟨I.ok.unwish,I.os,I.bare,I.base,I.loc,I.cell,I.free,I.freeC,I.pin,I.hok,I.len⟩
theorem SP.unwish (h:SP (X.wish E) pins D f s'):SP X pins D f s':=by
 cases f with
 | next=>obtain ⟨σ',H',I,q⟩:=h;exact ⟨σ',H',I.unwish,q⟩
 | brk=>obtain ⟨σ',H',I,q⟩:=h;exact ⟨σ',H',I.unwish,q⟩
 | cont=>obtain ⟨σ',H',I,q⟩:=h;exact ⟨σ',H',I.unwish,q⟩
 | ret u=>obtain ⟨v,σ',H',I,r,q⟩:=h;exact ⟨v,σ',H',I.unwish,r,q⟩
theorem PSs.nox {st:List Stmt} {t:TS} (h:PSs X.nox st t):PSs X st t:=λpins s σ H D I a=>
 Fo (h pins s σ H D (I.wish _) a) (λ_ _ q=>q.unwish) λ_ _ z=>False.elim z
end
section
variable {X:Cx} {st:Stmt} {rest:List Stmt} {t u:TS} {e:Expr} {te:TE} {pos:Pos}
def tNext:TS:=λD σ H=>D.nx σ H
def DA (t u:TS):TS:=λD σ H=>t { D with nx:=u D } σ H
theorem uQ:PSs X [] tNext:=λ_ _ σ H _ I h=>Gp ⟨σ,H,I,h⟩
theorem u4 (h1:PS X st t) (h2:PSs X rest u):PSs X (st :: rest) (DA t u):=by
 intro pins s σ H D I h;refine HJ (thn (h1 pins s σ H { D with nx:=u D } I h) λf s1 q=>?_);cases f with
 | next=>
  obtain ⟨σ',H',I',q⟩:=q;exact h2 pins s1 σ' H' D I' q
 | ret v=>exact q
 | brk=>exact q
 | cont=>exact q
theorem K4 (h1:PS X st t):PSs X [st] t:=by
 intro pins s σ H D I h;refine HJ (thn (h1 pins s σ H D I h) λf s1 q=>?_);cases f with
 | next=>exact Gp q
 | ret v=>exact q
 | brk=>exact q
 | cont=>exact q
theorem Inv.quiet {σ:St} {H:Hp} {s:Shared} (I:Inv X pins σ H s):interactive X.env=false:=by simp [interactive,I.ok.kind]
def Bh (te:TE):TS:=λD σ H=>te σ H λ_ a=>D.nx σ a
theorem E2 (a:PE X e te) (hs:swapsWith e none pos.line X.env=pure false:=by rfl):PS X (.Expr e pos) (Bh te):=by
 intro pins s σ H D I h;exact wpAny_Expr_any (thn (a pins s σ H _ I h) λv f ⟨x,c,b,g,d⟩=>⟨σ,c,b,d⟩) I.quiet hs
def Ck (te:TE):TS:=λD σ H=>te σ H D.rt
theorem xP (a:PE X e te):PS X (.Return (some e) pos) (Ck te):=by
 intro pins s σ H D I h;exact wpAny_Return_some (thn (a pins s σ H _ I h) λv g ⟨x,c,b,f,d⟩=>⟨x,σ,c,b,f,d⟩)
def Cn (c:TT) (t u:TS):TS:=λD σ H=>c σ H λb a=>if b=true then t D σ a else u D σ a
theorem ps_if {j:TT} (m:PT X c j) (k:PSs X a t) (l:PSs X b u):PS X (.If c a b pos) (Cn j t u):=by
 intro pins s σ H D I h;refine wpAny_If (thn (m pins s σ H _ I h) λd g ⟨f,e,i⟩=>?_);cases d with
 | true=>exact k pins g σ f D e i
 | false=>exact l pins g σ f D e i
def tNever:TS:=λ_ _ _=>False
theorem nC:PS X st tNever:=λ_ _ _ _ _ _ h=>h.elim
end
abbrev TG:=V->St->Hp->(St->Hp->Prop)->Prop
abbrev TGs:=List V->St->Hp->(St->Hp->Prop)->Prop
def PG (X:Cx) (a:Expr) (t:TG):Prop:=
 ∀ (pins:List (Addr×Obj)) (s:Shared) (σ:St) (H:Hp) (v:V) (u:Value) (Q:St->Hp->Prop),Inv X pins σ H s->RelV v u->t v σ H Q ->
  wpAny (model X.prog X.w) X.A (assign a X.env u) (λ_ s'=>∃ b H',Inv X pins b H' s'/\Q b H') X.xe s
def PGs (X:Cx) (b:List Expr) (t:TGs):Prop:=
 ∀ (pins:List (Addr×Obj)) (s:Shared) (σ:St) (H:Hp) (vs:List V) (us:List Value) (Q:St->Hp->Prop),Inv X pins σ H s->Vals vs us->t vs σ H Q ->
  wpAny (model X.prog X.w) X.A (assignInOrder ((assignEach b X.env).map (·.2)) us) (λ_ s'=>∃ a H',Inv X pins a H' s'/\Q a H') X.xe s
abbrev xN:=V->V->V->Hp->(Hp->Prop)->Prop
def qN (X:Cx) (t:xN):Prop:=
 ∀ (pins:List (Addr×Obj)) (s:Shared) (σ:St) (H:Hp) (o i v:V) (b a u:Value) (Q:Hp->Prop),Inv X pins σ H s->RelV o b->RelV i a->RelV v u->t o i v H Q ->
  wpAny (model X.prog X.w) X.A (setItem b a u) (λ_ s'=>∃ H',Inv X pins σ H' s'/\Q H') X.xe s
abbrev TIp:=V->V->Hp->VK->Prop
def PIp (X:Cx) (op:Operator) (t:TIp):Prop:=
 ∀ (pins:List (Addr×Obj)) (s:Shared) (σ:St) (H:Hp) (x y:V) (v u:Value) (Q:VK),Inv X pins σ H s->RelV x v->RelV y u->t x y H Q ->
  wpAny (model X.prog X.w) X.A (inplaceOp op v u) (EP X pins σ Q) X.xe s
section
variable {X:Cx} {pos:Pos}
def bM (i:Nat):TG:=λv σ H Q=>Q (σ.set i (some v)) H
theorem L1 (e:X.N.Nodup) (c:X.N[i]?=some x) (a:Loc X.env.scope x) (b:X.fn x=true\/X.env.scope.names.lookup x=some .local:=by first | exact .inl rfl | exact .inr rfl | assumption):PG X (.Name x pos) (bM i):=by
 intro pins s σ H v u Q I r h;exact wpAny_assign_Name (G3 I e c a r (λs' d=>⟨_,H,d,h⟩) b)
def gNil:TGs:=λvs σ H Q=>vs=[]/\Q σ H
def pW (t:TG) (u:TGs):TGs:=λvs σ H Q=>∃ v r,vs=v :: r/\t v σ H λa H'=>u r a H' Q
theorem ia:PGs X [] gNil:=by
 intro pins s σ H vs us Q I r h;obtain ⟨e,h⟩:=h;subst e;cases r;exact assignInOrder_nil ⟨σ,H,I,h⟩
theorem aF {t:TG} {u:TGs} (b:PG X e t) (g:PGs X es u)
  (hs:(assignEach (e :: es) X.env).map (·.2)=assign e X.env :: (assignEach es X.env).map (·.2):=by rfl):PGs X (e :: es) (pW t u):=by
 intro pins s σ H vs us Q I r h;obtain ⟨v,l,f,h⟩:=h;subst f;cases r with
 | cons r i=>
  rw [hs];refine assignInOrder_cons (thn (b pins s σ H _ _ _ I r h) λ_ j ⟨a,d,c,k⟩=>?_);exact g pins j a d _ _ Q c i k
def AD (K:PySem.W.Frag) (n:Nat) (t:TGs):TG:=λv σ H Q=>∃ a xs,v=.ref a/\SqT K H a xs/\xs.length=n/\t xs σ H Q
theorem nV {k:Nat} {t:TGs} {n:Nat} (x:X.calm=true) (h:PGs X es t)
  (i:(assignEach es X.env).length=n:=by rfl) (d:(assignEach es X.env).findIdx? (·.1)=none:=by rfl):PG X (.Tuple es k pos) (AD X.K n t):=by
 intro pins s σ H v u Q I r c;obtain ⟨a,xs,w,j,p,c⟩:=c;subst w;cases r;obtain ⟨q,f,l,hz⟩:=I.tuple j;refine assign_Tuple_tuple (I.ok.hd x) l (by simp [i,<- p,f.length]) d λh' g=>?_;have m:=I.kept (t':=s.toks) λb o e=>g b o (EQ (EK e)) e;exact h pins _ σ H xs _ Q m (by simpa using f) c
def DF (c d:TE) (t:xN):TG:=λv σ H Q=>c σ H λo b=>d σ b λi e=>t o i v e λa=>Q σ a
theorem mP {c d:TE} {t:xN} (w:PE X o c) (A:PE X i d) (hs:qN X t)
  (q:∀ v,assign (.Subscript o i pos) X.env v=(do
   let a <- holding [v] (eval o X.env)
   let b <- holding [v,a] (eval i X.env)
   standAt pos
   holding [v,a,b] (setItem a b v)
   release [v,a,b] []):=by intro _;rfl):PG X (.Subscript o i pos) (DF c d t):=by
 intro pins s σ H v u Q I r h;rw [q];refine Er (FT (thn (w pins s σ H _ I h) λa f ⟨x,l,g,p,n⟩=>?_));refine Er (FT (thn (A pins f σ l _ g n) λb C ⟨y,D,z,k,e⟩=>?_));refine Er (GJ (Er (FT (thn (hs pins C σ D x y v a b u _ z p k r e) λ_ E ⟨B,j,m⟩=>?_))));exact wpAny_release ⟨σ,B,j,m⟩
def tS (te:TE) (g:TG):TS:=λD σ H=>te σ H λx a=>g x σ a D.nx
theorem fT {tg e:Expr} {te:TE} {g:TG} (a:PE X e te) (f:PG X tg g) (hs:swapsWithSole [tg] e pos.line X.env=pure false:=by rfl) (l:swappedStores [tg] e X.env=pure none:=by rfl)
  (b:(assignEach [tg] X.env).map (·.2)=[assign tg X.env]:=by rfl):PS X (.Assign [tg] e pos) (tS te g):=by
 intro pins s σ H D I h;refine wpAny_Assign_stores (thn (a pins s σ H _ I h) λv i ⟨x,d,c,k,j⟩=>?_) hs l;rw [b];exact thn (f pins i σ d x v _ c k j) λ_ m q=>q
theorem kq (k:X.N.Nodup) (f:X.N[i]?=some x) (a:Loc X.env.scope x) (d:PE X e te) (hs:swapsWith e (some (.Name x pos')) pos.line X.env=pure false:=by rfl) (b:X.fn x=true\/X.env.scope.names.lookup x=some .local:=by first | exact .inl rfl | exact .inr rfl | assumption) :
  PS X (.Assign [.Name x pos'] e pos) (tS te (bM i)):=by
 intro pins s σ H D I h;refine wpAny_Assign_Name (thn (d pins s σ H _ I h) λv n ⟨y,j,g,m,l⟩=>?_) hs;exact G3 g k f a m (λo c=>⟨_,j,c,l⟩) b
def Cr (i:Nat) (te:TE) (b:TIp):TS:=λD σ H=>∃ x,σ[i]?=some (some x)/\te σ H λy c=>b x y c λz a=>D.nx (σ.set i (some z)) a
theorem yy (R:X.N.Nodup) (o:X.N[i]?=some x) (g:Loc X.env.scope x) (C:PE X e te) (O:PIp X op ti) (B:X.fn x=true\/X.env.scope.names.lookup x=some .local:=by first | exact .inl rfl | exact .inr rfl | assumption) :
  PS X (.AugAssign (.Name x pos') op e pos) (Cr i te ti):=by
 intro pins s σ H D I h;obtain ⟨v,Q,h⟩:=h;obtain ⟨m,G,p⟩:=I.loc;have j:Vis X.env.scope x:=by rcases g with k | k;exact .inl k;exact .inr (.inl k)
 obtain ⟨u,r,l⟩:=p i x v o Q j;refine wpAny_AugAssign_Name ?_;have n:wpAny (model X.prog X.w) X.A (eval e X.env) (λw f=>wpAny (model X.prog X.w) X.A (inplaceOp op u w) (λr d=>wpAny (model X.prog X.w) X.A (storeName X.env x r) (λ_=>SP X pins D .next) X.xe d) X.xe f) X.xe s:=by
  refine thn (C pins s σ H _ I h) λw t ⟨y,K,E,N,M⟩=>?_;refine thn (O pins t σ K v y u w _ E r N M) λz V ⟨T,S,P,J,q⟩=>?_;exact G3 P R o g J (λU F=>⟨_,S,F,q⟩) B
 rcases l with ⟨a,L⟩ | ⟨a,c,A,b⟩
 ·exact wpAny_loadName_local I.ok.kind a G L n
 ·rcases a with a | a
  ·exact wpAny_loadName_cell I.ok.kind a A b n
  ·rcases g with k | k
   ·have:X.env.scope.names.lookup x=some .free:=a;rw [k] at this;cases this
   ·have:X.env.scope.names.lookup x=some .free:=a;rw [k] at this;cases this
def ipI (f:Int->Int->Int):TIp:=λx y H Q=>∃ i j,x=.int i/\y=.int j/\Q (.int (f i j)) H
theorem yi:PIp X .Add (ipI λi j=>i+j):=by
 intro pins s σ H x y v u Q I c a h;obtain ⟨i,j,d,b,q⟩:=h;subst d;subst b;obtain ⟨t,rfl⟩:=c;obtain ⟨t',rfl⟩:=a;exact iadd_int ⟨.int _,H,I.tok _,⟨_,rfl⟩,q⟩
end
section
variable {X:Cx} {pos:Pos}
def wc (c:TT) (e:TS):TS:=λD σ H=>∃ W:Nat->St->Hp->Prop,(∃ m,W m σ H)/\∀ m σ H,W m σ H ->
 c σ H λb d=>if b=true then ∃ N:St->Hp->Prop,(∀ a H',N a H'->∃ m',m'<m/\W m' a H')/\e { D with nx:=N,ct:=N,bk:=D.nx } σ d else D.nx σ d
theorem nv {tc:TT} {tb:TS} (hp:PassesOwn (model X.prog X.w) X.A X.env X.xe) (hc:PT X c tc) (hb:PSs X body tb):PS X (.While c body [] pos) (wc tc tb):=by
 intro pins s σ H D I h;obtain ⟨W,⟨m0,w0⟩,turn⟩:=h;refine wpAny_While (codeAny_whileLoop (λn s'=>∃ σ' H',Inv X pins σ' H' s'/\W n σ' H') ?_ m0 ⟨σ,H,I,w0⟩);rintro n s1 ⟨σ1,H1,I1,w1⟩;refine Gd hp (thn (hc pins s1 σ1 H1 _ I1 (turn n σ1 H1 w1)) λb s2 ⟨H2,I2,q2⟩=>?_);cases b with
 | true=>
  obtain ⟨N,hN,q2⟩:=q2;rw [if_pos rfl];refine Gd hp (thn (hb pins s2 σ1 H2 _ I2 q2) λf s3 q3=>?_);cases f with
  | next=>
   obtain ⟨σ3,H3,I3,n3⟩:=q3;obtain ⟨m',hm,w3⟩:=hN σ3 H3 n3;exact ⟨m',hm,σ3,H3,I3,w3⟩
  | cont=>
   obtain ⟨σ3,H3,I3,n3⟩:=q3;obtain ⟨m',hm,w3⟩:=hN σ3 H3 n3;exact ⟨m',hm,σ3,H3,I3,w3⟩
  | brk=>exact q3
  | ret v=>exact q3
 | false=>
  rw [if_neg EH];exact Gp ⟨σ1,H2,I2,q2⟩
end
structure It where
 go:Nat->Hp->Prop
 yld:Nat->Hp->V->Hp->Prop
 stop:Nat->Hp->Prop
def J9 (X:Cx) (pins:List (Addr×Obj)) (H:Hp) (b:Addr):Prop:=
 H b=none/\b≠X.env.locals/\b∉X.fs/\(b∈X.ex\/X.s₀.heap.objs.size<=b)/\(∀ x c,X.env.cells.lookup x=some c->c≠b)/\∀ p∈X.pn++pins,p.1≠b
theorem Inv.fpOk {σ:St} {H H':Hp} {s:Shared} {b:Addr} (I:Inv X pins σ H s) (a:s.heap.objs.size<=b) (f:H' b=none):J9 X pins H' b:=by
 refine ⟨f,Nat.ne_of_gt (EW I.lt a),I.nofs a,.inr (Fk I.sz a),λx c e z=>?_,λp d z=>?_⟩
 ·obtain ⟨v,q⟩:=I.cell x c e;exact absurd (EW q.lt (by rw [z];exact a)) (GI _)
 ·exact absurd (EW (EK (I.pin p d).1) (by rw [z];exact a)) (GI _)
structure Turn (P:Program) (w:World) (K:PySem.W.Frag) (tg:Expr) (J:It) (fp:List Addr) (it:Addr) (tn:Nat->Heap->Prop):Prop where
 mem:it∈fp
 obj:∀ i h,tn i h->∀ b∈fp,∃ o,h.get? b=some o/\∀ v,o.data≠.cell v
 keep:∀ i h h',tn i h->(∀ b∈fp,∀ o,h.get? b=some o->h'.get? b=some o)->tn i h'
 item:∀ (X:Cx),X.prog=P->X.w=w->X.K=K->X.calm=true->∀ (i:Nat) (pins:List (Addr×Obj)) (s:Shared) (σ:St) (H:Hp) (E:Value->Shared->Prop),Inv X pins σ H s->(∀ b∈fp,J9 X pins H b)->tn i s.heap->J.go i H ->
  wpAny (model P w) X.A (pyNext (.ref it)) (λr s1=>∃ u,r=some u /\
   wpAny (model P w) X.A (letOwnedTupleGo tg (.ref it) u) (λ_ s2=>∃ x H',Inv X pins σ H' s2/\RelV x u/\J.yld i H x H'/\tn (i+1) s2.heap/\∀ b∈fp,H' b=none) E s1) E s
 done:∀ (X:Cx),X.prog=P->X.w=w->X.K=K->X.calm=true->∀ (i:Nat) (pins:List (Addr×Obj)) (s:Shared) (σ:St) (H:Hp) (E:Value->Shared->Prop),Inv X pins σ H s->(∀ b∈fp,J9 X pins H b)->tn i s.heap->J.stop i H ->
  wpAny (model P w) X.A (pyNext (.ref it)) (λr s1=>r=none/\Inv X pins σ H s1) E s
 self:∀ (A:Around) (i:Nat) (s:Shared) (Q:Value->Shared->Prop) (E:Value->Shared->Prop),tn i s.heap->Q (.ref it) s->wpAny (model P w) A (pyIter (.ref it)) Q E s
abbrev TI:=St->Hp->(It->Hp->Prop)->Prop
def PIE (X:Cx) (pins:List (Addr×Obj)) (σ:St) (tg:Expr) (R:It->Hp->Prop) (a:Value) (d:Shared):Prop:=
 ∃ (it:Addr) (c:List Addr) (tn:Nat->Heap->Prop) (J:It) (H':Hp),a=.ref it/\Inv X pins σ H' d/\Turn X.prog X.w X.K tg J c it tn/\tn 0 d.heap/\(∀ b∈c,J9 X pins H' b)/\R J H'
def PI (X:Cx) (tg a:Expr) (b:TI):Prop:=
 ∀ (pins:List (Addr×Obj)) (s:Shared) (σ:St) (H:Hp) (R:It->Hp->Prop),Inv X pins σ H s->b σ H R ->
  wpAny (model X.prog X.w) X.A (eval a X.env) (λv c=>wpAny (model X.prog X.w) X.A (pyIter v) (PIE X pins σ tg R) X.xe c) X.xe s
theorem lR {s:Shared} {tg:Expr} {it:Addr} {u:Value} {o:Obj} {n:String} {vs:Array Value} {Q:Unit->Shared->Prop} (c:s.heap.get? it=some o) (b:o.cls=.type n) (hd:o.data=.fields vs)
  (d:["enumerate","zip","dict_itemiterator","dict_reverseitemiterator","odict_iterator","itertools.zip_longest","itertools.pairwise"].contains n=false) (a:Q () s):wpAny M A (letOwnedTupleGo tg (.ref it) u) Q E s:=by
 cases tg <;> first
  | exact Eu a
  | (cases u <;> first
    | exact Eu a
    | (refine Er (wpAny_load c ?_);rw [b,hd];show wpAny M A (if (["enumerate","zip","dict_itemiterator","dict_reverseitemiterator","odict_iterator","itertools.zip_longest","itertools.pairwise"].contains n&&vs[0]?==some (rawInt _))=true then _ else _) Q E s;rw [if_neg (by intro h;rw [d,Bool.false_and] at h;cases h)];exact Eu a))
def Itl (K:PySem.W.Frag) (a:Addr):It:=
 ⟨λi H=>∃ xs x,SqL K H a xs/\xs[i]?=some x,λi H x H'=>H'=H/\∀ xs,SqL K H a xs->xs[i]?=some x,λi H=>∃ xs,SqL K H a xs/\xs.length<=i⟩
def Itt (K:PySem.W.Frag) (a:Addr):It:=
 ⟨λi H=>∃ xs x,SqT K H a xs/\xs[i]?=some x,λi H x H'=>H'=H/\∀ xs,SqT K H a xs->xs[i]?=some x,λi H=>∃ xs,SqT K H a xs/\xs.length<=i⟩
def Itr (lo:Int) (n:Nat):It:=⟨λi _=>i<n,λi H x H'=>H'=H/\x=.int (lo+i),λi _=>n<=i⟩
theorem kH {K:PySem.W.Frag} {tg:Expr} (a it:Addr):Turn P w K tg (Itl K a) [it] it (λi h=>h.IsListIter it a i) where
 mem:=by simp
 obj:=λi h st b f=>by
  have e:b=it:=by simpa using f
  subst e;obtain ⟨o,e,c,d⟩:=st;exact ⟨o,e,λv z=>by rw [d] at z;cases z⟩
 keep:=λi h h' st k=>st.at λo e=>k it (by simp) o e
 item:=by
  intro X G D A J i pins s σ H E I j st F;subst G D A;obtain ⟨xs,x,l,B⟩:=F;obtain ⟨n,C,p,hz⟩:=I.list l;obtain ⟨u,S,N⟩:=C.get B;obtain ⟨y,q,O,m,t,r⟩:=j it (by simp);refine wpAny_pyNext_list_item st p.isList (by simpa using S) λh' g R=>?_;have M:=I.turned (t':=s.toks) (λb o f e=>(R.2 b f).trans e) y q m t r;obtain ⟨o,e,c,d⟩:=id g;exact ⟨u,rfl,lR e c d (by decide) ⟨x,H,M,N,⟨rfl,λys Q=>by rw [I.list_inj Q l];exact B⟩,g,λb f=>(j b f).1⟩⟩
 done:=by
  intro X G D A J i pins s σ H E I j st F;subst G D A;obtain ⟨xs,l,B⟩:=F;obtain ⟨n,C,p,hz⟩:=I.list l;obtain ⟨y,q,O,m,t,r⟩:=j it (by simp);have T:=C.length;exact wpAny_pyNext_list_end (I.ok.hd J) st p.isList (by simp;omega) λh' L=>⟨rfl,I.turned (λb o f e=>L b o f e) y q m t r⟩
 self:=λ_ _ _ _ _ st h=>wpAny_pyIter_listiter st h
theorem fg {K:PySem.W.Frag} {tg:Expr} (a it:Addr):Turn P w K tg (Itt K a) [it] it (λi h=>h.IsTupleIter it a i) where
 mem:=by simp
 obj:=λi h st b f=>by
  have e:b=it:=by simpa using f
  subst e;obtain ⟨o,e,c,d⟩:=st;exact ⟨o,e,λv z=>by rw [d] at z;cases z⟩
 keep:=λi h h' st k=>st.at λo e=>k it (by simp) o e
 item:=by
  intro X G D A J i pins s σ H E I j st F;subst G D A;obtain ⟨xs,x,l,B⟩:=F;obtain ⟨n,C,p,hz⟩:=I.tuple l;obtain ⟨u,S,N⟩:=C.get B;obtain ⟨y,q,O,m,t,r⟩:=j it (by simp);refine wpAny_pyNext_tuple_item st (p) (by simpa using S) λh' g R=>?_;have M:=I.turned (t':=s.toks) (λb o f e=>(R.2 b f).trans e) y q m t r;obtain ⟨o,e,c,d⟩:=id g;exact ⟨u,rfl,lR e c d (by decide) ⟨x,H,M,N,⟨rfl,λys Q=>by rw [I.tuple_inj Q l];exact B⟩,g,λb f=>(j b f).1⟩⟩
 done:=by
  intro X G D A J i pins s σ H E I j st F;subst G D A;obtain ⟨xs,l,B⟩:=F;obtain ⟨n,C,p,hz⟩:=I.tuple l;obtain ⟨y,q,O,m,t,r⟩:=j it (by simp);have T:=C.length;exact wpAny_pyNext_tuple_end (I.ok.hd J) st (p) (by simp;omega) λh' L=>⟨rfl,I.turned (λb o f e=>L b o f e) y q m t r⟩
 self:=λ_ _ _ _ _ st h=>wpAny_pyIter_tupleiter st h
theorem gR {K:PySem.W.Frag} {tg:Expr} (it:Addr) (lo:Int) (n:Nat):Turn P w K tg (Itr lo n) [it] it (λi h=>IsRangeIter h it (lo+(i:Nat) * 1) ((n:Int)-(i:Nat)) 1) where
 mem:=by simp
 obj:=λi h st b a=>by
  have e:b=it:=by simpa using a
  subst e;exact ⟨_,st,λv z=>by
   have D:=z;cases D⟩
 keep:=λi h h' st k=>k it (by simp) _ st
 item:=by
  intro X x r q g i pins s σ H E I d st u;subst x r q;obtain ⟨p,j,C,f,m,l⟩:=d it (by simp);have W:=Walks.range (prog:=X.prog) (w:=X.w) (I.ok.hd g) it lo 1 n;refine W.item i s _ _ u st λv h' G A c F=>?_;obtain ⟨t,rfl⟩:=A;have B:Inv X pins σ H { s with heap:=h',toks:=G }:=I.turned (λb o a e=>F b o (by simpa using a) e) p j f m l;refine ⟨_,rfl,lR c rfl rfl (by decide) ⟨.int (lo+i),H,B,⟨t,?_⟩,⟨rfl,rfl⟩,c,λb a=>(d b a).1⟩⟩;rw [Int.mul_one]
 done:=by
  intro X x r q g i pins s σ H E I d st u;subst x r q;obtain ⟨p,j,C,f,m,l⟩:=d it (by simp);exact wpAny_pyNext_range_end (I.ok.hd g) st (by have:n<=i:=u;omega) λh' y=>⟨rfl,I.turned (λb o a e=>y b o a e) p j f m l⟩
 self:=λ_ _ _ _ _ st h=>wpAny_pyIter_rangeiter st h
section
variable {X:Cx} {tg:Expr}
theorem ol {σ:St} {H:Hp} {s:Shared} {R:It->Hp->Prop} {E:Value->Shared->Prop} {lo a:Int} {t u v:Tok} {d:Nat} (I:Inv X pins σ H s) (f:-(2 ^ 62)<=lo) (j:lo<2 ^ 62) (l:-(2 ^ 62)<=a) (h:a<2 ^ 62)
  (q:R (Itr lo (a-lo).toNat) H):wpAny (model X.prog X.w) X.A (pyIter (.ref s.heap.objs.size)) (PIE X pins σ tg R) E { s with heap:=s.heap.push { cls:=.type "range",data:=.fields #[.int lo t,.int a u,.int 1 v] },toks:=d }:=by
 refine wpAny_pyIter_range (IsRange.new ..) (small_one f j l h) ?_;have c:Inv X pins σ H { s with heap:=s.heap.push { cls:=.type "range",data:=.fields #[.int lo t,.int a u,.int 1 v] },toks:=d }:=I.kept λb o e=>Ew _ e;refine ⟨(s.heap.push { cls:=.type "range",data:=.fields #[.int lo t,.int a u,.int 1 v] }).objs.size,[(s.heap.push { cls:=.type "range",data:=.fields #[.int lo t,.int a u,.int 1 v] }).objs.size],_,_,H,rfl,
  c.kept λb o e=>Ew _ e,gR _ lo (a-lo).toNat,?_,λb k=>?_,q⟩
 ·have i:lo+((0:Nat):Int) * 1=lo:=by simp
  have g:(((a-lo).toNat:Nat):Int)-((0:Nat):Int)=Builtin.Range.rangeSize lo a 1:=by rw [rangeSize_one];split <;> omega
  rw [i,g];exact ET _ rfl
 ·have e:b=(s.heap.push { cls:=.type "range",data:=.fields #[.int lo t,.int a u,.int 1 v] }).objs.size:=by simpa using k
  subst e;exact c.fpOk (EI _) (c.hok.fresh (EI _))
def CN (a:TA):TI:=λσ H R=>a σ H λvs b=>∃ j:Int,vs=[.int j]/\-(2 ^ 62)<=j/\j<2 ^ 62/\R (Itr 0 j.toNat) b
theorem kD (f:Gl X "range") (k:X.mg "range" = none) (c:PA X [a] ta) (hs:starEach [a] X.env=[(false,eval a X.env)]:=by rfl):PI X tg (.Call (.Name "range" p) [a] [] pos) (CN ta):=by
 intro pins s σ H R I h;refine Call_ (T0 I f k boot_range (Gs (thn (c pos pins s σ H _ I h) λus m ⟨vs,n,d,l,b⟩=>?_) hs rfl));obtain ⟨j,e,b,g,q⟩:=b;subst e;cases l with
 | cons r i=>
  cases i;obtain ⟨t,rfl⟩:=r;exact call_range_1 (ol d (by omega) (by omega) b g (by simpa using q))
def Dp (f:TI) (g:TG) (c:TS):TS:=λD σ H=>f σ H λJ d=>∃ W:Nat->Nat->St->Hp->Prop,(∃ m,W 0 m σ d)/\∀ i m σ H,W i m σ H ->
 (J.stop i H/\D.nx σ H)\/(J.go i H/\∃ N:St->Hp->Prop,(∀ a H',N a H'->∃ m',m'<m/\W (i+1) m' a H')/\∀ x H',J.yld i H x H'->g x σ H' λb e=>c { D with nx:=N,ct:=N,bk:=D.nx } b e)
def B3 (a:List Addr) (h:Heap):List (Addr×Obj):=a.filterMap λb=>(h.get? b).map λo=>(b,o)
theorem l9 {b:Addr} {o:Obj} (a:b∈fp) (e:h.get? b=some o):(b,o)∈B3 fp h:=List.mem_filterMap.mpr ⟨b,a,by rw [e];rfl⟩
theorem jW (a:p∈B3 fp h):p.1∈fp/\h.get? p.1=some p.2:=by
 obtain ⟨b,c,e⟩:=List.mem_filterMap.mp a;cases q:h.get? b with
 | none=>rw [q] at e;cases e
 | some o=>
  rw [q] at e;have d:=Fc e;subst d;exact ⟨c,q⟩
theorem Inv.pinned {σ:St} {H:Hp} {s:Shared} {a:List Addr} (I:Inv X pins σ H s) (i:∀ b∈a,J9 X pins H b) (k:∀ b∈a,∃ o,s.heap.get? b=some o/\∀ v,o.data≠.cell v):Inv X (pins++B3 a s.heap) σ H s:=
 I.pins_of λp j=>(Ff.mp j).elim (λz=>I.pin p (ES _ z)) λz=>by
  obtain ⟨c,e⟩:=jW z;obtain ⟨h,l,g,_⟩:=i p.1 c;obtain ⟨o,f,d⟩:=k p.1 c;rw [e] at f;cases f;exact ⟨e,h,l,g,d⟩
theorem Inv.unpinned {σ:St} {H:Hp} {s:Shared} (I:Inv X (pins++pl) σ H s):Inv X pins σ H s:=I.pins_of λp a=>I.pin p (ES _ (List.mem_append_left _ a))
theorem xm {wi:TI} {g:TG} {tb:TS} {pos:Pos} (hp:PassesOwn (model X.prog X.w) X.A X.env X.xe) (hc:X.calm=true) (hi:PI X tg iter wi) (hg:PG X tg g) (hb:PSs X body tb)
  (hs:∀ x,foldedSetIterable iter X.env x=pure x:=by intro _;rfl):PS X (.For tg iter body [] pos) (Dp wi g tb):=by
 intro pins s σ H D I h;refine wpAny_For (thn (hi pins s σ H _ I h) λv s1 h1=>thn h1 λitv s2 h2=>?_) hs;obtain ⟨it,fp,tn,J,H2,e,I2,T,st2,f2,W,⟨m0,w0⟩,turn⟩:=h2;subst e;have stat:∀ {H':Hp},(∀ b∈fp,H' b=none)->∀ b∈fp,J9 X pins H' b:=λhn b hb=>⟨hn b hb,(f2 b hb).2⟩;refine codeAny_forLoop_any (λn s'=>∃ i σ' H',Inv X pins σ' H' s'/\tn i s'.heap/\(∀ b∈fp,H' b=none)/\W i n σ' H') ?_ m0 ⟨0,σ,H2,I2,st2,λb hb=>(f2 b hb).1,w0⟩;rintro n s3 ⟨i,σ3,H3,I3,st3,fr3,w3⟩;rcases turn i n σ3 H3 w3 with ⟨stop,qn⟩ | ⟨go,N,hN,step⟩
 ·refine Gd hp (thn (T.done X rfl rfl rfl hc i pins s3 σ3 H3 X.xe I3 (stat fr3) st3 stop) λr s4 ⟨hr,I4⟩=>?_);subst hr;exact Gp ⟨σ3,H3,I4,qn⟩
 ·refine Gd hp (thn (T.item X rfl rfl rfl hc i pins s3 σ3 H3 X.xe I3 (stat fr3) st3 go) λr s4 ⟨u,hr,h4⟩=>?_);subst hr;refine Gd hp (thn h4 λ_ s5 ⟨x,H5,I5,r5,y5,st5,fr5⟩=>?_);have I5':=I5.pinned (stat fr5) (T.obj _ _ st5);refine Gd hp (thn (hg _ s5 σ3 H5 x u _ I5' r5 (step x H5 y5)) λ_ s6 ⟨σ6,H6,I6,q6⟩=>?_);refine Gd hp (thn (hb _ s6 σ6 H6 _ I6 q6) λf s7 q7=>?_);have again:∀ {σ7:St} {H7:Hp},Inv X (pins++B3 fp s5.heap) σ7 H7 s7->N σ7 H7->∃ m,m<n/\∃ i σ' H',Inv X pins σ' H' s7/\tn i s7.heap/\(∀ b∈fp,H' b=none)/\W i m σ' H':=λ{σ7 H7} I7 n7=>by
   obtain ⟨m',hm,w7⟩:=hN σ7 H7 n7;refine ⟨m',hm,i+1,σ7,H7,I7.unpinned,T.keep _ _ _ st5 λb hb o e=>(I7.pin (b,o) (ES _ (ES _ (l9 hb e)))).1,λb hb=>?_,w7⟩;obtain ⟨o,e,d⟩:=T.obj _ _ st5 b hb;exact (I7.pin (b,o) (ES _ (ES _ (l9 hb e)))).2.1
  cases f with
  | next=>obtain ⟨σ7,H7,I7,n7⟩:=q7;exact again I7 n7
  | cont=>obtain ⟨σ7,H7,I7,n7⟩:=q7;exact again I7 n7
  | brk=>obtain ⟨σ7,H7,I7,q7⟩:=q7;exact ⟨σ7,H7,I7.unpinned,q7⟩
  | ret v=>obtain ⟨x7,σ7,H7,I7,r7,q7⟩:=q7;exact ⟨x7,σ7,H7,I7.unpinned,r7,q7⟩
end
abbrev R2:=V->V->Hp->VK->Prop
def OpR (X:Cx) (f:Value->Value->Sem Value) (r:R2):Prop:=
 ∀ (pins:List (Addr×Obj)) (s:Shared) (σ:St) (H:Hp) (x y:V) (v u:Value) (Q:VK),Inv X pins σ H s->RelV x v->RelV y u->r x y H Q ->
  wpAny (model X.prog X.w) X.A (f v u) (EP X pins σ Q) X.xe s
def UnR (X:Cx) (f:Value->Sem Value) (r:V->Hp->VK->Prop):Prop:=
 ∀ (pins:List (Addr×Obj)) (s:Shared) (σ:St) (H:Hp) (x:V) (v:Value) (Q:VK),Inv X pins σ H s->RelV x v->r x H Q ->
  wpAny (model X.prog X.w) X.A (f v) (EP X pins σ Q) X.xe s
def j8 (X:Cx) (f:Value) (r:List V->Hp->VK->Prop):Prop:=
 ∀ (pins:List (Addr×Obj)) (s:Shared) (σ:St) (H:Hp) (xs:List V) (us:List Value) (Q:VK),Inv X pins σ H s->Vals xs us->r xs H Q ->
  wpAny (model X.prog X.w) X.A (call f us) (EP X pins σ Q) X.xe s
def Dj (X:Cx) (r:V->Hp->(Bool->Hp->Prop)->Prop):Prop:=
 ∀ (pins:List (Addr×Obj)) (s:Shared) (σ:St) (H:Hp) (x:V) (v:Value) (Q:Bool->Hp->Prop),Inv X pins σ H s->RelV x v->r x H Q ->
  wpAny (model X.prog X.w) X.A (truthy v) (TP X pins σ Q) X.xe s
def tOp (r:R2) (a b:TE):TE:=λσ H Q=>a σ H λx d=>b σ d λy c=>r x y c Q
def tUn (r:V->Hp->VK->Prop) (a:TE):TE:=λσ H Q=>a σ H λx b=>r x b Q
def rI (C:Int->Int->Prop) (g:Int->Int->V):R2:=λx y H Q=>∃ i j,x=.int i/\y=.int j/\C i j/\Q (g i j) H
def rI0 (g:Int->Int->V):R2:=λx y H Q=>∃ i j,x=.int i/\y=.int j/\Q (g i j) H
def rU (g:Int->V):V->Hp->VK->Prop:=λx H Q=>∃ i,x=.int i/\Q (g i) H
section
variable {X:Cx} {a b c:Expr} {ta tb tc:TE} {pos:Pos}
theorem yb (j:PE X a ta) (l:PE X b tb) {pins:List (Addr×Obj)} {s:Shared} {σ:St} {H:Hp} {R:V->V->Hp->Prop} (I:Inv X pins σ H s)
  (h:ta σ H λx g=>tb σ g λy d=>R x y d) {Q:Value->Shared->Prop} {f:Value->Value->Sem Value}
  (o:∀ v u i x y d,Inv X pins σ d i->RelV x v->RelV y u->R x y d->wpAny (model X.prog X.w) X.A (f v u) Q X.xe i) :
  wpAny (model X.prog X.w) X.A (eval a X.env) (λv c=>wpAny (model X.prog X.w) X.A (eval b X.env) (λu e=>wpAny (model X.prog X.w) X.A (f v u) Q X.xe e) X.xe c) X.xe s:=by
 refine thn (j pins s σ H _ I h) λv m ⟨x,g,k,t,n⟩=>?_;refine thn (l pins m σ g _ k n) λu i ⟨y,d,q,p,r⟩=>?_;grind
theorem Bo (d:OpR X (binaryOp op) r) (c:PE X a ta) (g:PE X b tb):PE X (.BinOp a op b pos) (tOp r ta tb):=by
 intro pins s σ H Q I h;exact wpAny_BinOp (yb c g I h λv u j x y k e i f q=>d pins j σ k x y v u Q e i f q)
theorem Ap (c:UnR X (unaryOp op) r) (b:PE X a ta):PE X (.UnaryOp op a pos) (tUn r ta):=by
 intro pins s σ H Q I h;exact UnaryOp_ (thn (b pins s σ H _ I h) λv f ⟨x,e,d,i,g⟩=>c pins f σ e x v Q d i g)
theorem opI {C:Int->Int->Prop} {g:Int->Int->Int}
  (a:∀ (i j:Int) (t u:Tok) (s:Shared) (Q:Value->Shared->Prop) (E:Value->Shared->Prop),C i j->Q (.int (g i j) s.toks) { s with toks:=s.toks+1 }->wpAny (model X.prog X.w) X.A (f (.int i t) (.int j u)) Q E s) :
  OpR X f (rI C λi j=>.int (g i j)):=by
 intro pins s σ H x y v u Q I d c h;obtain ⟨i,j,rfl,rfl,b,q⟩:=h;obtain ⟨t,rfl⟩:=d;obtain ⟨t',rfl⟩:=c;exact a i j t t' s _ _ b ⟨.int (g i j),H,I.tok _,⟨_,rfl⟩,q⟩
theorem AE {g:Int->Int->Int}
  (a:∀ (i j:Int) (t u:Tok) (s:Shared) (Q:Value->Shared->Prop) (E:Value->Shared->Prop),Q (.int (g i j) s.toks) { s with toks:=s.toks+1 }->wpAny (model X.prog X.w) X.A (f (.int i t) (.int j u)) Q E s) :
  OpR X f (rI0 λi j=>.int (g i j)):=by
 intro pins s σ H x y v u Q I c b h;obtain ⟨i,j,rfl,rfl,q⟩:=h;obtain ⟨t,rfl⟩:=c;obtain ⟨t',rfl⟩:=b;exact a i j t t' s _ _ ⟨.int (g i j),H,I.tok _,⟨_,rfl⟩,q⟩
theorem rK {g:Int->Int->Bool}
  (a:∀ (i j:Int) (t u:Tok) (s:Shared) (Q:Value->Shared->Prop) (E:Value->Shared->Prop),Q (.bool (g i j)) s->wpAny (model X.prog X.w) X.A (f (.int i t) (.int j u)) Q E s) :
  OpR X f (rI0 λi j=>.bl (g i j)):=by
 intro pins s σ H x y v u Q I c b h;obtain ⟨i,j,rfl,rfl,q⟩:=h;obtain ⟨t,rfl⟩:=c;obtain ⟨t',rfl⟩:=b;exact a i j t t' s _ _ ⟨.bl (g i j),H,I,rfl,q⟩
def mj (i j:Int):Prop:=0<j/\j<1073741824
def uL (i j:Int):Prop:=0<=j/\j<=1000000/\i.natAbs<2 ^ 64
def CMul (i j:Int):Prop:=(-(2 ^ 64)<i/\i<2 ^ 64)\/(-(2 ^ 64)<j/\j<2 ^ 64)
theorem CMul.ok (h:CMul i j):IntMulOk i j:=by
 rcases h with ⟨b,a⟩ | ⟨b,a⟩
 ·exact .of_left (intBits_le_64 b a)
 ·exact .of_right (intBits_le_64 b a)
theorem xV:OpR X (binaryOp .Add) (rI0 λi j=>.int (i+j)):=AE λ_ _ _ _ _ _ _ q=>add_int q
theorem wQ:OpR X (binaryOp .Sub) (rI0 λi j=>.int (i-j)):=AE λ_ _ _ _ _ _ _ q=>sub_int q
theorem xt:OpR X (binaryOp .Mult) (rI CMul λi j=>.int (i * j)):=opI λ_ _ _ _ _ _ _ a q=>mul_int q a.ok
theorem uG:OpR X (binaryOp .FloorDiv) (rI mj λi j=>.int (i / j)):=opI λi j _ _ _ _ _ a q=>by
 have c:=a.1;have b:=a.2;exact floordiv_int (by omega) (by rw [Int.fdiv_eq_ediv_of_nonneg i (by omega)];exact q) (.inl (PyProof.noPylong_small (by omega)))
theorem yc:OpR X (binaryOp .Mod) (rI (λ_ j=>0<j) λi j=>.int (i % j)):=opI λi j _ _ _ _ _ a q=>by
 have b:=a;exact mod_int' (by omega) (by rw [Int.fmod_eq_emod_of_nonneg i (by omega)];exact q)
theorem xz:OpR X (binaryOp .Pow) (rI uL λi j=>.int (i ^ j.toNat)):=opI λ_ _ _ _ _ _ _ a q=>pow_int_small a.1 a.2.1 a.2.2 q
theorem unI {g:Int->Int}
  (a:∀ (i:Int) (t:Tok) (s:Shared) (Q:Value->Shared->Prop) (E:Value->Shared->Prop),Q (.int (g i) s.toks) { s with toks:=s.toks+1 }->wpAny (model X.prog X.w) X.A (f (.int i t)) Q E s) :
  UnR X f (rU λi=>.int (g i)):=by
 intro pins s σ H x v Q I b h;obtain ⟨i,rfl,q⟩:=h;obtain ⟨t,rfl⟩:=b;exact a i t s _ _ ⟨.int (g i),H,I.tok _,⟨_,rfl⟩,q⟩
theorem yN:UnR X (unaryOp .USub) (rU λi=>.int (-i)):=unI λ_ _ _ _ _ q=>neg_int q
end
def zz:V->V->Bool
 | .non,.non=>true | .non,.int _=>true | .int _,.non=>true | .non,.bl _=>true | .bl _,.non=>true | .non,.str _=>true | .str _,.non=>true
 | .int _,.int _=>true | .bl _,.bl _=>true | .str _,.str _=>true | .byt _,.byt _=>true
 | .int _,.str _=>true | .str _,.int _=>true | .bl _,.str _=>true | .str _,.bl _=>true
 | _,_=>false
def rEq:R2:=λx y H Q=>zz x y=true/\Q (.bl (decide (x=y))) H
def rNe:R2:=λx y H Q=>zz x y=true/\Q (.bl (!decide (x=y))) H
theorem iK {i j:Int}:decide (V.int i=V.int j)=(i==j):=by grind
theorem pD {i j:Bool}:decide (V.bl i=V.bl j)=(i==j):=by grind
theorem gr {i j:Str}:decide (V.str i=V.str j)=(i==j):=by grind
theorem hD:decide (V.byt i=V.byt j)=(i.toList==j.toList):=by
 rw [GO];simp_all
section
variable {X:Cx} {a b c:Expr} {ta tb tc:TE} {pos:Pos}
theorem e8 {σ:St} {H:Hp} {s:Shared} {Q:VK} {k a:Bool} (I:Inv X pins σ H s) (q:Q (.bl k) H) (e:k=a):EP X pins σ Q (.bool a) s:=by
 subst e;exact ⟨.bl k,H,I,rfl,q⟩
theorem zX:OpR X (compareOp .Eq) rEq:=by
 intro pins s σ H x y v u Q I rx ry h;obtain ⟨hs,q⟩:=h;cases x with
 | non=>
  cases rx;cases y with
  | non=>cases ry;exact PySem.EqNone.eq_none_none (e8 I q (by simp))
  | bl j=>cases ry;exact PySem.EqNone.eq_none_bool (e8 I q (by simp))
  | int j=>obtain ⟨t',rfl⟩:=ry;exact PySem.EqNone.eq_none_int (e8 I q (by simp))
  | str j=>obtain ⟨t',rfl⟩:=ry;exact PySem.EqNone.eq_none_str (e8 I q (by simp))
  | _=>exact absurd (hs) EH
 | bl i=>
  cases rx;cases y with
  | non=>cases ry;exact PySem.EqNone.eq_bool_none (e8 I q (by simp))
  | bl j=>cases ry;exact eq_bool (e8 I q pD)
  | str j=>obtain ⟨t',rfl⟩:=ry;exact PySem.EqMixed.eq_bool_str (e8 I q (by simp))
  | _=>exact absurd (hs) EH
 | int i=>
  obtain ⟨t,rfl⟩:=rx;cases y with
  | non=>cases ry;exact PySem.EqNone.eq_int_none (e8 I q (by simp))
  | int j=>obtain ⟨t',rfl⟩:=ry;exact eq_int (e8 I q iK)
  | str j=>obtain ⟨t',rfl⟩:=ry;exact PySem.EqMixed.eq_int_str (e8 I q (by simp))
  | _=>exact absurd (hs) EH
 | str i=>
  obtain ⟨t,rfl⟩:=rx;cases y with
  | non=>cases ry;exact PySem.EqNone.eq_str_none (e8 I q (by simp))
  | bl j=>cases ry;exact PySem.EqMixed.eq_str_bool (e8 I q (by simp))
  | int j=>obtain ⟨t',rfl⟩:=ry;exact PySem.EqMixed.eq_str_int (e8 I q (by simp))
  | str j=>obtain ⟨t',rfl⟩:=ry;exact eq_str (e8 I q gr)
  | _=>exact absurd (hs) EH
 | byt i=>
  obtain ⟨t,rfl⟩:=rx;cases y with
  | byt j=>obtain ⟨t',rfl⟩:=ry;exact PySem.W.eq_bytes (e8 I q hD)
  | _=>exact absurd (hs) EH
 | _=>cases y <;> exact absurd (hs) EH
theorem CJ:OpR X (compareOp .NotEq) rNe:=by
 intro pins s σ H x y v u Q I rx ry h;obtain ⟨hs,q⟩:=h;cases x with
 | non=>
  cases rx;cases y with
  | non=>cases ry;exact PySem.EqNone.ne_none_none (e8 I q (by simp))
  | bl j=>cases ry;exact PySem.EqNone.ne_none_bool (e8 I q (by simp))
  | int j=>obtain ⟨t',rfl⟩:=ry;exact PySem.EqNone.ne_none_int (e8 I q (by simp))
  | str j=>obtain ⟨t',rfl⟩:=ry;exact PySem.EqNone.ne_none_str (e8 I q (by simp))
  | _=>exact absurd (hs) EH
 | bl i=>
  cases rx;cases y with
  | non=>cases ry;exact PySem.EqNone.ne_bool_none (e8 I q (by simp))
  | bl j=>cases ry;exact ne_bool (e8 I q (congrArg not pD))
  | str j=>obtain ⟨t',rfl⟩:=ry;exact PySem.EqMixed.ne_bool_str (e8 I q (by simp))
  | _=>exact absurd (hs) EH
 | int i=>
  obtain ⟨t,rfl⟩:=rx;cases y with
  | non=>cases ry;exact PySem.EqNone.ne_int_none (e8 I q (by simp))
  | int j=>obtain ⟨t',rfl⟩:=ry;exact ne_int (e8 I q (congrArg not iK))
  | str j=>obtain ⟨t',rfl⟩:=ry;exact PySem.EqMixed.ne_int_str (e8 I q (by simp))
  | _=>exact absurd (hs) EH
 | str i=>
  obtain ⟨t,rfl⟩:=rx;cases y with
  | non=>cases ry;exact PySem.EqNone.ne_str_none (e8 I q (by simp))
  | bl j=>cases ry;exact PySem.EqMixed.ne_str_bool (e8 I q (by simp))
  | int j=>obtain ⟨t',rfl⟩:=ry;exact PySem.EqMixed.ne_str_int (e8 I q (by simp))
  | str j=>obtain ⟨t',rfl⟩:=ry;exact ne_str (e8 I q (congrArg not gr))
  | _=>exact absurd (hs) EH
 | byt i=>
  obtain ⟨t,rfl⟩:=rx;cases y with
  | byt j=>obtain ⟨t',rfl⟩:=ry;exact PySem.W.ne_bytes (e8 I q (congrArg not hD))
  | _=>exact absurd (hs) EH
 | _=>cases y <;> exact absurd (hs) EH
theorem Al:OpR X (compareOp .Lt) (rI0 λi j=>.bl (decide (i<j))):=rK λ_ _ _ _ _ _ _ q=>lt_int q
theorem AU:OpR X (compareOp .LtE) (rI0 λi j=>.bl (decide (i<=j))):=rK λ_ _ _ _ _ _ _ q=>le_int q
theorem Ai:OpR X (compareOp .Gt) (rI0 λi j=>.bl (decide (j<i))):=rK λ_ _ _ _ _ _ _ q=>gt_int q
theorem BO:OpR X (compareOp .GtE) (rI0 λi j=>.bl (decide (j<=i))):=rK λ_ _ _ _ _ _ _ q=>ge_int q
theorem rA (d:OpR X (compareOp op) r) (c:PE X a ta) (g:PE X b tb) (k:behindInMarks op b=false):PE X (.Compare a [op] [b] pos) (tOp r ta tb):=by
 intro pins s σ H Q I h;exact wpAny_Compare1 (yb c g I h λv u j x y l e i f q=>d pins j σ l x y v u Q e i f q) k
def BS (t:TE):TT:=λσ H Q=>t σ H λx H'=>∃ k,x=.bl k/\Q k H'
theorem sW (w:OpR X (compareOp op) r) (t:PE X a ta) (j:PE X b tb) (o:behindInMarks op b=false):PT X (.Compare a [op] [b] pos) (BS (tOp r ta tb)):=by
 intro pins s σ H Q I h;refine wpAny_isTrue_Compare1 (thn (t pins s σ H _ I h) λv f ⟨x,m,g,q,p⟩=>thn (j pins f σ m _ g p) λu C ⟨y,D,A,l,d⟩=>
  thn (w pins C σ D x y v u _ A q l d) λc F ⟨z,B,i,E,k,e,n⟩=>?_) o
 subst e;cases E;exact wpAny_truthy_bool ⟨B,i,n⟩
def oB (K:PySem.W.Frag) (x:V) (H:Hp) (k:Bool):Prop:=
 match x with
 | .non=>k=false
 | .bl b=>k=b
 | .int i=>k=(i != 0)
 | .str y=>y.length<=sizeLine/\k=((y.length:Int) != 0)
 | .byt y=>y.size<=sizeLine/\k=((y.size:Int) != 0)
 | .ref p=>(∃ xs,SqL K H p xs/\k=!xs.isEmpty)\/(∃ xs,SqT K H p xs/\k=!xs.isEmpty)\/∃ a,H p=some (.dK a)/\k=!a.isEmpty
 | _=>False
theorem fP (r:KV kvs vs):(!vs.isEmpty)=!kvs.isEmpty:=by
 cases r <;> rfl
theorem ap (r:Vals xs its):(!its.toArray.isEmpty)=!xs.isEmpty:=by
 cases r <;> simp
theorem T7:(sizeLine:Nat)<2 ^ 63:=by rw [Fj];decide
theorem gB:Dj X (λx H Q=>∃ k,oB X.K x H k/\Q k H):=by
 intro pins s σ H x v Q I rx h;obtain ⟨k,e,q⟩:=h;have hl:=T7;have hs:=Fj;cases x with
 | non=>
  cases rx;have e':=e;subst e';exact truthy_none ⟨H,I,q⟩
 | bl b=>
  cases rx;have e':=e;subst e';exact wpAny_truthy_bool ⟨H,I,q⟩
 | int i=>
  obtain ⟨t,rfl⟩:=rx;have e':=e;subst e';exact PySem.P.truthy_int ⟨H,I,q⟩
 | str y=>
  obtain ⟨t,rfl⟩:=rx;obtain ⟨hy,e'⟩:=e;subst e';exact PySem.P.truthy_str (by omega) ⟨H,I.tok _,q⟩
 | byt y=>
  obtain ⟨t,rfl⟩:=rx;obtain ⟨hy,e'⟩:=e;subst e';exact PySem.W.truthy_bytes (by omega) ⟨H,I.tok _,q⟩
 | ref p=>
  cases rx;have e':=e;rcases e' with ⟨xs,hx,e'⟩ | ⟨xs,hx,e'⟩ | ⟨kvs,hx,e'⟩
  ·subst e';obtain ⟨its,r,pl,hz⟩:=I.list hx;have hlen:=r.length;exact wpAny_truthy_list pl.isList (by simp;omega) ⟨H,I.tok _,by rw [ap r];exact q⟩
  ·subst e';obtain ⟨its,r,pl,hz⟩:=I.tuple hx;have hlen:=r.length;exact truthy_tuple pl (by simp;omega) ⟨H,I.tok _,by rw [ap r];exact q⟩
  ·subst e';obtain ⟨hz,hS,vs,r,m⟩:=I.hok p _ hx;have hlen:=Paired.length r;exact wpAny_truthy_dict hS m (by omega) ⟨H,I.tok _,by rw [fP r];exact q⟩
 | _=>exact (e).elim
theorem nY (c:PE X a ta) (d:∀ b,isTrue a X.env b=(do let v <- b;standAt a.pos;holding [v] (truthy v))) :
  PT X a (λσ H Q=>ta σ H λx H'=>∃ k,oB X.K x H' k/\Q k H'):=by
 intro pins s σ H Q I h;exact isTrue_plain (thn (c pins s σ H _ I h) λv g ⟨x,f,e,j,i⟩=>gB pins g σ f x v Q e j i) (d _)
theorem gn:OpR X (binaryOp .Add) (λx y H Q=>∃ i j,x=.str i/\y=.str j/\i.length+j.length<=sizeLine/\Q (.str (i++j)) H):=by
 intro pins s σ H x y v u Q I b a h;obtain ⟨i,j,rfl,rfl,hz,q⟩:=h;obtain ⟨t,rfl⟩:=b;obtain ⟨t',rfl⟩:=a;exact add_str (λt' c=>⟨.str (i++j),H,I.tok _,⟨_,rfl⟩,q⟩) hz
theorem ao (r:Vals [x] us):∃ u,us=[u]/\RelV x u:=by
 cases r with
 | cons b a=>cases a;exact ⟨_,rfl,b⟩
theorem eF (r:Vals [x,y] us):∃ u w',us=[u,w']/\RelV x u/\RelV y w':=by
 cases r with
 | cons b a=>
  cases a with
  | cons d c=>cases c;exact ⟨_,_,rfl,b,d⟩
theorem jj (b:X.calm=true):j8 X (.builtin "max") (λxs H Q=>∃ i j,xs=[.int i,.int j]/\Q (.int (if j > i then j else i)) H):=by
 intro pins s σ H xs us Q I r h;obtain ⟨i,j,rfl,q⟩:=h;obtain ⟨u,w',rfl,⟨t,rfl⟩,⟨t',rfl⟩⟩:=eF r;refine max_two_ints (I.ok.hd b) λh' c k=>⟨_,H,I.kept k,?_,q⟩;by_cases a:j > i
 ·rw [if_pos a,if_pos a];exact ⟨_,rfl⟩
 ·rw [if_neg a,if_neg a];exact ⟨_,rfl⟩
end
theorem K7 {h:Heap} {c:Addr} {mA:Str->Option Value} (n:h.Ns1 c mA):∃ od,h.get? c=some od/\∀ name,PySem.W.lookIn name od=some (mA name):=by
 obtain ⟨o,es,k,g,hd,d,_,j⟩:=n;refine ⟨o,g,λname=>?_⟩;have e:=j name;unfold nsFind findBy at e;rw [<- Array.find?_toList] at e;unfold PySem.W.lookIn;rw [hd];dsimp only;split
 ·grind
 ·rename_i q;rw [q] at e;have a:es.toList.any (·.refKey)=false:=by
   rw [List.any_eq_false];intro y f;obtain ⟨z,t,b⟩:=d y (Array.mem_toList_iff.mp f);simp [DictEntry.refKey,b]
  have i:¬ es.toList.any (·.refKey)=true:=by rw [a];exact EH
  rw [if_neg i];exact congrArg some e
def G0 (f:Str) (v:V):List (Str×V)->List (Str×V)
 | []=>[(f,v)]
 | (g,x) :: r=>if g=f then (g,v) :: r else (g,x) :: G0 f v r
theorem U4 (f g:Str) (v:V):∀ fs:List (Str×V),(G0 f v fs).lookup g=if g=f then some v else fs.lookup g
 | []=>by
  show List.lookup g [(f,v)]=_;by_cases h:g=f
  ·have hb:(g==f)=true:=GP.mpr h;simp only [List.lookup,hb,if_pos h]
  ·have hb:(g==f)=false:=GE.mpr h;simp only [List.lookup,hb,if_neg h]
 | (k,x) :: r=>by
  have ih:=U4 f g v r;rw [show G0 f v ((k,x) :: r)=(if k=f then (k,v) :: r else (k,x) :: G0 f v r) from rfl];by_cases hk:k=f
  ·rw [if_pos hk];by_cases h:g=k
   ·have hb:(g==k)=true:=GP.mpr h;simp only [List.lookup,hb,if_pos (h.trans hk)]
   ·have hb:(g==k)=false:=GE.mpr h;simp only [List.lookup,hb,if_neg (λe:g=f=>h (e.trans hk.symm))]
  ·rw [if_neg hk];by_cases h:g=k
   ·have hb:(g==k)=true:=GP.mpr h;simp only [List.lookup,hb,if_neg (λe:g=f=>hk (h.symm.trans e))]
   ·have hb:(g==k)=false:=GE.mpr h;simp only [List.lookup,hb];exact ih
theorem R9 (f:Str) (v:V):∀ fs:List (Str×V),f∈(G0 f v fs).map (·.1)/\∀ g,g∈fs.map (·.1)->g∈(G0 f v fs).map (·.1)
 | []=>⟨by simp [G0],λg h=>by simp at h⟩
 | (k,x) :: r=>by
  obtain ⟨a,c⟩:=R9 f v r;rw [show G0 f v ((k,x) :: r)=(if k=f then (k,v) :: r else (k,x) :: G0 f v r) from rfl];by_cases b:k=f
  ·grind
  ·grind
theorem U9 (f:Str) (v:V):∀ fs:List (Str×V),(G0 f v fs).length<=fs.length+1
 | []=>by simp [G0]
 | (k,x) :: r=>by
  have b:=U9 f v r;rw [show G0 f v ((k,x) :: r)=(if k=f then (k,v) :: r else (k,x) :: G0 f v r) from rfl];by_cases a:k=f
  ·grind
  ·grind
theorem RelO.some_of (r:RelO (some v) o):∃ u,o=some u/\RelV v u:=by
 cases o with
 | none=>exact (r).elim
 | some u=>exact ⟨u,rfl,r⟩
theorem kh (r:RelV v u):PySem.W.handedIn u=true:=by
 cases v with
 | non=>cases (r);rfl
 | bl b=>cases (r);rfl
 | int i=>obtain ⟨t,e⟩:=(r);cases e;rfl
 | str x=>obtain ⟨t,e⟩:=(r);cases e;rfl
 | byt b=>obtain ⟨t,e⟩:=(r);cases e;rfl
 | flt b=>obtain ⟨t,e⟩:=(r);cases e;rfl
 | ref a=>cases (r);rfl
 | ty n=>cases (r);rfl
def t9 (K:PySem.W.Frag) (C:Addr) (f:Str):Prop:=PySem.W.findIn K (.ref C) f=some none
section
variable {X:Cx} {pins:List (Addr×Obj)} {σ:St} {H:Hp} {s:Shared} {a C dx:Addr} {fs:List (Str×V)} {f:Str} {v:V} {A:Around} {E:Value->Shared->Prop}
theorem tL {a:Env} {e:Expr} {f:Str} {pos:Pos} {s:Shared} {Q:Value->Shared->Prop} (c:attributeBase e f a (eval e a)=eval e a)
  (h:wpAny (model prog w) A (eval e a) (λo b=>wpAny (model prog w) A (getAttr o f true) Q E b) E s):wpAny (model prog w) A (eval (.Attribute e f pos) a) Q E s:=
 Attribute_any_ h (by rw [arm_eval_Attribute,c])
end
structure Room (q:Bool) (k:Nat) (A:Around):Prop where
 hd:q=false->A.handled=none
 dp:A.depth+3 * k+5<recursionLimit
 un:A.units+16 * k+200<cLine
 gd:A.guards=some []
theorem Room.any {k:Nat} {A:Around} (r:Room false k A):Room q k A:=⟨λ_=>r.hd rfl,r.dp,r.un,r.gd⟩
theorem Room.mono {j k:Nat} {A:Around} (r:Room q k A) (h:j<=k):Room q j A:=⟨r.hd,by have:=r.dp;omega,by have:=r.un;omega,r.gd⟩
theorem Room.deeper (r:Room q (k+1) A) (a:Env):Room q k (A.deeper a):=
 ⟨r.hd,by have:=r.dp;show A.depth+1+3 * k+5<_;omega,by have:=r.un;show A.units+3+16 * k+200<_;omega,r.gd⟩
theorem gW {A:Around} {C:Addr} {us:List Value} {a:List (Str×Value)}:(A.under (.builtin "type.__call__" ⟨.ref C :: us,a⟩)).depth=A.depth+1:=by
 first | rfl | simp [Around.under,Code.weight,Code.isCreation,Code.isGuard,Code.isCaller,Code.frames,Code.isFrame,guardIds]
theorem ff {A:Around} {C:Addr} {us:List Value} {a:List (Str×Value)}:(A.under (.builtin "type.__call__" ⟨.ref C :: us,a⟩)).units=A.units+1:=by
 first | rfl | simp [Around.under,Code.cUnits,Code.frames,Code.isFrame]
theorem Room.make (r:Room q (k+1) A) (C:Addr) (us:List Value) (a:List (Str×Value)):Room q k (A.under (.builtin "type.__call__" ⟨.ref C :: us,a⟩)):=
 ⟨r.hd,by have:=r.dp;rw [gW];omega,by have:=r.un;rw [ff];omega,by have:=r.gd;simp [Around.under,Code.guards,Code.isGuard,guardIds,pushGuards,this]⟩
theorem Room.depth (r:Room q k A):A.depth<recursionLimit:=by have:=r.dp;omega
theorem Room.units (r:Room q k A):A.units+64<cLine:=by have:=r.un;omega
def tNil:TA:=λ_ H Q=>Q [] H
def CA (d:TE) (a:TA):TA:=λσ H Q=>d σ H λx c=>a σ c λxs b=>Q (x :: xs) b
section
variable {X:Cx} {e:Expr} {es:List Expr} {te:TE} {t:TA} {pos:Pos}
theorem y4:PA X [] tNil:=λ_ _ _ _ H Q I h=>Calls.spliced_nil ⟨[],H,I,.nil,h⟩
theorem f8 (a:PE X e te) (g:PA X es t) (hs:starEach (e :: es) X.env=(false,eval e X.env) :: starEach es X.env:=by rfl):PA X (e :: es) (CA te t):=by
 intro pos pins s σ H Q I h;rw [hs];refine Calls.spliced_cons (thn (a pins s σ H _ I h) λu j ⟨x,f,d,m,l⟩=>?_);exact thn (g pos pins j σ f _ d l) λus n ⟨xs,k,c,b,i⟩=>⟨x :: xs,k,c,.cons m b,i⟩
def DH (t:TA):TE:=λσ H Q=>t σ H λxs a=>xs.length<=sizeLine/\∀ p,a p=none->Q (.ref p) (upd a p (.tup xs))
def EF (t:TA):TE:=λσ H Q=>t σ H λxs a=>xs.length<=sizeLine/\∀ p,a p=none->Q (.ref p) (upd a p (.lst xs))
theorem pX {x1} (h:PA X es t):PE X (.Tuple es x1 pos) (DH t):=by
 intro pins s σ H Q I f;refine wpAny_Tuple_spliced (thn (h pos pins s σ H _ I f) λus c ⟨xs,g,a,r,z,q⟩=>⟨by rw [<- r.length];exact z,?_⟩);have d:=a.hok.fresh (EI _);refine ⟨.ref c.heap.objs.size,upd g c.heap.objs.size (.tup xs),a.laid (λb u e=>Ew _ e) (EI _) ?_,rfl,q _ d⟩;exact ⟨z,us,r,⟨_,ET _ rfl,rfl,_,rfl,rfl⟩⟩
theorem pF (h:PA X es t):PE X (.List es pos) (EF t):=by
 intro pins s σ H Q I f;refine wpAny_List_spliced (thn (h pos pins s σ H _ I f) λus c ⟨xs,g,a,r,z,q⟩=>⟨by rw [<- r.length];exact z,?_⟩);have d:=a.hok.fresh (EI _);refine ⟨.ref c.heap.objs.size,upd g c.heap.objs.size (.lst xs),a.laid (λb u e=>Ew _ e) (EI _) ?_,rfl,q _ d⟩;exact ⟨z,us,0,r,ET _ rfl⟩
end
abbrev Sp:=List V->Hp->VK->XK->Prop
structure CXT where
 cx:List Env->Hp->Shared->XK->Value->Shared->Prop
 q:Bool
instance:CoeFun CXT λ_=>List Env->Hp->Shared->XK->Value->Shared->Prop:=⟨CXT.cx⟩
structure Env0 (P:Program) (w:World) (K:PySem.W.Frag) (mg:Str->Option Value) (base:Heap) (A:Around) (outer:List Env) (s:Shared) (H:Hp):Prop where
 frames:A.frames=some outer
 mod:Mod K mg base
 bs:∀ b o,base.get? b=some o->s.heap.get? b=some o/\H b=none
 bsz:base.objs.size<=s.heap.objs.size
 funs:s.heap.FunFrames base outer
 frf:∀ b∈frs outer,H b=none
 hok:HOk P w H s.heap
 bare:AllBare s.gens
def CE (a:List Env) (P:Program) (w:World) (H:Hp) (s:Shared) (Q:VK) (u:Value) (s':Shared):Prop:=
 ∃ v H',s'.os=s.os/\AllBare s'.gens/\Un (frs a) [] H H' s.heap s'.heap/\HOk P w H' s'.heap/\RelV v u/\Q v H'
def CR (CX:CXT) (a:List Env) (P:Program) (w:World) (H:Hp) (s:Shared) (Q:VK) (E:XK) (r:Result) (s':Shared):Prop:=
 match r with
 | .ok (.ret u)=>CE a P w H s Q u s'
 | .ok _=>False
 | .error e=>CX a H s E e s'
structure FnOk (P:Program) (w:World) (K:PySem.W.Frag) (mg:Str->Option Value) (base:Heap) (CX:CXT) (k:Nat) (f:Addr) (fd:FuncData) (ps:List Str) (sp:Sp):Prop where
 len:∀ vs H Q E,sp vs H Q E->vs.length=ps.length
 run:∀ (A:Around) (outer:List Env) (s:Shared) (H:Hp) (args:Args) (us:List Value) (vs:List V) (Q:VK) (E:XK),Room CX.q k A->Env0 P w K mg base A outer s H->BindsTo s fd args (ps.zip us)->Vals vs us->sp vs H Q E ->
  codeAny (model P w) A (.call (.ref f) args) (CR CX outer P w H s Q E) s
theorem FnOk.mono {K:PySem.W.Frag} {d:Str->Option Value} {a:Heap} {CX:CXT} {j k:Nat} {f:Addr} {fd:FuncData} {ps:List Str} {sp:Sp} (F:FnOk P w K d a CX j f fd ps sp) (h:j<=k) :
  FnOk P w K d a CX k f fd ps sp:=⟨F.len,λA b s H c us vs Q E e=>F.run A b s H c us vs Q E (e.mono h)⟩
theorem FnOk.imp {K:PySem.W.Frag} {d:Str->Option Value} {a:Heap} {CX:CXT} {k:Nat} {f:Addr} {fd:FuncData} {ps:List Str} {sp sp':Sp} (F:FnOk P w K d a CX k f fd ps sp)
  (h:∀ vs H Q E,sp' vs H Q E->sp vs H Q E):FnOk P w K d a CX k f fd ps sp':=
 ⟨λvs H Q E q=>F.len vs H Q E (h _ _ _ _ q),λA b s H c us vs Q E g e i j hs=>F.run A b s H c us vs Q E g e i j (h _ _ _ _ hs)⟩
theorem Env0.make {K:PySem.W.Frag} {c:Str->Option Value} {b:Heap} {A:Around} {a:List Env} {s:Shared} {H:Hp} (e:Env0 P w K c b A a s H) (C:Addr) (us:List Value) (d:List (Str×Value)) :
  Env0 P w K c b (A.under (.builtin "type.__call__" ⟨.ref C :: us,d⟩)) a s H:=⟨by first | exact e.frames | (simpa [Around.under,Code.envs,Code.isFrame,pushEnvs] using e.frames),e.mod,e.bs,e.bsz,e.funs,e.frf,e.hok,e.bare⟩
section
variable {X:Cx} {pins:List (Addr×Obj)} {σ:St} {H:Hp} {s s':Shared}
theorem Inv.env0 (I:Inv X pins σ H s):Env0 X.prog X.w X.K X.mg X.base X.A X.stack s H:=
 ⟨I.ok.frames,I.ok.mod,I.bs,Fk I.ok.bsz I.sz,I.stack,I.stkFree,I.hok,I.bare⟩
theorem Inv.after (I:Inv X pins σ H s) (h:CE X.stack X.prog X.w H s Q u s'):EP X pins σ Q u s':=by
 obtain ⟨v,H',f,a,i,e,r,q⟩:=h;obtain ⟨j,g,d,t,c⟩:=s';obtain rfl:c=s.os:=f;exact ⟨v,H',I.call i e a (λb z=>absurd z (by simp)),r,q⟩
end
def pb (sp:Sp) (a:List V) (E:XK) (t:TA):TE:=λσ H Q=>t σ H λvs b=>sp (vs++a) b Q E
def Binds (K:PySem.W.Frag) (fd:FuncData) (ps:List Str) (ds:List Value):Prop:=
 ∀ (s:Shared) (us:List Value),K.In s.heap->(us++ds).length=ps.length->BindsTo s fd ⟨us,[]⟩ (ps.zip (us++ds))
theorem Binds.all {K:PySem.W.Frag} {fd:FuncData} {ps:List Str} (h:∀ us:List Value,us.length=ps.length->bindArgs fd ⟨us,[]⟩=pure (ps.zip us)):Binds K fd ps []:=λs us _ a=>by
 rw [Fm] at a ⊢;exact .of_eq (h us a)
def u7 (CX:CXT) (X:Cx) (E:XK):Prop:=∀ (pins:List (Addr×Obj)) (σ:St) (H:Hp) (s:Shared) (e:Value) (s':Shared),Inv X pins σ H s->CX X.stack H s E e s'->X.xe e s'
section
variable {X:Cx} {CX:CXT} {k:Nat} {f C:Addr} {fd:FuncData} {ps:List Str} {sp:Sp} {dvs:List V} {ds:List Value} {E:XK} {x m:Str} {p pos apos:Pos} {e o:Expr} {es:List Expr} {ta:TE} {t:TA}
theorem gJ {σ:St} {H:Hp} {s:Shared} {Q:VK} {us:List Value} {vs:List V} (F:FnOk X.prog X.w X.K X.mg X.base CX k f fd ps sp) (hr:Room CX.q k X.A) (hb:Binds X.K fd ps ds) (hd:Vals dvs ds) (hx:u7 CX X E)
  (I:Inv X pins σ H s) (r:Vals vs us) (h:sp (vs++dvs) H Q E):wpAny (model X.prog X.w) X.A (call (.ref f) us) (EP X pins σ Q) X.xe s:=by
 have r2:=r.append hd;have hl:(us++ds).length=ps.length:=by rw [<- r2.length];exact F.len _ _ _ _ h
 refine GQ (GA (F.run X.A X.stack s H ⟨us,[]⟩ (us++ds) (vs++dvs) Q E hr I.env0 (hb s us I.kIn hl) r2 h) λr s' hq=>?_);cases r with
 | error e=>exact hx pins σ H s e s' I hq
 | ok fl=>
  cases fl with
  | ret u=>exact I.after hq
  | next=>exact False.elim hq
  | brk=>exact False.elim hq
  | cont=>exact False.elim hq
theorem iw (F:FnOk X.prog X.w X.K X.mg X.base CX k f fd ps sp) (l:Room CX.q k X.A) (m:Gl X x) (o:X.mg x=some (.ref f)) (d:PySem.W.keepIn X.K (.ref f)=true) (n:Binds X.K fd ps ds) (hd:Vals dvs ds) (g:u7 CX X E)
  (i:PA X (e :: es) t) (a:(x==("__debug__" : Str))=false:=by decide) (j:starEach (e :: es) X.env=(false,eval e X.env) :: starEach es X.env:=by rfl) (b:(backTo pos (starEach es X.env)).any (·.1)=false:=by rfl) :
  PE X (.Call (.Name x p) (e :: es) [] pos) (pb sp dvs E t):=by
 intro pins s σ H Q I h;refine FY (D5 I m o ?_ a);refine GR I.ok.mod.kin d (thn (i pos pins s σ H _ I h) λus v ⟨vs,u,c,r,q⟩=>⟨c.kIn,?_⟩) j b;exact gJ F l n hd g c r q
theorem nS (F:FnOk X.prog X.w X.K X.mg X.base CX k f fd ps sp) (d:Room CX.q k X.A) (e:Gl X x) (i:X.mg x=some (.ref f)) (b:PySem.W.keepIn X.K (.ref f)=true) (g:Binds X.K fd ps ds) (hd:Vals dvs ds) (c:u7 CX X E)
  (a:(x==("__debug__" : Str))=false:=by decide):PE X (.Call (.Name x p) [] [] pos) (pb sp dvs E tNil):=by
 intro pins s σ H Q I h;refine FY (D5 I e i ?_ a);exact PySem.W.callWith_K0 I.kIn b (gJ F d g hd c I .nil h)
end
structure FnScope (N P:List Str) (sc:Scope):Prop where
 kind:sc.kind=.function
 co:sc.isCoroutine=false
 gen:sc.isGenerator=false
 nd:N.Nodup
 pre:N.take P.length=P
 par:∀ x∈P,sc.names.lookup x=some .local\/sc.names.lookup x=some .cell
 nofree:∀ y∈sc.names,y.2≠.free
theorem bK {b:Str->Option NameKind} {x:Str}:∀ {a:List (Str×Value)} {m:Str->Option Value},(∀ v,(x,v)∉a)->bindL b a m x=m x
 | [],_,_=>rfl
 | (n,v) :: r,m,h=>by
  unfold bindL;rw [bK λw c=>h w (EM _ c)];split
  ·have:x≠n:=by rintro rfl;exact h v EL
   simp [this]
  ·rfl
theorem bW {b:Str->Option NameKind} {x:Str}:∀ {a:List (Str×Value)} {m:Str->Option Value},(∀ v,(x,v)∉a)->bindC b a m x=m x
 | [],_,_=>rfl
 | (n,v) :: r,m,h=>by
  unfold bindC;rw [bW λw c=>h w (EM _ c)];split
  ·rfl
  ·have:x≠n:=by rintro rfl;exact h v EL
   simp [this]
theorem ba {a:Str->Option NameKind} {x:Str} {v:Value}:∀ {P:List Str} {vs:List Value} {i:Nat} {m:Str->Option Value},P.Nodup->P[i]?=some x->vs[i]?=some v->a x=some .local ->
  bindL a (P.zip vs) m x=some v
 | [],_,_,_,_,h,_,_=>by simp at h
 | _ :: _,[],_,_,_,_,h,_=>by simp at h
 | p :: P,w :: vs,0,m,d,b,c,e=>by
  simp at b c;subst b;subst c;show bindL a ((p,w) :: P.zip vs) m p=_;unfold bindL;rw [bK λv f=>(FF.mp d).1 (HV f).1,if_pos e];simp
 | p :: P,w :: vs,i+1,m,d,b,c,e=>by
  unfold bindL;exact ba (FF.mp d).2 (by simpa using b) (by simpa using c) e
theorem bv {a:Str->Option NameKind} {x:Str} {v:Value}:∀ {P:List Str} {vs:List Value} {i:Nat} {m:Str->Option Value},P.Nodup->P[i]?=some x->vs[i]?=some v->a x≠some .local ->
  bindC a (P.zip vs) m x=some v
 | [],_,_,_,_,h,_,_=>by simp at h
 | _ :: _,[],_,_,_,_,h,_=>by simp at h
 | p :: P,w :: vs,0,m,d,b,c,e=>by
  simp at b c;subst b;subst c;show bindC a ((p,w) :: P.zip vs) m p=_;unfold bindC;rw [bW λv f=>(FF.mp d).1 (HV f).1,if_neg e];simp
 | p :: P,w :: vs,i+1,m,d,b,c,e=>by
  unfold bindC;exact bv (FF.mp d).2 (by simpa using b) (by simpa using c) e
def start (N:List Str) (vs:List V):St:=vs.map some++List.replicate (N.length-vs.length) none
def bF (CX:CXT) (P:Program) (w:World) (K:PySem.W.Frag) (mg:Str->Option Value) (base:Heap) (N:List Str) (qual:Str) (scope:Scope) (f:Addr) (cd:Value) (A:Around) (outer:List Env) (s:Shared) (H:Hp) (E:XK):Cx where
 prog:=P
 w:=w
 K:=K
 mg:=mg
 base:=base
 A:=A.deeper (envOfC qual scope s.heap.objs.size f cd)
 N:=N
 s₀:=s
 H₀:=H
 env:=envOfC qual scope s.heap.objs.size f cd
 outer:=outer
 stack:=envOfC qual scope s.heap.objs.size f cd :: outer
 ex:=[]
 calm:=!CX.q
 fn:=λ_=>true
 pn:=[]
 xe:=λe s'=>wpAny (model P w) (A.deeper (envOfC qual scope s.heap.objs.size f cd)) (leaving (envOfC qual scope s.heap.objs.size f cd) e) (λ_ s''=>CX outer H s E e s'') (λe' s''=>CX outer H s E e' s'') s'
theorem dy {a:Scope} {n:Nat} {x:Str} (h:a.names.lookup x=some .cell):∃ c,(cellsFrom n a.names []).lookup x=some c:=by
 have q:=PySem.W.cellsFrom_some a.names n [] (.inl h);exact Fe.mp q
theorem jq {CX:CXT} {P:Program} {w:World} {K:PySem.W.Frag} {mg:Str->Option Value} {base:Heap} {N ps:List Str} {qual:Str} {scope:Scope} {f:Addr} {cd:Value} {A:Around} {outer:List Env} {s s1:Shared} {H:Hp} {E:XK} {us:List Value} {vs:List V}
  (S:FnScope N ps scope) (hd:CX.q=false->A.handled=none) (e0:Env0 P w K mg base A outer s H) (hl:vs.length=ps.length) (r:Vals vs us)
  (x:InCallC s s.heap.objs.size (bindL (envOfC qual scope s.heap.objs.size f cd).kindOf (ps.zip us) λ_=>none) (cellsFrom (s.heap.objs.size+1) scope.names []) (bindC (envOfC qual scope s.heap.objs.size f cd).kindOf (ps.zip us) λ_=>none) s1) :
  Inv (bF CX P w K mg base N qual scope f cd A outer s H E) [] (start N vs) H s1:=by
 have hpl:ps.length<=N.length:=by have:=congrArg List.length S.pre;rw [FW] at this;omega
 obtain ⟨h1,tk,rfl,hk⟩:=x.done;have noA:∀ b:Addr,b∉(bF CX P w K mg base N qual scope f cd A outer s H E).ex:=λb z=>absurd (show b∈([]:List Addr) from z) (by simp);refine ⟨⟨e0.mod,S.kind,rfl,rfl,EI _,λy z c h1 h2=>?_,λy hy=>?_,λy c _ h=>?_,λz=>hd (by have z:(!CX.q)=true:=z;simpa using z),Around.frames_deeper e0.frames,.inr ⟨rfl,rfl⟩,λb z=>absurd z (noA b),e0.bs,e0.bsz,λb _ _=>noA b,λb z=>absurd z (noA b),e0.funs,e0.frf⟩,
  rfl,e0.bare,Un.kept hk,⟨_,x.toInCall.ns,λi y v h1 h2 h3=>?_⟩,λy c h=>⟨_,x.cell y c h⟩,e0.hok.fresh (EI _),λy c h=>?_,λp hp=>absurd (show p∈([]:List (Addr×Obj)) from hp) (by simp),e0.hok.kept hk,?_⟩
 ·exact name_of_addr x.apart (Gg h1) (Gg h2)
 ·have hy:scope.names.lookup y=some .cell\/scope.names.lookup y=some .free:=hy;rcases hy with hy | hy
  ·exact dy hy
  ·exact absurd rfl (S.nofree _ (Gg hy))
 ·exact HS (x.above y c (Gg h))
 ·have hi:i<vs.length:=by
   unfold start at h2;by_cases hi:i<vs.length
   ·exact hi
   ·rw [Fp (by simpa using hi)] at h2;rw [FK] at h2;split at h2 <;> cases h2
  have ha:vs[i]?=some v:=by
   unfold start at h2;rw [EJ (by simpa using hi),Fq] at h2;cases e:vs[i]? with
   | none=>rw [e] at h2;cases h2
   | some a=>rw [e] at h2;cases h2;rfl
  obtain ⟨u,hu,rv⟩:=r.get ha;have hp:ps[i]?=some y:=by
   rw [<- S.pre,List.getElem?_take_of_lt (by omega)];exact h1
  have ndP:ps.Nodup:=by rw [<- S.pre];exact S.nd.sublist (List.take_sublist _ _)
  refine ⟨u,rv,?_⟩;rcases S.par y (EY hp) with k | k
  ·exact .inl ⟨k,ba ndP hp hu k⟩
  ·obtain ⟨c,e⟩:=dy (n:=s.heap.objs.size+1) k;refine .inr ⟨.inl k,c,e,?_⟩;have q:=x.cell y c e;rw [bv ndP hp hu (by show scope.names.lookup y≠_;rw [k];decide)] at q;exact q
 ·exact e0.hok.fresh (HS (x.above y c (Gg h)))
 ·unfold start;show _=N.length;rw [FC,Es,Ga];omega
theorem vT {K:PySem.W.Frag} {mg:Str->Option Value} {base:Heap} {k:Nat} {f:Addr} {name qual:Str} {params:Arguments} {body:List Stmt} {scope:Scope} {dV kV doc pm cdv ct oc:Value} {an od:Option Addr}
  {osl:Array (Option Value)} {N ps:List Str} {sp:Sp} (lk:K.lookup f=some ⟨oc,od,.func (PySem.W.fnOf name qual params body scope dV kV doc pm an cdv ct),osl⟩) (hcd:PySem.W.codeIn K cdv qual=true) (S:FnScope N ps scope)
  (len:∀ vs H Q E,sp vs H Q E->vs.length=ps.length)
  (hbody:∀ (A:Around) (outer:List Env) (s:Shared) (H:Hp) (vs:List V) (Q:VK) (E:XK),Room CX.q k (A.deeper (envOfC qual scope s.heap.objs.size f cdv))->sp vs H Q E ->
   ∃ t,PSs (bF CX P w K mg base N qual scope f cdv A outer s H E) body t/\t { nx:=λ_ H'=>Q .non H',rt:=Q } (start N vs) H) :
  FnOk P w K mg base CX (k+1) f (PySem.W.fnOf name qual params body scope dV kV doc pm an cdv ct) ps sp:=by
 refine ⟨len,λA outer s H args us vs Q E hr e0 hb r hsp=>?_⟩;have hl:=len _ _ _ _ hsp;have KX:=e0.mod.kin.keeps λb o e=>(e0.bs b o e).1;have lim:=e0.mod.nolimit.keeps λb o e=>(e0.bs b o e).1;have hkind:∀ y∈ps.zip us,scope.names.lookup y.1=some .local\/(scope.names.lookup y.1=some .cell/\((cellsFrom (s.heap.objs.size+1) scope.names []).lookup y.1).isSome=true):=λ⟨n,v⟩ hy=>by
  rcases S.par n (HV hy).1 with q | q
  ·exact .inl q
  ·exact .inr ⟨q,PySem.W.cellsFrom_some _ _ _ (.inl q)⟩
 refine codeAny_call_function hr.depth (KX _ _ lk) rfl S.co S.gen rfl (PySem.W.codeRec_of KX hcd) (hb _ _ _ _ ?_);refine wpAny_newFunctionEnv_cells S.kind hkind λenv he s1 x=>?_;subst he;refine ⟨lim.keeps x.toInCall.keep,codeAny_func ?_⟩;obtain ⟨t,ht,hq⟩:=hbody A outer s H vs Q E (hr.deeper _) hsp;have I:Inv (bF CX P w K mg base N qual scope f cdv A outer s H E) [] (start N vs) H s1:=jq S hr.hd e0 hl r x;refine Fo (ht [] s1 (start N vs) H _ I hq) (λfl s' hs=>?_) λe s' hs=>hs;have fin:∀ {σ':St} {H':Hp} {v:V} {u:Value},Inv (bF CX P w K mg base N qual scope f cdv A outer s H E) [] σ' H' s'->RelV v u->Q v H'->CE outer P w H s Q u s':=
  λ{σ' H' v u} J rv q=>⟨v,H',J.os,J.bare,J.base,J.hok,rv,q⟩
 cases fl with
 | ret u=>
  obtain ⟨v,σ',H',J,rv,q⟩:=hs;exact fin J rv q
 | next=>
  obtain ⟨σ',H',J,q⟩:=hs;exact fin (v:=V.non) J rfl q
 | brk=>
  obtain ⟨_,_,_,q⟩:=hs;exact False.elim q
 | cont=>
  obtain ⟨_,_,_,q⟩:=hs;exact False.elim q
section
variable {X:Cx} {x:Str} {p pos:Pos} {e:Expr} {es:List Expr} {t:TA} {id T:String} {r:List V->Hp->VK->Prop}
def tCB (r:List V->Hp->VK->Prop) (t:TA):TE:=λσ H Q=>t σ H λvs a=>r vs a Q
theorem Q8 (n:j8 X (.builtin id) r) (l:Gl X x) (m:X.mg x=none) (c:bootBuiltins x=some (.builtin id)) (d:PA X (e :: es) t) (f:x ≠ "__name__":=by decide) (a:(x==("__debug__" : Str))=false:=by decide)
  (g:starEach (e :: es) X.env=(false,eval e X.env) :: starEach es X.env:=by rfl) (b:(backTo pos (starEach es X.env)).any (·.1)=false:=by rfl):PE X (.Call (.Name x p) (e :: es) [] pos) (tCB r t):=by
 intro pins s σ H Q I h;refine FY (T0 I l m c ?_ f a);exact Hh (thn (d pos pins s σ H _ I h) λus i ⟨vs,k,j,q,o⟩=>n pins i σ k vs us Q j q o) g b
theorem kY (n:j8 X (.type T) r) (l:Gl X x) (m:X.mg x=none) (c:bootBuiltins x=some (.type T)) (d:PA X (e :: es) t) (f:x ≠ "__name__":=by decide) (a:(x==("__debug__" : Str))=false:=by decide)
  (g:starEach (e :: es) X.env=(false,eval e X.env) :: starEach es X.env:=by rfl) (b:(backTo pos (starEach es X.env)).any (·.1)=false:=by rfl):PE X (.Call (.Name x p) (e :: es) [] pos) (tCB r t):=by
 intro pins s σ H Q I h;refine FY (T0 I l m c ?_ f a);exact Gs (thn (d pos pins s σ H _ I h) λus i ⟨vs,k,j,q,o⟩=>n pins i σ k vs us Q j q o) g b
end
end L2
namespace HT
open PySem PyProof.Rows
section
variable {prog:Program} {w:World} {A:Around} {E:Value->Shared->Prop} {s:Shared}
theorem cat_tup (q:IsTup s.heap t vs.toArray) (v:IsTup s.heap b ws.toArray) (p:vs≠[])
  (r:ws=[]->Q (.ref t) s) (u:ws≠[]->Q (.ref s.heap.objs.size) { s with heap:=s.heap.push { cls:=.type "tuple",data:=.seq (vs++ws).toArray } })
  (hsz:vs.length+ws.length<=sizeLine):wpAny (model prog w) A (binaryOp .Add (.ref t) (.ref b)) Q E s:=by
 obtain ⟨⟨cls,k,data,o⟩,f,x,n,hd⟩:=id q;obtain ⟨⟨m,d,i,c⟩,a,h,l,j⟩:=id v;subst x hd h j;have e:vs.toArray++ws.toArray=(vs++ws).toArray:=by simp
 by_cases g:ws=[]
 ·exact concat_meets ⟨_,f,rfl⟩ ⟨_,a,rfl⟩ HK HY GX GV (GK _ _)
   (tuple_addW1 t b vs.toArray ws.toArray n l k d o c (by simpa using p) (by simp [g])) ⟨f,a,r g⟩
 ·refine concat_meets ⟨_,f,rfl⟩ ⟨_,a,rfl⟩ HK HY GX GV (GK _ _)
   (tuple_addW2 t b vs.toArray ws.toArray n l k d o c (by simpa using p) (by simpa using g) (by rw [EN,EN];exact hsz)) ⟨f,a,?_⟩
  rw [e];exact u g
def sIx (n d:Nat):Option Int->Nat
 | none=>d
 | some v=>if v<0 then (v+(n:Int)).toNat else min v.toNat n
theorem sIx_none (n d:Nat):sIx n d none=d:=rfl
theorem yM (n d:Nat) (hd:d<=n) (o:Option Int):sIx n d o<=n:=by
 cases o with
 | none=>exact hd
 | some v=>
  show (if v<0 then (v+(n:Int)).toNat else min v.toNat n)<=n;by_cases a:v<0
  ·rw [if_pos a];omega
  ·grind
theorem io (v:Int) (n d:Nat):(if v<0 then max (v+(n:Int)) 0 else min v (n:Int))=((sIx n d (some v):Nat):Int):=by
 show (if v<0 then max (v+(n:Int)) 0 else min v (n:Int))=(((if v<0 then (v+(n:Int)).toNat else min v.toNat n):Nat):Int);grind
theorem fu (lo hi:Option Int) (n:Nat):Builtin.Slice.sliceAdjust lo hi 1 (n:Int)=(((sIx n 0 lo:Nat):Int),((sIx n n hi:Nat):Int)):=by
 have h1:¬ ((1:Int)<0):=by omega
 refine Prod.ext ?_ ?_
 ·cases lo with
  | none=>rfl
  | some v=>exact io v n 0
 ·cases hi with
  | none=>rfl
  | some v=>exact io v n n
theorem gN (i j:Nat):Builtin.Slice.slicePlaces (i:Int) (j:Int) 1=j-i:=by
 unfold Builtin.Slice.slicePlaces;grind
theorem aT (p:IsPart v o) (h:Q o s):wpAny (model prog w) A (Builtin.Slice.slicePartIndex v) Q E s:=by
 cases p with
 | none=>exact slicePart_none h
 | int i t=>exact slicePart_int h
theorem sliceApplied_gen {lo hi:Option Int} {n:Nat} {Q:Int×Int×Nat->Shared->Prop} (hs:s.heap.IsSliceOf sl vl vu .none) (pl:IsPart vl lo) (pu:IsPart vu hi)
  (h:Q (((sIx n 0 lo:Nat):Int),1,sIx n n hi-sIx n 0 lo) s):wpAny (model prog w) A (Builtin.Slice.sliceApplied (.ref sl) (pure (n:Int))) Q E s:=by
 obtain ⟨os,hos,hcs,hds⟩:=id hs;refine Er (Er (FJ hos hds rfl (Er (FJ hos hds rfl (Er (FJ hos hds rfl (Eu ?_)))))));refine Er (slicePart_none ?_);rw [if_neg (by decide)];refine Er (aT pl (Er (aT pu (Er (Eu ?_)))));show wpAny _ _ (match Builtin.Slice.sliceAdjust lo hi 1 (n:Int) with | (lo,hi)=>pure (lo,(1:Int),Builtin.Slice.slicePlaces lo hi 1)) _ _ s;rw [fu lo hi n];show wpAny _ _ (pure (((sIx n 0 lo:Nat):Int),(1:Int),Builtin.Slice.slicePlaces ((sIx n 0 lo:Nat):Int) ((sIx n n hi:Nat):Int) 1)) _ _ s;rw [gN];exact Eu h
theorem mf (xs:Array Value) (i k:Nat):((List.range k).filterMap λ(m:Nat)=>xs[((i:Int)+(m:Int) * 1).toNat]?).toArray=((xs.toList.drop i).take k).toArray:=by
 have e:(λ(m:Nat)=>xs[((i:Int)+(m:Int) * 1).toNat]?)=λm=>xs[i+m]?:=by
  funext m;have:((i:Int)+(m:Int) * 1).toNat=i+m:=by omega
  rw [this]
 rw [e];have:=pick_run xs i k;rw [List.filterMap_map] at this;have e2:((λx=>xs[x]?) ∘ λx=>i+x)=λm=>xs[i+m]?:=rfl;grind
theorem getItem_tuple_cut {items:Array Value} {i j:Value} {lo b:Option Int} {Q:Value->Shared->Prop} (c:IsTup s.heap t items) (hs:s.heap.IsSliceOf sl i j .none) (pl:IsPart i lo) (k:IsPart j b)
  (m:¬ (sIx items.size 0 lo=0/\sIx items.size items.size b=items.size))
  (h:Q (.ref s.heap.objs.size) { s with heap:=s.heap.push { cls:=.type "tuple",data:=.seq ((items.toList.drop (sIx items.size 0 lo)).take (sIx items.size items.size b-sIx items.size 0 lo)).toArray } })
  (hsz:items.size<=sizeLine):wpAny (model prog w) A (getItem (.ref t) (.ref sl)) Q E s:=by
 have a:sizeOk (.seq ((items.toList.drop (sIx items.size 0 lo)).take (sIx items.size items.size b-sIx items.size 0 lo)).toArray):=by
  show ((items.toList.drop (sIx items.size 0 lo)).take (sIx items.size items.size b-sIx items.size 0 lo)).toArray.size<=sizeLine;rw [EN,FW,List.length_drop,Array.length_toList];omega
 have n:sIx items.size items.size b<=items.size:=yM _ _ (EI _) b;obtain ⟨l,d,e,hds⟩:=id hs;have g:s.TypeIs (.ref sl) "slice":=⟨l,d,e⟩;unfold getItem;try with_reducible refine FT ?_
 first | refine Er (Eu ?_) | skip
 refine Er (wpAny_sequenceKey c.typeIs (by decide) ?_);refine Er (Gh c.typeIs FG
  (Hi FG c.typeIs entry_tuple_getitem ?_ (args_tuple_getitem _ _)))
 show wpAny _ _ (Builtin.Tuple.tupleItemsOf (.ref t) >>= _) _ _ s;refine Er (tupleItemsOf_ c ?_);refine Er (wpAny_typeOf g ?_);rw [if_pos (by decide)];refine Er (sliceApplied_gen hs pl k ?_);have f:¬ ((((sIx items.size 0 lo:Nat):Int)==0&&(1:Int)==1&&(sIx items.size items.size b-sIx items.size 0 lo)==items.size)=true):=by
  intro q;rw [Ey,Ey] at q;have p:=eq_of_beq q.1.1;have o:=eq_of_beq q.2;exact m ⟨by omega,by omega⟩
 show wpAny _ _ (if (((sIx items.size 0 lo:Nat):Int)==0&&(1:Int)==1&&(sIx items.size items.size b-sIx items.size 0 lo)==items.size)=true then _ else _) _ _ s;rw [if_neg f,mf];first
  | exact Er (Fs (Eu ⟨_,rfl,Eu h⟩) a)
  | exact Er (Fs (Er (Eu (Eu ⟨_,rfl,Eu h⟩))) a)
  | exact Er (Er (Fs (Eu (Eu ⟨_,rfl,Eu h⟩)) a))
  | exact Er (Er (Fs (Eu ⟨_,rfl,Eu h⟩) a))
end
end HT
namespace L2
open PySem PySem.Spec PyProof.Rows
abbrev TO:=St->Hp->(Option Int->Hp->Prop)->Prop
def PO (X:Cx) (e:Option Expr) (t:TO):Prop:=
 ∀ (pins:List (Addr×Obj)) (s:Shared) (σ:St) (H:Hp) (Q:Option Int->Hp->Prop),Inv X pins σ H s->t σ H Q ->
  wpAny (model X.prog X.w) X.A (evalPart e X.env) (λu s'=>∃ o H',Inv X pins σ H' s'/\IsPart u o/\Q o H') X.xe s
def tNoPart:TO:=λ_ H Q=>Q none H
def Ag (t:TE):TO:=λσ H Q=>t σ H λx a=>∃ i,x=.int i/\Q (some i) a
section
variable {X:Cx} {e:Expr} {te:TE} {lo hi:Option Expr} {tl th:TO} {pos p2:Pos}
theorem sJ:PO X none tNoPart:=by
 intro pins s σ H Q I h;rw [evalPart_none];exact Eu ⟨none,H,I,.none,h⟩
theorem rc (h:PE X e te):PO X (some e) (Ag te):=by
 intro pins s σ H Q I f;rw [evalPart_some];refine thn (h pins s σ H _ I f) λu g ⟨x,b,a,d,c⟩=>?_;obtain ⟨i,rfl,q⟩:=c;obtain ⟨t,rfl⟩:=d;exact ⟨some i,b,a,.int i t,q⟩
def SlR (X:Cx) (r:V->Option Int->Option Int->Hp->VK->Prop):Prop:=
 ∀ (pins:List (Addr×Obj)) (s:Shared) (σ:St) (H:Hp) (x:V) (v c b:Value) (lo a:Option Int) (d:Addr) (Q:VK),Inv X pins σ H s->RelV x v->s.heap.IsSliceOf d c b .none->IsPart c lo->IsPart b a->r x lo a H Q ->
  ∃ T id,typeLookup (.type T) "__getitem__" = pure (some (.builtin id))/\s.TypeIs v T/\wpAny (model X.prog X.w) X.A (getItem v (.ref d)) (EP X pins σ Q) X.xe s
def tSl (r:V->Option Int->Option Int->Hp->VK->Prop) (te:TE) (a d:TO):TE:=λσ H Q=>te σ H λx c=>a σ c λl e=>d σ e λu b=>r x l u b Q
theorem nZ (j:SlR X r) (o:PE X e te) (g:PO X lo tl) (J:PO X hi th):PE X (.Subscript e (.Slice lo hi none p2) pos) (tSl r te tl th):=by
 intro pins s σ H Q I h;refine Subscript_ (thn (o pins s σ H _ I h) λv m ⟨x,y,t,C,B⟩=>?_);refine wpAny_Slice (thn (g pins m σ y _ t B) λc F ⟨l,G,D,pl,i⟩=>thn (J pins F σ G _ D i) λd a ⟨u,f,w,n,z⟩=>?_);rw [evalPart_none];refine Eu ?_;have k:Inv X pins σ f { a with heap:=a.heap.push { cls:=.type "slice",data:=.fields #[c,d,.none] } }:=w.kept λb ob q=>Ew _ q;obtain ⟨T,id,A,p,E⟩:=j pins { a with heap:=a.heap.push { cls:=.type "slice",data:=.fields #[c,d,.none] } } σ f x v c d l u a.heap.objs.size Q k C (Heap.IsSliceOf.new ..) pl n z;exact tail_any p A E (by with_unfolding_all rfl)
def jn (xs:List V) (lo a:Option Int):List V:=(xs.drop (HT.sIx xs.length 0 lo)).take (HT.sIx xs.length xs.length a-HT.sIx xs.length 0 lo)
theorem V0 (xs:List V) (lo hi:Option Int):(jn xs lo hi).length<=xs.length:=by
 unfold jn;rw [FW,List.length_drop];omega
def DT (K:PySem.W.Frag):V->Option Int->Option Int->Hp->VK->Prop:=λx lo b H Q=>∃ a xs,x=.ref a/\SqT K H a xs /\
 ¬ (HT.sIx xs.length 0 lo=0/\HT.sIx xs.length xs.length b=xs.length)/\∀ p,H p=none->Q (.ref p) (upd H p (.tup (jn xs lo b)))
theorem xp:SlR X (DT X.K):=by
 intro pins s σ H x v l m lo e n Q I j hs pl i h;obtain ⟨a,xs,rfl,g,k,q⟩:=h;cases j;obtain ⟨d,r,f,hz⟩:=I.tuple g;have c:d.toArray.size=xs.length:=by rw [EN];exact r.length.symm
 refine ⟨"tuple",_,PyProof.Rows.slot_tuple_getitem.lookup,f.typeIs,?_⟩;refine HT.getItem_tuple_cut f hs pl i (by rw [c];exact k) ?_ (by rw [c];exact hz);rw [c];refine ⟨.ref s.heap.objs.size,_,I.laid (λb ob q=>Ew _ q) (EI _) ?_,rfl,q _ (I.hok.fresh (EI _))⟩;exact ⟨Fk (V0 xs lo e) hz,_,(r.drop (HT.sIx xs.length 0 lo)).take (HT.sIx xs.length xs.length e-HT.sIx xs.length 0 lo),TupN.new _ _⟩
def Bt (K:PySem.W.Frag):R2:=λx y H Q=>∃ a b xs ys,x=.ref a/\y=.ref b/\SqT K H a xs/\SqT K H b ys/\xs≠[]/\xs.length+ys.length<=sizeLine /\
 (ys=[]->Q (.ref a) H)/\(ys≠[]->∀ p,H p=none->Q (.ref p) (upd H p (.tup (xs++ys))))
theorem Vals.nil_iff (r:Vals xs us):us=[]↔xs=[]:=by
 cases r with
 | nil=>simp
 | cons _ _=>simp
theorem sf:OpR X (binaryOp .Add) (Bt X.K):=by
 intro pins s σ H x y v u Q I n k h;obtain ⟨a,b,xs,ys,rfl,rfl,g,m,f,hz,p,l⟩:=h;cases n;cases k;obtain ⟨j,d,o,_⟩:=I.tuple g;obtain ⟨e,c,i,_⟩:=I.tuple m;refine HT.cat_tup o i (λz=>f (d.nil_iff.mp z)) (λz=>⟨.ref a,H,I,rfl,p (c.nil_iff.mp z)⟩) (λz=>?_) (by rw [<- d.length,<- c.length];exact hz);refine ⟨.ref s.heap.objs.size,_,I.laid (λb ob q=>Ew _ q) (EI _) ?_,rfl,l (λw=>z (c.nil_iff.mpr w)) _ (I.hok.fresh (EI _))⟩;exact ⟨by rw [FC];exact hz,_,d.append c,TupN.new _ _⟩
end
def ixN (n:Nat) (i:Int):Option Nat:=if 0<=i then (if i<n then some i.toNat else none) else if -(n:Int)<=i then some (i+n).toNat else none
def atI {a:Type} (xs:List a) (i:Int):Option a:=(ixN xs.length i).bind λj=>xs[j]?
theorem ik (h:ixN n i=some j):seqIndex? i n=some j/\j<n/\-(n:Int)<=i/\i<n:=by
 unfold ixN at h;by_cases b:0<=i
 ·rw [if_pos b] at h;by_cases a:i<n
  ·rw [if_pos a] at h;have e:=Fc h;exact ⟨by rw [seqIndex_of b a,e],by omega,by omega,a⟩
  ·grind
 ·rw [if_neg b] at h;by_cases a:-(n:Int)<=i
  ·rw [if_pos a] at h;have e:=Fc h;exact ⟨by rw [seqIndex_neg (by omega) a,e],by omega,a,by omega⟩
  ·grind
theorem jM (h:atI xs i=some v):∃ j,seqIndex? i xs.length=some j/\xs[j]?=some v/\j<xs.length/\-(xs.length:Int)<=i/\i<xs.length:=by
 unfold atI at h;cases e:ixN xs.length i with
 | none=>rw [e] at h;cases h
 | some j=>
  rw [e] at h;obtain ⟨c,b,a,d⟩:=ik e;exact ⟨j,c,h,b,a,d⟩
theorem X1 {j:Nat} {v:α} (h:xs[j]?=some v):atI xs (j:Int)=some v:=by
 have hj:=(Et.mp h).1;have e:ixN xs.length (j:Int)=some j:=by
  unfold ixN;rw [if_pos (by omega),if_pos (by omega)];simp
 unfold atI;rw [e];exact h
def dM (b:Expr):Prop:=∀ o i,subscripted b false o i=operate [o,i] (getItem o i)
def IxR (X:Cx) (r:R2):Prop:=
 ∀ (b a:Expr) (pins:List (Addr×Obj)) (s:Shared) (σ:St) (H:Hp) (x y:V) (v u:Value) (Q:VK),Inv X pins σ H s->RelV x v->RelV y u->r x y H Q ->
  subscripted a false v u=operate [v,u] (getItem v u)->wpAny (model X.prog X.w) X.A (subscriptTail b a v u) (EP X pins σ Q) X.xe s
def MtR (X:Cx) (id:String) (r:V->List V->Hp->VK->Prop):Prop:=
 ∀ (pins:List (Addr×Obj)) (s:Shared) (σ:St) (H:Hp) (x:V) (xs:List V) (v:Value) (us:List Value) (Q:VK),Inv X pins σ H s->RelV x v->Vals xs us->r x xs H Q ->
  wpAny (model X.prog X.w) X.A (call (.builtin id) (v :: us)) (EP X pins σ Q) X.xe s
section
variable {X:Cx} {a b:Expr} {ta tb:TE} {pos:Pos}
theorem zj (f:IxR X r) (c:PE X a ta) (g:PE X b tb) (hs:dM b):PE X (.Subscript a b pos) (tOp r ta tb):=by
 intro pins s σ H Q I h;exact Subscript_ (yb c g I h λv u j x y k d i e q=>f a b pins j σ k x y v u Q d i e q (hs _ _))
def Ci (K:PySem.W.Frag):R2:=λx y H Q=>∃ p xs i v,x=.ref p/\y=.int i/\SqL K H p xs/\atI xs i=some v/\Q v H
def Ce (K:PySem.W.Frag):R2:=λx y H Q=>∃ p xs i v,x=.ref p/\y=.int i/\SqT K H p xs/\atI xs i=some v/\Q v H
theorem sY:IxR X (Ci X.K):=by
 intro f e pins s σ H x y v u Q I D n h hs;obtain ⟨p,xs,i,z,rfl,rfl,E,A,q⟩:=h;cases D;obtain ⟨t,rfl⟩:=n;obtain ⟨d,r,pl,hz⟩:=I.list E;obtain ⟨j,b,C,G,m,B⟩:=jM A;obtain ⟨w,k,c⟩:=r.get C;have o:=r.length;have F:=T7;have a:EP X pins σ Q w s:=⟨z,H,I,c,q⟩;by_cases l:0<=i
 ·have g:i.toNat=j:=by
   rw [seqIndex_of l B] at b;exact Fc b
  exact item_listR pl.isList l (by omega) (by rw [g];simpa using k) a hs
 ·have g:(i+(d.toArray.size:Int)).toNat=j:=by
   rw [seqIndex_neg (by omega) m] at b;rw [EN,<- o];exact Fc b
  exact subscriptTail_builtinR pl.isList.typeIs slot_list_getitem.lookup
   (wpAny_getItem_list_neg pl.isList (by omega) (by rw [EN] <;> omega) (by omega) (by rw [g];simpa using k) ⟨rfl,a⟩) hs
theorem yO:IxR X (Ce X.K):=by
 intro b d pins s σ H x y v u Q I A l h hs;obtain ⟨p,xs,i,z,rfl,rfl,g,e,q⟩:=h;cases A;obtain ⟨t,rfl⟩:=l;obtain ⟨k,r,pl,hz⟩:=I.tuple g;obtain ⟨j,f,o,D,C,E⟩:=jM e;obtain ⟨w,n,c⟩:=r.get o;have m:=r.length;have B:=T7;have a:EP X pins σ Q w s:=⟨z,H,I,c,q⟩;exact subscriptTail_builtinR pl.typeIs slot_tuple_getitem.lookup
  (getItem_tuple pl (by omega) (by omega) (by rw [EN,<- m];exact f) (by simpa using n) ⟨rfl,a⟩) hs
theorem fX (a:List Value) (n j:Nat) (u:Value):Obj.mapSeq (·.setIfInBounds j u) { cls:=.type "list",data:=.seq a.toArray n }={ cls:=.type "list",data:=.seq (a.set j u).toArray n }:=by
 simp [Obj.mapSeq]
theorem Inv.lst {σ:St} {H:Hp} {s:Shared} {p:Addr} {xs:List V} (I:Inv X pins σ H s) (h:H p=some (.lst xs)) :
  ∃ (a:List Value) (n:Nat),Vals xs a/\s.heap.get? p=some { cls:=.type "list",data:=.seq a.toArray n }/\xs.length<=sizeLine:=by
 obtain ⟨z,a,n,r,e⟩:=I.hok p _ h;grind
theorem Inv.lstUpd {σ:St} {H:Hp} {s:Shared} {p:Addr} {xs ys:List V} {a its':List Value} {n c:Nat} {f:Obj->Obj} (I:Inv X pins σ H s) (h:H p=some (.lst xs))
  (g:s.heap.get? p=some { cls:=.type "list",data:=.seq a.toArray n }) (d:f { cls:=.type "list",data:=.seq a.toArray n }={ cls:=.type "list",data:=.seq its'.toArray c }) (r:Vals ys its') (hz:ys.length<=sizeLine) (t:Nat) :
  Inv X pins σ (upd H p (.lst ys)) { s with heap:=s.heap.update p f,toks:=t }:=by
 have e:(s.heap.update p f).get? p=some { cls:=.type "list",data:=.seq its'.toArray c }:=by
  rw [Fz f g (by rw [d] <;> rfl),d]
 refine I.write (by rw [h];trivial) (.inl rfl) (λb u i q=>(Gk _ _ (Ne.symm i)).trans q) ⟨_,e⟩ ?_;exact ⟨hz,its',c,r,e⟩
def rSetL:V->V->V->Hp->(Hp->Prop)->Prop:=λo i v H Q=>∃ p xs k j,o=.ref p/\i=.int k/\H p=some (.lst xs)/\ixN xs.length k=some j/\Q (upd H p (.lst (xs.set j v)))
theorem mq:qN X rSetL:=by
 intro pins s σ H o i v D B u Q I z x A h;obtain ⟨p,xs,k,j,rfl,rfl,f,y,q⟩:=h;cases z;obtain ⟨t,rfl⟩:=x;obtain ⟨a,n,r,d,hz⟩:=I.lst f;obtain ⟨b,E,w,l⟩:=ik y;have e:=r.length;have C:=T7;have g:Inv X pins σ (upd H p (.lst (xs.set j v))) { s with heap:=s.heap.update p (Obj.mapSeq (·.setIfInBounds j u)) }:=
  I.lstUpd f d (fX a n j u) (r.set A j) (by rw [EV];exact hz) s.toks
 by_cases m:0<=k
 ·have c:k.toNat=j:=by
   rw [seqIndex_of m l] at b;exact Fc b
  exact PySem.W.ki_setAt d m (by omega) (by rw [EN,<- e];exact l) (by rw [c];exact ⟨_,g,q⟩)
 ·have c:(k+(a.toArray.size:Int)).toNat=j:=by
   rw [seqIndex_neg (by omega) w] at b;rw [EN,<- e];exact Fc b
  exact PySem.W.ki_setBack d (by omega) (by rw [EN,<- e];exact w) (by omega) (by rw [c];exact ⟨_,g,q⟩)
theorem ci (lo a:Option Int) (n:Nat):(sliceBounds lo a none n).1=((HT.sIx n 0 lo:Nat):Int)/\(sliceBounds lo a none n).2.1=((HT.sIx n n a:Nat):Int)/\(sliceBounds lo a none n).2.2=1:=by
 refine ⟨?_,?_,rfl⟩
 ·cases lo with
  | none=>simp [sliceBounds,HT.sIx]
  | some i=>
   simp only [sliceBounds,HT.sIx,Option.getD_none,show (1:Int) > 0 by decide,Ib];by_cases h:i<0
   ·grind
   ·grind
 ·cases a with
  | none=>simp [sliceBounds,HT.sIx]
  | some i=>
   simp only [sliceBounds,HT.sIx,Option.getD_none,show (1:Int) > 0 by decide,Ib];by_cases h:i<0
   ·grind
   ·grind
theorem bI (a:List Value) (lo b:Option Int):slicePick a.toArray lo b none=((a.drop (HT.sIx a.length 0 lo)).take (HT.sIx a.length a.length b-HT.sIx a.length 0 lo)).toArray:=by
 obtain ⟨c,d,e⟩:=ci lo b a.toArray.size;unfold slicePick;rw [c,d,e];simp only [sliceRange_one,pick_run,EN] <;> rfl
def Cs (K:PySem.W.Frag):V->Option Int->Option Int->Hp->VK->Prop:=λx lo b H Q=>∃ a xs,x=.ref a/\SqL K H a xs/\∀ p,H p=none->Q (.ref p) (upd H p (.lst (jn xs lo b)))
theorem sA:SlR X (Cs X.K):=by
 intro pins s σ H x v k l lo d m Q I j hs pl g h;obtain ⟨a,xs,rfl,f,q⟩:=h;cases j;obtain ⟨i,r,e,hz⟩:=I.list f;have c:=r.length;refine ⟨"list",_,slot_list_getitem.lookup,e.isList.typeIs,?_⟩;refine wpAny_getItem_list_slice e.isList hs pl g .none (by simp) ?_ (by rw [EN] <;> omega);rw [bI,<- c];refine ⟨.ref s.heap.objs.size,_,I.laid (λb ob q=>Ew _ q) (EI _) ?_,rfl,q _ (I.hok.fresh (EI _))⟩;exact ⟨Fk (V0 xs lo d) hz,_,0,(r.drop (HT.sIx xs.length 0 lo)).take (HT.sIx xs.length xs.length d-HT.sIx xs.length 0 lo),ET _ rfl⟩
theorem dB:j8 X (.builtin "len") (λxs H Q=>∃ p ys,xs=[.ref p]/\(SqL X.K H p ys\/SqT X.K H p ys)/\Q (.int ys.length) H):=by
 intro pins s σ H xs us Q I r h;obtain ⟨p,ys,rfl,b,q⟩:=h;obtain ⟨u,rfl,e⟩:=ao r;cases e;have f:=T7;rcases b with b | b
 ·obtain ⟨d,c,pl,hz⟩:=I.list b;have a:=c.length;exact Calls.call_len_list pl.isList (by simp <;> omega) ⟨.int ys.length,H,I.tok _,⟨s.toks+1,by rw [EN,a]⟩,q⟩
 ·obtain ⟨d,c,pl,hz⟩:=I.tuple b;have a:=c.length;exact len_tuple pl (by simp <;> omega) ⟨.int ys.length,H,I.tok _,⟨s.toks+1,by rw [EN,a]⟩,q⟩
theorem cb:j8 X (.builtin "len") (λxs H Q=>∃ z,xs=[.str z]/\z.length<=sizeLine/\Q (.int z.length) H):=by
 intro pins s σ H xs us Q I r h;obtain ⟨z,rfl,hz,q⟩:=h;obtain ⟨u,rfl,t,rfl⟩:=ao r;have hn:=T7;exact len_str (by omega) ⟨.int z.length,H,I.tok _,⟨_,rfl⟩,q⟩
theorem M2:j8 X (.type "tuple") (λxs H Q=>∃ p ys,xs=[.ref p]/\((SqL X.K H p ys/\∀ l,H l=none->Q (.ref l) (upd H l (.tup ys)))\/(SqT X.K H p ys/\Q (.ref p) H))):=by
 intro pins s σ H xs us Q I r h;obtain ⟨p,ys,rfl,h⟩:=h;obtain ⟨u,rfl,k⟩:=ao r;cases k;rcases h with ⟨c,q⟩ | ⟨c,q⟩
 ·obtain ⟨a,d,pl,hz⟩:=I.list c;have f:=d.length;refine call_tuple_list pl.isList (λh' i=>?_) (by simp <;> omega);have g:=I.kept (t':=s.toks) i;have j:Inv X pins σ (upd H h'.objs.size (.tup ys)) { s with heap:=h'.push { cls:=.type "tuple",data:=.seq a.toArray } }:=
   g.laid (λb o e=>Ew _ e) (EI _) (⟨hz,a,d,TupN.new _ _⟩)
  exact ⟨.ref h'.objs.size,_,j,rfl,q _ (g.hok.fresh (EI _))⟩
 ·obtain ⟨a,d,pl,hz⟩:=I.tuple c;exact call_tuple_same pl ⟨.ref p,H,I,rfl,q⟩
def tyV (K:PySem.W.Frag) (T:String) (x:V) (H:Hp):Prop:=match x with
 | .str _=>T = "str"
 | .int _=>T = "int"
 | .ref p=>(T = "list"/\∃ xs,SqL K H p xs)\/(T = "tuple"/\∃ o,K.lookup p=some o/\o.cls=.type "tuple"/\o.dict=none) \/
   (T = "dict"/\((∃ a,H p=some (.dK a))\/∃ a,H p=some (.dT a)))\/(T = "set"/\∃ S n,H p=some (.set S n))\/(T = "tuple"/\∃ xs,Rd H p (.tup xs))
 | _=>False
theorem nL {σ:St} {H:Hp} {s:Shared} {T:String} {x:V} {v:Value} (I:Inv X pins σ H s) (r:RelV x v) (ty:tyV X.K T x H) :
  s.TypeIs v T/\∀ a,v=.ref a->∃ ob,s.heap.get? a=some ob/\ob.dict=none:=by
 cases x with
 | str z=>
  obtain ⟨t,rfl⟩:=r;cases (ty);exact ⟨typeIs_str s z t,λ_ e=>nomatch e⟩
 | int i=>
  obtain ⟨t,rfl⟩:=r;cases (ty);exact ⟨Hj s i t,λ_ e=>nomatch e⟩
 | ref p=>
  cases r;rcases ty with ⟨rfl,xs,hq⟩ | ⟨rfl,o,hk,hc,hd⟩ | ⟨rfl,hk⟩ | ⟨rfl,S,n,hk⟩ | ⟨rfl,xs,hk⟩
  ·obtain ⟨its,_,pl,_⟩:=I.list hq;refine ⟨pl.isList.typeIs,λa e=>?_⟩;cases e;obtain ⟨o,n,e,c,hd,_⟩:=pl;exact ⟨o,e,hd⟩
  ·refine ⟨⟨o,I.kIn p o hk,hc⟩,λa e=>?_⟩;cases e;exact ⟨o,I.kIn _ o hk,hd⟩
  ·have z:∃ o,s.heap.get? p=some o/\o.ExactDict:=by
    rcases hk with ⟨kvs,hk⟩ | ⟨kvs,hk⟩
    ·obtain ⟨_,_,_,_,o,_,_,e,ex,_⟩:=I.hok p _ hk;exact ⟨o,e,ex⟩
    ·obtain ⟨_,_,_,_,o,_,_,e,ex,_⟩:=I.hok p _ hk;exact ⟨o,e,ex⟩
   obtain ⟨o,e,ex⟩:=z;refine ⟨⟨o,e,ex.1⟩,λa e2=>?_⟩;cases e2;exact ⟨o,e,ex.2.1⟩
  ·obtain ⟨o,_,_,_,e,ex,_⟩:=I.hok p _ hk;refine ⟨⟨o,e,ex.1⟩,λa e2=>?_⟩;cases e2;exact ⟨o,e,ex.2.1⟩
  ·obtain ⟨_,its,_,o,e,c,n,_,hd⟩:=(hk.ok I.hok);exact ⟨⟨o,e,c⟩,λa e2=>by cases e2;exact ⟨o,e,hd⟩⟩
 | _=>exact False.elim ty
def DZ (K:PySem.W.Frag) (T:String) (r:V->List V->Hp->VK->Prop) (b:TE):TE:=λσ H Q=>b σ H λx a=>tyV K T x a/\r x [] a Q
def tBM (K:PySem.W.Frag) (T:String) (r:V->List V->Hp->VK->Prop) (c:TE) (t:TA):TE:=λσ H Q=>c σ H λx a=>tyV K T x a/\t σ a λxs b=>r x xs b Q
variable {o e:Expr} {es:List Expr} {to:TE} {t:TA} {name:Str} {apos cpos:Pos} {T id:String} {r:V->List V->Hp->VK->Prop}
theorem yV (j:PlainAttrs T) (c:Slot T name id) (d:typeOf (.builtin id)=pure (.type "method_descriptor")) (n:MtR X id r) (i:PE X o to)
  (b:attributeBase o name X.env (eval o X.env)=eval o X.env:=by rfl) (a:(apos.endLine==cpos.line)=true:=by rfl):PE X (.Call (.Attribute o name apos) [] [] cpos) (DZ X.K T r to):=by
 intro pins s σ H Q I h;refine wpAny_Call_method0_late b a (thn (i pins s σ H _ I h) λv p ⟨x,l,e,f,g,q⟩=>?_);obtain ⟨k,m⟩:=nL e f g;exact ⟨T,id,j,c,d,k,m,Calls.callWith_builtin rfl (PySem.evalArgs_none (n pins p σ l x [] v [] Q e f .nil q))⟩
theorem vM (l:PlainAttrs T) (d:Slot T name id) (g:typeOf (.builtin id)=pure (.type "method_descriptor")) (z:MtR X id r) (C:PE X o to) (B:PA X (e :: es) t)
  (c:attributeBase o name X.env (eval o X.env)=eval o X.env:=by rfl)
  (f:((backTo cpos (starEach (e :: es) X.env)).all (λx=>!x.1)&&(backToKw cpos (keywordEach [] X.env)).all (λx=>x.1.isSome)
   && decide ((e :: es).length+([]:List Keyword).length+(if ([]:List Keyword).isEmpty then 0 else 1)<30))=true:=by rfl)
  (b:(apos.endLine==cpos.line)=true:=by rfl) (hs:starEach (e :: es) X.env=(false,eval e X.env) :: starEach es X.env:=by rfl) (a:(backTo cpos (starEach es X.env)).any (·.1)=false:=by rfl) :
  PE X (.Call (.Attribute o name apos) (e :: es) [] cpos) (tBM X.K T r to t):=by
 intro pins s σ H Q I h;refine wpAny_Call_method_late c f b rfl (thn (C pins s σ H _ I h) λv p ⟨x,w,j,k,q,A⟩=>?_);obtain ⟨m,y⟩:=nL j k q;refine ⟨T,id,l,d,g,m,y,?_⟩;have i:=B cpos pins p σ w _ j A;rw [hs] at i ⊢;refine Calls.callWith_builtin (by show (false||(backTo cpos (starEach es X.env)).any (·.1))=false;rw [a] <;> rfl) (Calls.evalArgs_plain ?_);exact thn i λus E ⟨vs,F,D,u,n⟩=>z pins E σ F x vs v us Q D k u n
end
def MtM (X:Cx) (id:String) (r:V->List V->Hp->VK->Prop):Prop:=
 ∀ (pins:List (Addr×Obj)) (s:Shared) (σ:St) (H:Hp) (x:V) (xs:List V) (v:Value) (us:List Value) (Q:VK),Inv X pins σ H s->RelV x v->Vals xs us->r x xs H Q ->
  wpAny (model X.prog X.w) X.A (call (.builtin id) (v :: us)) (EP X pins σ Q) X.xe s
theorem Vals.one:∀ {x:V} {us:List Value},Vals [x] us->∃ u,us=[u]/\RelV x u
 | _,_,.cons r .nil=>⟨_,rfl,r⟩
theorem Vals.rep (h:Vals xs us):∀ k:Nat,Vals (List.replicate k xs).flatten (List.replicate k us).flatten
 | 0=>.nil
 | k+1=>by
  rw [FR,FR,Gu,Gu];exact Vals.append h (Vals.rep h k)
theorem S8 (b:List Value):∀ (k:Nat) (a:List Value),
  List.foldl (λf c=>f++c) a.toArray (List.replicate k b.toArray)=(a++(List.replicate k b).flatten).toArray
 | 0,a=>by simp
 | k+1,a=>by
  have e:a.toArray++b.toArray=(a++b).toArray:=by simp
  have d:(a++b)++(List.replicate k b).flatten=a++(List.replicate (k+1) b).flatten:=by
   rw [FR,Gu,HC]
  rw [<- d,<- S8 b k (a++b),<- e,FR,List.foldl_cons]
section
variable {X:Cx} {pins:List (Addr×Obj)} {σ:St} {H:Hp} {s:Shared} {l b:Addr} {xs ys zs:List V}
theorem Inv.lset {a its':List Value} {n:Nat} {f:Array Value->Array Value} {t':Nat} (I:Inv X pins σ H s) (c:H l=some (.lst xs))
  (e:s.heap.get? l=some { cls:=.type "list",data:=.seq a.toArray n }) (b:f a.toArray=its'.toArray) (g:Vals ys its') (hz:ys.length<=sizeLine) :
  Inv X pins σ (upd H l (.lst ys)) { s with heap:=s.heap.update l (Obj.mapSeq f),toks:=t' }:=by
 have q:=PySem.IsL.update e f;rw [b] at q;refine I.write (by rw [c];exact trivial) (.inl rfl) (λi u d h=>(Gk s.heap (Obj.mapSeq f) (Ne.symm d)).trans h) ⟨_,q⟩ ?_;exact ⟨hz,its',_,g,q⟩
theorem Inv.lnew (I:Inv X pins σ H s) (a:Vals ys its) (hz:ys.length<=sizeLine) :
  Inv X pins σ (upd H s.heap.objs.size (.lst ys)) { s with heap:=s.heap.push { cls:=.type "list",data:=.seq its.toArray },toks:=t' }:=
 I.laid (λ_ _ q=>Ew _ q) (EI _) ⟨hz,its,0,a,ET _ rfl⟩
theorem Inv.fresh (I:Inv X pins σ H s):H s.heap.objs.size=none:=I.hok.fresh (EI _)
theorem Inv.lstM (I:Inv X pins σ H s) (b:H l=some (.lst xs)):xs.length<=sizeLine/\∃ (a:List Value) (n:Nat),Vals xs a/\xs.length=a.length/\s.heap.get? l=some { cls:=.type "list",data:=.seq a.toArray n }:=by
 obtain ⟨z,a,n,r,e⟩:=I.hok l _ b;exact ⟨z,a,n,r,r.length,e⟩
theorem oS (h:n<=sizeLine):Builtin.List.listTooLong n=false:=by
 unfold Builtin.List.listTooLong;grind
end
section
variable {X:Cx}
def rAppend:V->List V->Hp->VK->Prop:=λx vs H Q=>∃ l xs y,x=.ref l/\vs=[y]/\H l=some (.lst xs)/\xs.length<sizeLine/\Q .non (upd H l (.lst (xs++[y])))
theorem K2:MtM X "list.append" rAppend:=by
 intro pins s σ H x vs v us Q I d f h;obtain ⟨l,xs,y,rfl,rfl,b,hz,q⟩:=h;cases d;obtain ⟨u,rfl,c⟩:=f.one;obtain ⟨z,a,n,r,g,e⟩:=I.lstM b;refine Gy F.slot_list_append ⟨_,e,rfl⟩ F.entry_list_append (F.args_list_append_2 _ _) (PySem.list_append l a.toArray n u (by rw [EN];omega)) ⟨e,?_⟩;refine ⟨.non,_,I.lset b e (by simp) (r.append (.cons c .nil)) ?_,rfl,q⟩;grind
def rCat:R2:=λx y H Q=>∃ l b xs a,x=.ref l/\y=.ref b/\H l=some (.lst xs)/\H b=some (.lst a)/\xs.length+a.length<=sizeLine/\∀ p,H p=none->Q (.ref p) (upd H p (.lst (xs++a)))
theorem vt:OpR X (binaryOp .Add) rCat:=by
 intro pins s σ H x y v u Q I m k h;obtain ⟨l,b,xs,A,rfl,rfl,o,g,hz,q⟩:=h;cases m;cases k;obtain ⟨z,c,n,r,t,e⟩:=I.lstM o;obtain ⟨p,a,w,f,j,i⟩:=I.lstM g;refine PySem.P.add_list e i ?_ (by rw [EN,EN];omega);have d:c.toArray++a.toArray=(c++a).toArray:=by simp
 rw [d];exact ⟨.ref _,_,I.lnew (r.append f) (by rw [FC];omega),rfl,q _ I.fresh⟩
def rRep:R2:=λx y H Q=>∃ l k xs,x=.ref l/\y=.int k/\H l=some (.lst xs)/\-(2 ^ 63)<=k/\k<2 ^ 63/\xs.length * k.toNat<=sizeLine /\
 ∀ p,H p=none->Q (.ref p) (upd H p (.lst (List.replicate k.toNat xs).flatten))
theorem gz {a:Type} (xs:List a) (k:Nat):(List.replicate k xs).flatten.length=k * xs.length:=by simp_all
theorem yX:OpR X (binaryOp .Mult) rRep:=by
 intro pins s σ H x y v u Q I rx ry h;obtain ⟨l,k,xs,rfl,rfl,hH,h1,h2,hz,q⟩:=h;cases rx;obtain ⟨t,rfl⟩:=ry;obtain ⟨z,its,n,r,hl,e⟩:=I.lstM hH;have hlen:its.toArray.size * k.toNat<=sizeLine:=by rw [EN,<- hl];exact hz
 have hcap:¬ its.toArray.size * k.toNat > (2 ^ 63-1) / 8:=by
  have:(sizeLine:Nat)<=(2 ^ 63-1) / 8:=by decide
  omega
 have hfit:¬ (!Builtin.List.listFitsIndex k)=true:=by
  rw [fitsIndex_both h1 h2];exact EH
 have hlong:¬ Builtin.List.listTooLong (its.toArray.size * k.toNat)=true:=by
  rw [oS hlen];exact EH
 have hnew:List.foldl (λx1 x2=>x1++x2) #[] (List.replicate (if its.toArray.isEmpty=true then 0 else k.toNat) its.toArray)=(List.replicate k.toNat its).flatten.toArray:=by
  have f0:=λm=>by
   have:=S8 its m [];rw [List.nil_append] at this;exact this
  rw [f0];cases its with
  | nil=>simp
  | cons a r'=>rw [if_neg (by simp)]
 refine GC (by decide) ⟨_,e,rfl⟩ (λs'=>Hj s' k t) noFill_list_mul F.fills_int_mul F.slot_int_rmul repeat_list F.slot_int_index.lookup
  (Gy F.slot_int_rmul (Hj s k t) F.entry_int_rmul (F.args_int_rmul_2 _ _) (int___rmul___int_list k t l its.toArray n)
   ⟨e,rfl,⟨_,e,rfl⟩,Gy F.slot_list_mul ⟨_,e,rfl⟩ F.entry_list_mul (F.args_list_mul_2 _ _) (AutoListH.list___mul___list_int_3 l its.toArray n k t hfit hcap hlong) ⟨e,?_⟩⟩)
 rw [hnew];exact ⟨.ref _,_,I.lnew (r.rep k.toNat) (by rw [gz,Nat.mul_comm];exact hz),rfl,q _ I.fresh⟩
end
section
variable {κ:Type} [DecidableEq κ]
def O2 (a:List (κ×V)) (k:κ):Option V:=(a.find? λb=>decide (b.1=k)).map (·.2)
def v5 (a:List (κ×V)) (k:κ) (v:V):List (κ×V):=
 if (a.any λb=>decide (b.1=k))=true then a.map (λb=>if b.1=k then (b.1,v) else b) else a++[(k,v)]
theorem O8 {k:κ} (e:p.1=k):O2 (p :: r) k=some p.2:=by simp [O2,FB,e]
theorem Q0 {k:κ} (e:¬ p.1=k):O2 (p :: r) k=O2 r k:=by simp [O2,FB,e]
theorem eR (k:κ):∀ a:List (κ×V),(a.any λb=>decide (b.1=k))=(O2 a k).isSome
 | []=>rfl
 | p :: r=>by
  rw [GL];by_cases e:p.1=k
  ·simp only [O8 e,EO e,Bool.true_or,Option.isSome_some]
  ·rw [Q0 e,EX e,Bool.false_or];exact eR k r
theorem G9 (a:List (κ×V)) (k:κ) (v:V):(v5 a k v).length<=a.length+1:=by
 unfold v5;grind
theorem RelO.isSome_eq (r:RelO o u):o.isSome=u.isSome:=by
 cases o with
 | none=>cases u with
  | none=>rfl
  | some _=>exact (r).elim
 | some _=>cases u with
  | none=>exact (r).elim
  | some _=>rfl
theorem KV.val (r:KV kvs vs) (k:κ):RelO (O2 kvs k) (valueAt vs k):=by
 induction r with
 | nil=>exact True.intro
 | @cons p q ps a h t g=>
  obtain ⟨d,f⟩:=h;by_cases e:p.1=k
  ·have c:=d.symm.trans e;have b:valueAt (q :: a) k=some q.2:=by simp [valueAt,FB,c]
   rw [O8 e,b];exact f
  ·have c:¬ q.1=k:=λz=>e (d.trans z);have b:valueAt (q :: a) k=valueAt a k:=by simp [valueAt,FB,c]
   rw [Q0 e,b];exact g
theorem KV.any {kvs:List (κ×V)} {vs:List (κ×Value)} (r:KV kvs vs) (k:κ):(kvs.any λkv=>decide (kv.1=k))=vs.any λkv=>decide (kv.1=k):=by
 unfold KV at r;induction r with
 | nil=>rfl
 | cons h t ih=>rw [GL,GL,ih,h.1]
theorem KV.repl (r:KV kvs vs) (k:κ) {y:V} {u:Value} (d:RelV y u) :
  KV (kvs.map λa=>if a.1=k then (a.1,y) else a) (vs.map λa=>if a.1=k then (a.1,u) else a):=by
 induction r with
 | nil=>exact .nil
 | @cons p q ps g h t b=>
  rw [Fb,Fb];refine .cons ?_ b;obtain ⟨c,f⟩:=h;by_cases e:p.1=k
  ·grind
  ·grind
theorem KV.put (r:KV kvs vs) (k:κ) {y:V} {u:Value} (a:RelV y u):KV (v5 kvs k y) (stored vs k u):=by
 unfold v5 stored;rw [r.any k];by_cases e:(vs.any λb=>decide (b.1=k))=true
 ·rw [if_pos e,if_pos e];exact r.repl k a
 ·rw [if_neg e,if_neg e];exact Paired.snoc r ⟨rfl,a⟩
theorem KV.length {vs:List (κ×Value)} (r:KV kvs vs):kvs.length=vs.length:=Paired.length r
end
theorem bR {k:Key} {u:Value} (r:RelV (kV k) u):(j5 P w).is k u=true:=by
 cases k with
 | inl i=>obtain ⟨t,e⟩:=(r);subst e;exact di P w i t
 | inr x=>obtain ⟨t,e⟩:=(r);subst e;exact fK P w x t
theorem bm:∀ {a:List Key} {us:List Value},Vals (a.map kV) us->ItemsAre (j5 P w) a us
 | [],_,r=>by rw [List.map_nil] at r;cases r;exact .nil
 | k :: a,_,r=>by
  rw [Fb] at r;cases r with
  | cons h t=>exact .cons (bR h) (bm t)
abbrev KT (H:Hp):List (List Key×V)->List (List Key×Addr×Value)->Prop:=Paired λp q=>p.1=q.1/\H q.2.1=some (.tup (p.1.map kV))/\RelV p.2 q.2.2
theorem KT.val (r:KT H kvs xs) (k:List Key):RelO (O2 kvs k) ((atKey xs k).map (·.2)):=by
 induction r with
 | nil=>exact True.intro
 | @cons p q ps a h t g=>
  obtain ⟨d,_,f⟩:=h;by_cases e:p.1=k
  ·have c:=d.symm.trans e;have b:atKey (q :: a) k=some q.2:=by simp [atKey,FB,c]
   rw [O8 e,b];exact f
  ·have c:¬ q.1=k:=λz=>e (d.trans z);have b:atKey (q :: a) k=atKey a k:=by simp [atKey,FB,c]
   rw [Q0 e,b];exact g
theorem KT.repl {H:Hp} {kvs:List (List Key×V)} {xs:List (List Key×Addr×Value)} (r:KT H kvs xs) (k:List Key) {y:V} {u:Value} (ry:RelV y u) :
  KT H (kvs.map λkv=>if kv.1=k then (kv.1,y) else kv) (xs.map (putAt k u)):=by
 induction r with
 | nil=>exact .nil
 | @cons p q ps qs h t ih=>
  rw [Fb,Fb];refine .cons ?_ ih;obtain ⟨h1,h2,h3⟩:=h;unfold putAt;by_cases e:p.1=k
  ·rw [if_pos e,if_pos (h1.symm.trans e)];exact ⟨h1,h2,ry⟩
  ·rw [if_neg e,if_neg (λz=>e (h1.trans z))];exact ⟨h1,h2,h3⟩
theorem KT.put (r:KT H kvs xs) (k:List Key) {b:Addr} {y:V} {u:Value} (c:H b=some (.tup (k.map kV))) (a:RelV y u) :
  KT H (v5 kvs k y) (storedH xs k b u):=by
 have e:(kvs.any λd=>decide (d.1=k))=(atKey xs k).isSome:=by
  rw [eR,(r.val k).isSome_eq,Gv]
 unfold v5 storedH;rw [e];by_cases q:(atKey xs k).isSome=true
 ·rw [if_pos q,if_pos q];exact r.repl k a
 ·rw [if_neg q,if_neg q];exact Paired.snoc r ⟨rfl,c,a⟩
theorem KT.keeps {a:List (List Key×V)} {xs:List (List Key×Addr×Value)} (r:KT H a xs) (c:∀ b ys,H b=some (.tup ys)->H' b=some (.tup ys)):KT H' a xs:=
 Paired.mapP r λ_ _ z=>⟨z.1,c _ _ z.2.1,z.2.2⟩
section
variable {P:Program} {w:World} {H:Hp} {h:Heap} {a:Addr}
theorem vY (b:HOk P w H h) (e:Rd H a u):ObjOk P w H h a u:=e.ok b
theorem bj (b:HOk P w H h) (e:Rd H a (.dK kvs)):kvs.length<=sizeLine/\(a==sysModules)=false/\∃ vs,KV kvs vs/\h.DictOf (j5 P w) a vs:=
 vY b e
theorem oq (b:HOk P w H h) (e:H a=some (.dK kvs)):kvs.length<=sizeLine/\(a==sysModules)=false/\∃ vs,KV kvs vs/\h.DictOf (j5 P w) a vs:=bj b (.inl e)
theorem aJ (g:HOk P w H h) (e:H a=some (.tup (ks.map kV))):(tupleKind (j5 P w)).is h ks a:=by
 obtain ⟨_,b,r,o,c,d,n,f⟩:=(g a _ e);exact ⟨o,b.toArray,n,c,d,f.1,by simpa using bm r⟩
theorem ee (d:HOk P w H h) (e:Rd H a (.dT kvs)):kvs.length<=sizeLine/\(a==sysModules)=false /\
  ∃ xs,KT H kvs xs/\h.DictOfH (tupleKind (j5 P w)) a xs:=by
 obtain ⟨z,y,xs,r,o,es,s,g,j,n,i,u⟩:=(vY d e);refine ⟨z,y,xs,r,o,es,s,g,j,n,i,λx b=>?_,u⟩;have f:∀ {l:List (List Key×V)} {m:List (List Key×Addr×Value)},KT H l m->∀ x∈m,(tupleKind (j5 P w)).is h x.1 x.2.1:=by
  intro l m q;induction q with
  | nil=>intro x b;exact nomatch b
  | @cons p q ps v c t k=>
   intro x b;rcases EU.mp b with e | b
   ·subst e;exact aJ d (by rw [<- c.1];exact c.2.1)
   ·exact k x b
 grind
theorem BC (b:HOk P w H h) (e:H a=some (.dT kvs)):kvs.length<=sizeLine/\(a==sysModules)=false /\
  ∃ xs,KT H kvs xs/\h.DictOfH (tupleKind (j5 P w)) a xs:=ee b (.inl e)
end
def DGet (H:Hp) (a:Addr) (y:V) (r:Option V):Prop:=
 (∃ c k,Rd H a (.dK c)/\y=kV k/\r=O2 c k)\/∃ c k b,Rd H a (.dT c)/\y=.ref b/\H b=some (.tup (k.map kV))/\r=O2 c k
def DPut (H:Hp) (a:Addr) (y v:V) (H':Hp):Prop:=
 (∃ c k,H a=some (.dK c)/\y=kV k/\c.length<sizeLine/\H'=upd H a (.dK (v5 c k v))) \/
 ∃ c k b,H a=some (.dT c)/\y=.ref b/\H b=some (.tup (k.map kV))/\c.length<sizeLine/\H'=upd H a (.dT (v5 c k v))
theorem DGet.k {k:Key} (e:H a=some (.dK kvs)):DGet H a (kV k) (O2 kvs k):=.inl ⟨kvs,k,.inl e,rfl,rfl⟩
theorem DPut.k {k:Key} {v:V} (e:H a=some (.dK kvs)) (b:kvs.length<sizeLine):DPut H a (kV k) v (upd H a (.dK (v5 kvs k v))):=.inl ⟨kvs,k,e,rfl,b,rfl⟩
section
variable {X:Cx} {pins:List (Addr×Obj)} {σ:St} {H:Hp} {s:Shared} {a:Addr} {y v:V} {u r:Value} {o:Option V} {A:Around} {E:Value->Shared->Prop}
theorem Inv.big (I:Inv X pins σ H s):sysModules<s.heap.objs.size:=by
 have h:=(I.mod.glob.keeps I.bk).lt;exact Nat.lt_trans (by decide) h
theorem jd (t:A.units+1<cLine) (I:Inv X pins σ H s) (g:DGet H a y (some v)) (o:RelV y u) (h:∀ w' s',Inv X pins σ H s'->RelV v w'->Q w' s') :
  wpAny (model X.prog X.w) A (getItem (.ref a) u) Q E s:=by
 rcases g with ⟨n,k,e,i,l⟩ | ⟨n,k,b,e,i,q,l⟩
 ·subst i;obtain ⟨z,hd,vs,d,f⟩:=bj I.hok e;obtain ⟨w',m,c⟩:=RelO.some_of (by rw [l];exact d.val k);exact wpAny_getItem_of (bR o) f.mapOf m (h w' _ (I.tok _) c)
 ·subst i;cases (o);obtain ⟨z,hd,xs,d,f⟩:=ee I.hok e;obtain ⟨w',m,c⟩:=RelO.some_of (by rw [l];exact d.val k);obtain ⟨p,r,j⟩:=FS.mp m;refine wpAny_getItem_heap (GS t) (aJ I.hok q) f r ?_;rw [j];exact h w' _ (I.tok _) c
theorem DX (n:A.units+1<cLine) (I:Inv X pins σ H s) (g:DGet H a y o) (j:RelV y u) (h:∀ s',Inv X pins σ H s'->Q (.bool o.isSome) s') :
  wpAny (model X.prog X.w) A (compareOp .In u (.ref a)) Q E s:=by
 rcases g with ⟨i,k,e,f,l⟩ | ⟨i,k,b,e,f,m,l⟩
 ·subst f;obtain ⟨z,hd,vs,c,d⟩:=bj I.hok e;refine wpAny_in_of (bR j) hd d.mapOf ?_;rw [<- (c.val k).isSome_eq,<- l];exact h _ (I.tok _)
 ·subst f;cases (j);obtain ⟨z,hd,xs,c,d⟩:=ee I.hok e;refine wpAny_in_heap (GS n) (aJ I.hok m) hd d ?_;have q:=(c.val k).isSome_eq;rw [Gv] at q;rw [<- q,<- l];exact h _ (I.tok _)
theorem qE (n:A.units+1<cLine) (I:Inv X pins σ H s) (g:DGet H a y o) (j:RelV y u) (h:∀ s',Inv X pins σ H s'->Q (.bool (!o.isSome)) s') :
  wpAny (model X.prog X.w) A (compareOp .NotIn u (.ref a)) Q E s:=by
 rcases g with ⟨i,k,e,f,l⟩ | ⟨i,k,b,e,f,m,l⟩
 ·subst f;obtain ⟨z,hd,vs,c,d⟩:=bj I.hok e;refine wpAny_notIn_of (bR j) hd d.mapOf ?_;rw [<- (c.val k).isSome_eq,<- l];exact h _ (I.tok _)
 ·subst f;cases (j);obtain ⟨z,hd,xs,c,d⟩:=ee I.hok e;refine wpAny_notIn_heap (GS n) (aJ I.hok m) hd d ?_;have q:=(c.val k).isSome_eq;rw [Gv] at q;rw [<- q,<- l];exact h _ (I.tok _)
theorem Q6 {ob:HO} (I:Inv X pins σ H s) (e:Mut (H a)) (hs:Heap.SameBut a s.heap h') (d:∃ q,h'.get? a=some q) (c:ObjOk X.prog X.w (upd H a ob) h' a ob) :
  Inv X pins σ (upd H a ob) { s with heap:=h',toks:=t' }:=
 I.write e (.inl rfl) (λb q f z=>(hs.2 b f).trans z) d c
theorem lj {b:List (Key×V)} {vs:List (Key×Value)} (z:b.length<=sizeLine) (hd:(a==sysModules)=false) (c:KV b vs) (d:h'.DictOf (j5 P w) a vs) :
  ObjOk P w H' h' a (.dK b):=⟨z,hd,vs,c,d⟩
theorem ko (L:A.units+1<cLine) (I:Inv X pins σ H s) (g:DPut H a y v H') (w:RelV y u) (B:RelV v r) (h:∀ s',Inv X pins σ H' s'->Q () s') :
  wpAny (model X.prog X.w) A (setItem (.ref a) u r) Q E s:=by
 rcases g with ⟨d,k,e,p,l,n⟩ | ⟨d,k,b,e,p,t,l,n⟩
 ·subst p n;obtain ⟨z,hd,vs,f,o⟩:=oq I.hok e;have hz:vs.length<=sizeLine:=by rw [<- f.length];exact z
  have m:(v5 d k v).length<=sizeLine:=by have:=G9 d k v;omega
  refine wpAny_setItem_pairs (bR w) o λh' i hs=>h _ ?_;have D:∃ q,h'.get? a=some q:=let ⟨q,_,_,j,_⟩:=i;⟨q,j⟩
  exact Q6 I (by rw [e];exact True.intro) hs D (lj m hd (f.put k B) i)
 ·subst p n;cases (w);obtain ⟨z,hd,xs,f,o⟩:=BC I.hok e;have hz:xs.length<=sizeLine:=by rw [<- Paired.length f];exact z
  have m:(v5 d k v).length<=sizeLine:=by have:=G9 d k v;omega
  refine wpAny_setItem_heap (GS L) (aJ I.hok t) o λh' i hs=>h _ ?_;obtain ⟨q,es,F,j,J,K,C,_,G⟩:=i;refine Q6 I (by rw [e];exact True.intro) hs ⟨q,j⟩ ⟨m,hd,_,(f.put k t B).keeps λc ys x=>?_,q,es,F,j,J,K,C,G⟩;rw [a7 (jD x e (λz=>nomatch z))];exact x
end
section
variable {X:Cx} {pins:List (Addr×Obj)} {σ:St} {H:Hp} {s:Shared} {a:Addr} {kvs:List (Key×V)} {k:Key} {u:Value} {A:Around} {E:Value->Shared->Prop}
theorem zw (I:Inv X pins σ H s) (e:Rd H a (.dK kvs)) (h:∀ t s',Inv X pins σ H s'->Q (.int kvs.length t) s'):wpAny (model X.prog X.w) A (call (.builtin "len") [.ref a]) Q E s:=by
 obtain ⟨z,hd,vs,b,c⟩:=bj I.hok e;refine call_len_dict hd c (by rw [<- b.length];rw [Fj] at z;omega) ?_;rw [<- b.length];exact h _ _ (I.tok _)
end
theorem dh {σ:St} {H:Hp} {s:Shared} {a:Addr} {y:V} {o:Option V} (I:Inv X pins σ H s) (g:DGet H a y o):s.TypeIs (.ref a) "dict":=by
 rcases g with ⟨d,k,e,_,_⟩ | ⟨d,k,b,e,_,_,_⟩
 ·obtain ⟨_,_,vs,_,c⟩:=bj I.hok e;exact c.typeIs
 ·obtain ⟨_,_,xs,_,c⟩:=ee I.hok e;exact c.typeIs
theorem fL (h:Heap) (a:sysModules<h.objs.size):ObjOk P w H (h.push { cls:=.type "dict",data:=.dict #[] }) h.objs.size (.dK []):=
 ⟨FU _,GE.mpr (Ne.symm (EQ a)),[],.nil,Heap.DictOf.new h⟩
def au:List (TE×TE)->St->Hp->(List (V×V)->Hp->Prop)->Prop
 | [],_,H,Q=>Q [] H
 | (d,a) :: r,σ,H,Q=>d σ H λx c=>a σ c λy e=>au r σ e λps b=>Q ((x,y) :: ps) b
abbrev VV:List (V×V)->List (Value×Value)->Prop:=Paired λp q=>RelV p.1 q.1/\RelV p.2 q.2
def PPs (X:Cx) (pos:Pos) (b:List (Option Expr)) (a:List Expr) (c:List (TE×TE)):Prop:=
 ∀ (pins:List (Addr×Obj)) (s:Shared) (σ:St) (H:Hp) (Q:List (V×V)->Hp->Prop),Inv X pins σ H s->au c σ H Q ->
  wpAny (model X.prog X.w) X.A (evalPairs (pairTrees b a X.env pos)) (λvs s'=>∃ ps H',Inv X pins σ H' s'/\VV ps vs/\Q ps H') X.xe s
theorem iV:PPs X pos [] [] []:=λpins s σ H Q I h=>pairTrees_nil_walk ⟨[],H,I,.nil,h⟩
theorem eh {k v:Expr} {d:List (Option Expr)} {vs:List Expr} {e c:TE} {a:List (TE×TE)} (f:PE X k e) (m:PE X v c) (j:PPs X pos d vs a) :
  PPs X pos (some k :: d) (v :: vs) ((e,c) :: a):=λpins s σ H Q I h=>
 pairTrees_cons_walk (thn (f pins s σ H _ I h) λu l ⟨x,p,n,r,t⟩=>thn (m pins l σ p _ n t) λC A ⟨y,B,w,g,i⟩=>
  thn (j pins A σ B _ w i) λws D ⟨ps,z,o,b,q⟩=>⟨(x,y) :: ps,z,o,.cons ⟨r,g⟩ b,q⟩)
def N2 (c a:List (Key×V)):List (Key×V):=a.foldl (λb d=>v5 b d.1 d.2) c
theorem KV.merge:∀ {a:List (Key×V)} {rs:List (Key×Value)} {b:List (Key×V)} {vs:List (Key×Value)},KV a rs->KV b vs->KV (N2 b a) (merged vs rs):=by
 intro a rs b vs r;induction r generalizing b vs with
 | nil=>intro q;exact q
 | @cons p q ps f h t c=>
  intro d;have e:KV (v5 b p.1 p.2) (stored vs q.1 q.2):=by
   have:=d.put p.1 h.2;rw [<- h.1];exact this
  exact c e
theorem M0:∀ (b a:List (Key×V)),(N2 a b).length<=a.length+b.length
 | [],a=>by show a.length<=a.length+0;omega
 | p :: r,a=>by
  have d:=M0 r (v5 a p.1 p.2);have c:=G9 a p.1 p.2;show (N2 (v5 a p.1 p.2) r).length<=_;rw [Fy];omega
theorem Z1:∀ {d:List (Key×V)} {ws:List (Value×Value)},VV (d.map λe=>(kV e.1,e.2)) ws->∃ rs,Carries (j5 P w) ws rs/\KV d rs
 | [],_,r=>by rw [List.map_nil] at r;cases r;exact ⟨[],True.intro,.nil⟩
 | p :: d,_,r=>by
  rw [Fb] at r;cases r with
  | @cons a b j i h t=>
   obtain ⟨rs,c,q⟩:=Z1 t;obtain ⟨g,f⟩:=b;exact ⟨(p.1,f) :: rs,⟨bR h.1,rfl,c⟩,.cons ⟨rfl,h.2⟩ q⟩
def CK (b:List (TE×TE)):TE:=λσ H Q=>∀ p,H p=none->au b σ (upd H p (.dK [])) λps c=>c p=some (.dK [])/\∃ a:List (Key×V),ps=a.map (λd=>(kV d.1,d.2))/\a.length<=15/\Q (.ref p) (upd c p (.dK (N2 [] a)))
theorem sU (h:PPs X pos keys values trs) (d:keys.all (·.isSome)=true) (k:keys.length=values.length) (u:keys≠[])
  (f:keys.length<=15):PE X (.Dict keys values pos) (CK trs):=by
 intro pins s σ H Q I q;have t:=I.hok.fresh (EI s.heap.objs.size);have p:=I.laid (t':=s.toks) (λ_ _ q=>Ew _ q) (EI _) (fL s.heap I.big);refine wpAny_Dict_walk (knd:=j5 X.prog X.w) d k u f (thn (h pins _ σ _ _ p (q _ t)) λws A ⟨ps,B,i,g,e,a,r,y,l⟩=>?_);subst r;obtain ⟨rs,c,n⟩:=Z1 g;obtain ⟨z,hd,x,m,v⟩:=oq i.hok e;cases m;refine ⟨rs,c,v,λh' b hs=>⟨.ref s.heap.objs.size,_,?_,rfl,l⟩⟩;have hz:(N2 [] a).length<=sizeLine:=by
  have j:=M0 a [];rw [List.length_nil] at j;rw [Fj];omega
 have o:∃ q,h'.get? s.heap.objs.size=some q:=let ⟨q,_,_,w,_⟩:=b;⟨q,w⟩
 exact Q6 i (by rw [e];exact True.intro) hs o (lj hz hd (n.merge .nil) b)
end L2
namespace Att
open PySem PySem.W PySem.Calls PyProof.Rows
theorem V7:∀ (ns:List Int) (vs:List Value),WellAll P h vs (ns.map WData.int)->IntsAre vs ns:=by
 intro ns;induction ns with
 | nil=>
  intro vs w;rw [List.map_nil] at w;cases w;exact .nil
 | cons n ns c=>
  intro vs w;rw [Fb] at w;cases w with
  | cons a b=>
   cases a;exact .cons _ _ (c _ b)
theorem kJ {l:OpenLaw} {n:Nat} (hn:l.most=some n) {P:Params} {h:Heap} {args:List WData} {vals:List Value}
  (hpre:l.row.toRowW.claim.pre args=true) (hwl:WellAll P h vals args) :
  ∃ a vs ns,vals=[Value.ref a]/\args=[WData.list (ns.map WData.int)]/\h.get? a=some { cls:=.type "list",data:=.seq vs.toArray }/\IntsAre vs ns/\ns.length<=n:=by
 have hsh:=(pre_splitW hpre).1;have hc:=(pre_splitW hpre).2;obtain ⟨d,r,rfl,h1,h2⟩:=hasAllW_cons hsh;obtain rfl:=hasAllW_nil h2;obtain ⟨xs,rfl,h3⟩:=hasW_list h1;obtain ⟨ns,rfl⟩:=items_int h3;have hlen:ns.length<=n:=by
  have h4:(WTm.not (.lt (.lit (.int (n:Int))) (.len (.arg 0)))).holds [] { args:=[.list (ns.map .int)] }=true:=by
   have h4:=(holds_andW hc).1;rw [hn] at h4;exact h4
  have h5:=condW_of h4 (w_not (w_lt w_lit (w_len_list (w_arg rfl))));rw [Es] at h5;refine FE λq=>?_;have q':(n:Int)<((ns.length:Nat):Int):=by omega
  first
   | (rw [EO q'] at h5;exact absurd h5 (by decide))
   | (simp at h5;omega)
 cases hwl with
 | cons w1 w2=>
  cases w2;cases w1 with
  | list ho hall=>exact ⟨_,_,ns,rfl,rfl,ho,V7 ns _ hall,hlen⟩
theorem ju (l:OpenLaw) (a:List WData):l.row.toRowW.claim.post a (.bool true) a=true:=
 postW_of
  (show WShape.has [] (.bool true) .bool=true by first | rfl | decide | simp [WShape.has,WShape.arms,WShape.armsAll])
  (w_eq_bool (w_res rfl) w_lit) rfl
theorem attach_call {l:OpenLaw} {n:Nat} {q:Program} {e:List Str} {H:(Str->Option Value)->Heap->Prop} {D:World->Heap->Prop} {d:DefRec}
  (M:l.most=some n) (z:d.params.defaults=[])
  (k:∀ (w:World) (c b:Shared) (s A:Str->Option Value) (m:Addr) (o:Obj) (x t g:Value) (a:Addr) (vs:List Value) (ns:List Int),
   Ground q e [] H w c s A b.heap->D w b.heap ->
   b.heap.get? m=some o->o.data=.func (docDef d.name d.params d.body d.scope x t g)->b.heap.CodeRec t d.name->s d.name=some (.ref m) ->
   b.heap.get? a=some { cls:=.type "list",data:=.seq vs.toArray }->IntsAre vs ns->ns.length<=n->b.gens=#[] ->
   codeAny (model l.prog w) callerA (.call (.ref m) ⟨[.ref a],[]⟩) (λr s'=>r=.ok (.ret (.bool true))/\OldK b.heap s'.heap/\s'.os=b.os/\AllBare s'.gens) b) :
  WalkO q e H D l.row.toRowW d [] (λf vs=>PySem.call f vs):=by
 intro w c b s A G Y m o x t g L I Q hd y B v S E C U j F P u K;obtain rfl:L=.none:=Dflts.none B z;obtain rfl:I=.none:=Dflts.noKw B;obtain ⟨a,vs,ns,rfl,rfl,i,h,p⟩:=kJ M j u;refine enter_call (GA (k w c b s A m o x t g a vs ns G Y Q (fd_plain hd) y v i h p S) λr s' R=>?_);obtain ⟨rfl,N,T,J⟩:=R;exact ⟨.inl ⟨.bool true,.bool true,[],rfl,λ_=>rfl,.bool true,ju l _,λ_=>⟨List.Pairwise.nil,λ_ O=>(nomatch O)⟩⟩,N,T,J⟩
end Att
namespace L2
open PySem PySem.Spec PyProof.Rows
theorem D1:∀ {vs:List Value} {ns:List Int},IntsAre vs ns->Vals (ns.map V.int) vs
 | _,_,.nil=>.nil
 | _,_,.cons n t h=>.cons ⟨t,rfl⟩ (D1 h)
def wJ (H:Hp):Prop:=∀ b,H b=none\/∃ o xs,H b=some (.frz o (.lst xs))
theorem pA {K:PySem.W.Frag} {mg mb:Str->Option Value} {CX:CXT} {k:Nat} {fa a:Addr} {fd:FuncData} {x:Str} {sp:Sp} {s₁:Shared} {vs:List Value} {ns:List Int}
  (KX:K.In s₁.heap) (hns:s₁.heap.Ns mainGlobals mg) (hb:s₁.heap.Ns builtinsNs mb) (hbb:∀ x:Str,x ≠ "__name__"->mb x=bootBuiltins x) (hlim:s₁.heap.NoLimit) (hg:s₁.gens=#[])
  (ha:s₁.heap.get? a=some { cls:=.type "list",data:=.seq vs.toArray }) (hi:IntsAre vs ns) (hl:ns.length<=sizeLine) (hr:Room false k callerA)
  (F:∀ base:Heap,K.In base->base.Ns mainGlobals mg->FnOk P w K mg base CX k fa fd [x] sp) (hbind:∀ (s:Shared) (u:Value),BindsTo s fd ⟨[u],[]⟩ [(x,u)])
  (hsp:∀ H:Hp,wJ H->SqL K H a (ns.map V.int)->sp [.ref a] H (λv _=>v=.bl true) λ_ _ _=>False)
  (hCX:∀ H e s',CX [] H s₁ (λ_ _ _=>False) e s'->False) :
  codeAny (model P w) callerA (.call (.ref fa) ⟨[.ref a],[]⟩) (λr s'=>r=.ok (.ret (.bool true))/\OldK s₁.heap s'.heap/\s'.os=s₁.os/\AllBare s'.gens) s₁:=by
 have rv:=D1 hi;have lenV:=hi.length;have core:∀ H:Hp,wJ H->SqL K H a (ns.map V.int)->HOk P w H s₁.heap->(∀ b,H b≠none->b=a)->(H a≠none->K.lookup a=none) ->
   codeAny (model P w) callerA (.call (.ref fa) ⟨[.ref a],[]⟩) (λr s'=>r=.ok (.ret (.bool true))/\OldK s₁.heap s'.heap/\s'.os=s₁.os/\AllBare s'.gens) s₁:=by
  intro H hO hS hok hA hK;have D9:∀ {b:Addr} {o:Obj},s₁.heap.get? b=some o->H b=none->(fA s₁.heap H).get? b=some o:=λe n=>nE e n;have noA:∀ {b:Addr} {o:Obj} {es:Array DictEntry} {ep:Nat},s₁.heap.get? b=some o->o.data=.dict es ep->H b=none:=λ{b o es ep} e d=>by
   cases q:H b with
   | none=>rfl
   | some u=>
    have e':=hA b (by rw [q];simp);subst e';rw [ha] at e;cases e;have d':=d;cases d'
  have nsK:∀ {b:Addr} {m:Str->Option Value},s₁.heap.Ns b m->(fA s₁.heap H).Ns b m:=λ{b m} ⟨o,es,ep,e,d,r⟩=>⟨o,es,ep,D9 e (noA e d),d,r⟩;have hKb:=λb o e=>D9 (KX b o e) (by
   cases q:H b with
   | none=>rfl
   | some u=>
    have e':=hA b (by rw [q];simp);subst e';rw [hK (by rw [q];simp)] at e;cases e)
  have hM:Mod K mg (fA s₁.heap H):=⟨hKb,nsK hns,⟨mb,nsK hb,hbb⟩,let ⟨mc,h1,h2⟩:=hlim;⟨mc,nsK h1,h2⟩⟩;have e0:Env0 P w K mg (fA s₁.heap H) callerA [] s₁ H:=⟨rfl,hM,λb o e=>uJ e,Nat.le_of_eq (jh _ _),trivial,λb hb=>absurd (show b∈([]:List Addr) from hb) (by simp),hok,.of_eq hg⟩;refine GA ((F _ hKb (nsK hns)).run callerA [] s₁ H ⟨[.ref a],[]⟩ [.ref a] [.ref a] _ _ hr.any e0 (hbind s₁ (.ref a)) (.cons rfl .nil) (hsp H hO hS)) λr s' h=>?_;cases r with
  | error e=>exact (hCX H e s' h).elim
  | ok fl=>
   cases fl with
   | next=>exact False.elim h
   | brk=>exact False.elim h
   | cont=>exact False.elim h
   | ret u=>
    obtain ⟨v,H',os,bare,un,hok',r',q⟩:=h;have q':=q;subst q';obtain rfl:u=Value.bool true:=r';refine ⟨rfl,OldK.of_keep λb o e=>?_,os,bare⟩;cases q:H b with
    | none=>exact un.keep b o e q (by intro z;exact absurd (show b∈([]:List Addr) from z) (by simp)) (by simp)
    | some u=>
     rcases hO b with z | ⟨ob,xs,z⟩
     ·rw [q] at z;cases z
     ·have z2:=un.frzs b ob _ z;obtain ⟨e1,_⟩:=hok b _ z;obtain ⟨e2,_⟩:=hok' b _ z2;rw [e] at e1;cases e1;exact e2
 cases hk:K.lookup a with
 | some o=>
  have e:=KX a o hk;rw [ha] at e;cases e;refine core (λ_=>none) (λ_=>.inl rfl) (.inr ⟨_,vs.toArray,_,hk,rfl,rfl,rfl,by rw [EN,lenV];exact hl,by simpa using rv⟩) (λb u z=>by have z':=z;cases z') (λb z=>absurd rfl z) λz=>absurd rfl z
 | none=>
  refine core (λb=>if b=a then some (.frz { cls:=.type "list",data:=.seq vs.toArray } (.lst (ns.map V.int))) else none) (λb=>?_) (.inl (.inr ⟨{ cls:=.type "list",data:=.seq vs.toArray },if_pos rfl⟩)) (λb u z=>?_) (λb z=>?_) λ_=>hk
  ·grind
  ·by_cases hb:b=a
   ·have z':=(if_pos hb).symm.trans z;cases z';subst hb;exact ⟨ha,by rw [Es];exact hl,vs,_,rv,ha⟩
   ·grind
  ·grind
theorem walk_of {l:PySem.W.OpenLaw} {n k:Nat} {q:Program} {g:List Str} {Q:(Str->Option Value)->Heap->Prop} {D:World->Heap->Prop} {d:DefRec} {K:Params->PySem.W.Frag} {CX:World->CXT} {sp:World->Sp} {x:Str}
  (O:l.most=some n) (A:n<=sizeLine) (B:d.params.defaults=[]) (M:Room false k callerA)
  (S:∀ (w:World) (h:Heap),D w h->(K w.params).In h)
  (F:∀ (w:World) (j:Str->Option Value) (r:Addr) (h:Heap),(K w.params).In h->h.Ns mainGlobals j->j d.name=some (.ref r) ->
   ∃ fd:FuncData,(∀ (s:Shared) (u:Value),BindsTo s fd ⟨[u],[]⟩ [(x,u)]) /\
    ∀ b:Heap,(K w.params).In b->b.Ns mainGlobals j->FnOk l.prog w (K w.params) j b (CX w) k r fd [x] (sp w))
  (t:∀ (w:World) (H:Hp) (a:Addr) (ns:List Int),ns.length<=n->wJ H->SqL (K w.params) H a (ns.map V.int)->sp w [.ref a] H (λv _=>v=.bl true) λ_ _ _=>False)
  (z:∀ (w:World) (H:Hp) (s:Shared) (e:Value) (s':Shared),CX w [] H s (λ_ _ _=>False) e s'->False) :
  PySem.W.WalkO q g Q D l.row.toRowW d [] (λf vs=>PySem.call f vs):=by
 refine Att.attach_call O B λw C m j Z r o U W J a vs ns G Y X hd P y p i c R=>?_;have E:=S w _ Y;obtain ⟨fd,N,I⟩:=F w j r _ E G.T.g y;exact pA E G.T.g G.T.b G.T.builtins G.T.nolimit R p i (Fk c A) M I N (λH T L=>t w H a ns c T L) λH e s'=>z w H m e s'
def K8 (s:Stmt) (j:Nat):Stmt:=match s with
 | .ClassDef _ _ _ body _ _ _ _ _ _ _=>body.getD j (.Pass ⟨0,0,0,0⟩)
 | _=>.Pass ⟨0,0,0,0⟩
def j2 (s:Stmt):Arguments:=match s with
 | .FunctionDef _ a _ _ _ _ _ _ _ _=>a
 | _=>{ posonlyargs:=[],args:=[],vararg:=none,kwonlyargs:=[],kw_defaults:=[],kwarg:=none,defaults:=[] }
def f7 (s:Stmt):List Stmt:=match s with
 | .FunctionDef _ _ b _ _ _ _ _ _ _=>b
 | _=>[]
def b8 (s:Stmt):Scope:=match s with
 | .FunctionDef _ _ _ _ _ _ a _ _ _=>a
 | _=>{ kind:=.function,names:=[],isGenerator:=false,isCoroutine:=false }
abbrev CX0:CXT:=⟨λ_ _ _ _ _ _=>False,false⟩
abbrev E0:XK:=λ_ _ _=>False
theorem U3:u7 CX0 X E0:=λ_ _ _ _ _ _ _ h=>False.elim h
structure Fun (K:PySem.W.Frag) (x qual:Str) (st:Stmt) (f:Addr) (fd:FuncData):Prop where
 ex:∃ (oc:Value) (od:Option Addr) (kV doc pm:Value) (an:Option Addr) (cdv ct:Value) (osl:Array (Option Value)),
  fd=PySem.W.fnOf x qual (j2 st) (f7 st) (b8 st) .none kV doc pm an cdv ct/\K.lookup f=some ⟨oc,od,.func fd,osl⟩/\PySem.W.codeIn K cdv qual=true
 kp:PySem.W.keepIn K (.ref f)=true
section
variable {P:Program} {w:World} {K:PySem.W.Frag} {mg:Str->Option Value} {base:Heap}
theorem Fun.ok {st:Stmt} {f:Addr} {fd:FuncData} {N ps:List Str} {k:Nat} {sp:Sp} (F:Fun K x qual st f fd) (S:FnScope N ps (b8 st)) (e:∀ vs H Q E,sp vs H Q E->vs.length=ps.length)
  (c:∀ (b:Value) (A:Around) (a:List Env) (s:Shared) (H:Hp) (vs:List V) (Q:VK) (E:XK),Room false k (A.deeper (envOfC qual (b8 st) s.heap.objs.size f b))->sp vs H Q E ->
   ∃ t,PSs (bF CX0 P w K mg base N qual (b8 st) f b A a s H E).nox (f7 st) t/\t { nx:=λ_ H'=>Q .non H',rt:=Q } (start N vs) H):FnOk P w K mg base CX0 (k+1) f fd ps sp:=by
 obtain ⟨n,od,r,i,p,u,b,o,m,rfl,j,g⟩:=F.ex;refine vT j g S e λA a s H vs Q E l d=>?_;obtain ⟨t,h,q⟩:=c b A a s H vs Q E l d;exact ⟨t,h.nox,q⟩
theorem Fun.binds {st:Stmt} {f:Addr} {fd:FuncData} {ps:List Str} (F:Fun K x qual st f fd)
  (h:∀ (e b c:Value) (g:Option Addr) (a d:Value) (us:List Value),us.length=ps.length->bindArgs (PySem.W.fnOf x qual (j2 st) (f7 st) (b8 st) .none e b c g a d) ⟨us,[]⟩=pure (ps.zip us)):Binds K fd ps []:=by
 obtain ⟨k,od,e,b,c,g,a,d,j,rfl,l,i⟩:=F.ex;exact .all (h e b c g a d)
theorem G6 {st:Stmt} {f:Addr} {j:Value} {od h:Option Addr} {d:Array (Option Value)} {i b e a g:Value} (l:K.lookup f=some ⟨j,od,.func (PySem.W.fnOf x qual (j2 st) (f7 st) (b8 st) .none i b e h a g),d⟩)
  (c:PySem.W.codeIn K a qual=true) (k:PySem.W.keepIn K (.ref f)=true):Fun K x qual st f (PySem.W.fnOf x qual (j2 st) (f7 st) (b8 st) .none i b e h a g):=⟨⟨j,od,i,b,e,h,a,g,d,rfl,l,c⟩,k⟩
end
theorem BW {k:Nat} (a:Room q k A):A.units+1<cLine:=Nat.lt_of_le_of_lt (Nat.add_le_add_left (by decide:1<=64) _) a.units
section
variable {X:Cx}
theorem pv (i:Nat) {x:Str} {pos:Pos} (c:X.N[i]?=some x:=by rfl) (b:Vis X.env.scope x:=by first | exact Or.inl rfl | exact Or.inr (Or.inl rfl) | exact Or.inr (Or.inr rfl)) (hd:(x==("__debug__" : Str))=false:=by decide)
  (a:(x==("__classdict__" : Str))=false:=by decide):PE X (.Name x pos) (wH i):=nA c b hd a
theorem km:j8 X (.builtin "len") (λxs H Q=>∃ a b,xs=[V.ref a]/\H a=some (.dK b)/\Q (.int b.length) H):=by
 intro pins s σ H xs us Q I r h;obtain ⟨a,b,rfl,d,q⟩:=h;obtain ⟨u,rfl,e⟩:=ao r;cases e;exact zw I (.inl d) λt s' c=>⟨.int b.length,H,c,⟨t,rfl⟩,q⟩
end
theorem rq {A B:Prop} (h:A):if true=true then A else B:=by grind
def Same (H H':Hp):Prop:=∀ b o,H b=some o->H' b=some o
theorem Same.seq {K:PySem.W.Frag} {H H':Hp} {a:Addr} {xs:List V} (e:Same H H') (h:SqL K H a xs):SqL K H' a xs:=by
 rcases h with (h | ⟨o,h⟩) | h
 ·exact .inl (.inl (e _ _ h))
 ·exact .inl (.inr ⟨o,e _ _ h⟩)
 ·exact .inr h
theorem aD {b a:Type} (g:a->b->a) {f:b->a->Sem (ForInStep a)}:∀ (l:List b) (c:a),(∀ x∈l,∀ c,f x c=pure (.yield (g c x)))->forIn l c f=pure (l.foldl g c)
 | [],_,_=>rfl
 | x :: l,c,h=>by
  rw [FO,h x EL,pure_bind];exact aD g l (g c x) λy d=>h y (EM _ d)
def j6 (cells:List (Str×Addr)) (a:List (Str×Addr)) (x:Str×NameKind):List (Str×Addr):=if x.2=NameKind.free then (x.1,(cells.lookup x.1).getD 0) :: a else a
def R5 (cells:List (Str×Addr)) (a:List (Str×NameKind)):List (Str×Addr):=a.foldl (j6 cells) []
theorem B2 (h:∀ x∈scope.names,x.2=NameKind.free->∃ c,env.cells.lookup x.1=some c):closureFor scope env=pure (R5 env.cells scope.names):=by
 simp only [closureFor];rw [aD (j6 env.cells) scope.names [] (λx e c=>by
  obtain ⟨n,k⟩:=x;by_cases b:k=NameKind.free
  ·subst b;obtain ⟨a,d⟩:=h _ e rfl;simp [cellOf,j6,d]
  ·have:(k==NameKind.free)=false:=by simpa using b
   simp [j6,b,this])]
 rfl
theorem N7:∀ (b:List (Str×NameKind)) (f:List (Str×Addr)),(∀ x∈b,x.2=NameKind.free->∃ c,cells.lookup x.1=some c)->(∀ x c,f.lookup x=some c->cells.lookup x=some c) ->
  ∀ x c,(b.foldl (j6 cells) f).lookup x=some c->cells.lookup x=some c
 | [],_,_,g,x,c,e=>g x c e
 | y :: r,f,h,g,x,c,e=>by
  refine N7 r (j6 cells f y) (λz hz=>h z (EM _ hz)) (λz d q=>?_) x c e;unfold j6 at q;split at q
  ·rename_i i;obtain ⟨a,j⟩:=h y EL i;rw [Gi] at q;split at q
   ·grind
   ·exact g z d q
  ·exact g z d q
theorem ag:∀ (b:List (Str×NameKind)) (a:List (Str×Addr)) (x:Str),(a.lookup x).isSome=true->((b.foldl (j6 cells) a).lookup x).isSome=true
 | [],_,_,h=>h
 | y :: r,a,x,h=>by
  refine ag r (j6 cells a y) x ?_;unfold j6;split
  ·grind
  ·exact h
theorem ah:∀ (a:List (Str×NameKind)) (b:List (Str×Addr)) (x:Str),(x,NameKind.free)∈a->((a.foldl (j6 cells) b).lookup x).isSome=true
 | [],_,_,h=>nomatch h
 | y :: r,b,x,h=>by
  rcases EU.mp h with h | h
  ·subst h;refine ag r _ x ?_;simp [j6]
  ·exact ah r _ x h
theorem mem_of_lookup {c d:Type} [BEq c] [LawfulBEq c]:∀ {l:List (c×d)} {x:c} {y:d},l.lookup x=some y->(x,y)∈l
 | [],_,_,h=>by simp at h
 | (a,b) :: r,x,y,h=>by
  rw [Gi] at h;split at h
  ·rename_i e;have:x=a:=by simpa using e
   cases h;subst this;exact EL
  ·exact EM _ (mem_of_lookup h)
theorem V6 {f:Str×NameKind->Str×NameKind} (a:∀ y,(f y).1=y.1):∀ (l:List (Str×NameKind)) (x:Str),(l.map f).lookup x=(l.lookup x).map λk=>(f (x,k)).2
 | [],_=>rfl
 | (n,k) :: r,x=>by
  rw [Fb,show f (n,k) :: r.map f=((f (n,k)).1,(f (n,k)).2) :: r.map f from rfl,Gi,Gi,a];cases b:x==n with
  | true=>
   have e:x=n:=by simpa using b
   subst e;rfl
  | false=>exact V6 a r x
def rlF (a:Env) (y:Str×NameKind):Str×NameKind:=if (y.2==.free&&a.scope.kind==.function&&a.kindOf y.1==some .cell) then (y.1,.cell) else (y.1,y.2)
theorem tE (a:Env) (y:Str×NameKind):(rlF a y).1=y.1:=by unfold rlF;split <;> rfl
theorem J2 (a:Scope) (b:Env) (x:Str):(relabel a b).names.lookup x=(a.names.lookup x).map λk=>(rlF b (x,k)).2:=V6 (tE b) a.names x
theorem aw {scope:Scope} {env:Env} {x:Str} (h:scope.names.lookup x=some .free):(relabel scope env).names.lookup x=some .cell\/(relabel scope env).names.lookup x=some .free:=by
 rw [J2,h];show some (rlF env (x,.free)).2=_\/some (rlF env (x,.free)).2=_;unfold rlF;split
 ·exact .inl rfl
 ·exact .inr rfl
theorem P0 (h:(relabel scope env).names.lookup x=some k) (d:k=.cell\/k=.free) (b:∀ y∈scope.names,y.2≠NameKind.cell):scope.names.lookup x=some .free:=by
 rw [J2] at h;cases e:scope.names.lookup x with
 | none=>rw [e] at h;cases h
 | some a=>
  rw [e] at h;have h':(rlF env (x,a)).2=k:=Fc h;have c:=b (x,a) (mem_of_lookup e);unfold rlF at h';split at h'
  ·grind
  ·grind
theorem HOk.sameBut {a:Addr} (g:HOk P w H h) (f:H a=none) (hs:Heap.SameBut a h h'):HOk P w H h':=λb ob e=>by
 refine (g b ob e).stay (λc w' d q=>(hs.2 c ?_).trans q) (λ_ q=>q) λ_ _ q=>q;rintro rfl;rcases d with rfl | d
 ·rw [f] at e;cases e
 ·rw [f] at d;cases d
theorem Un.sameBut {C:Addr} (u:Un fs ex H H' h h1) (hs:Heap.SameBut C h1 h') (g:h.objs.size<=C):Un fs ex H H' h h':=by
 have d:∀ b o,h.get? b=some o->b≠C:=λb o e=>EQ (EW (EK e) g);exact ⟨λb o e n c a=>(hs.2 b (d b o e)).trans (u.keep b o e n c a),λb o e n c a=>let ⟨f,q⟩:=u.slot b o e n c a;⟨f,(hs.2 b (d b o e)).trans q⟩,u.free,
  λb o e a=>let ⟨o',q⟩:=u.there b o e a;⟨o',(hs.2 b (d b o e)).trans q⟩,u.tups,u.frzs,u.tbls⟩
def c9 (X:Cx) (pins:List (Addr×Obj)) (N':List Str) (a:Scope) (C:Addr) (b:List Addr) (s:Shared) (H:Hp):Cx where
 prog:=X.prog
 w:=X.w
 K:=X.K
 mg:=X.mg
 base:=X.base
 A:=X.A
 N:=N'
 s₀:=s
 H₀:=H
 env:=compEnvC a (R5 X.env.cells a.names) C X.env
 outer:=X.stack
 stack:=X.stack
 ex:=b
 fn:=λ_=>false
 calm:=X.calm
 pn:=X.pn++pins
 xe:=λ_ _=>False
structure CompText (N:List Str) (env:Env) (N':List Str) (k:Nat) (caps:List Nat) (scope:Scope):Prop where
 kind:scope.kind=.function
 cell:∀ y∈scope.names,y.2≠NameKind.cell
 loc:∀ y∈scope.names,y.2=NameKind.local->scope.names.lookup y.1=some .local
 free:∀ y∈scope.names,y.2=NameKind.free->scope.names.lookup y.1=some .free/\(env.scope.names.lookup y.1=some .cell\/env.scope.names.lookup y.1=some .free)
 cps:∀ (j i:Nat),caps[j]?=some i->∃ x,N[i]?=some x/\N'[k+j]?=some x/\scope.names.lookup x=some .free
 len:N'.length=k+caps.length
def w6 (caps:List Nat) (σ:St):St:=caps.map λi=>(σ[i]?).join
theorem pL {caps:List Nat} {σ:St} {j:Nat} {v:V} (h:(w6 caps σ)[j]?=some (some v)):∃ i,caps[j]?=some i/\σ[i]?=some (some v):=by
 unfold w6 at h;rw [Fq] at h;cases e:caps[j]? with
 | none=>rw [e] at h;cases h
 | some i=>
  rw [e] at h;refine ⟨i,rfl,?_⟩;have h':(σ[i]?).join=some v:=Fc h;cases q:σ[i]? with
  | none=>rw [q] at h';cases h'
  | some o=>rw [q] at h';exact congrArg some h'
section
variable {X:Cx} {pins:List (Addr×Obj)} {σ:St} {H:Hp} {s:Shared} {N':List Str} {k:Nat} {caps:List Nat} {scope:Scope} {fp:List Addr}
theorem sM (T:CompText X.N X.env N' k caps scope) (I:Inv X pins σ H s) (i:∀ b∈fp,J9 X pins H b) {C:Addr} (n:s.heap.objs.size<=C) (j:∀ b∈fp,b<s.heap.objs.size):(c9 X pins N' scope C fp s H).Ok:=by
 have p:∀ x∈scope.names,x.2=NameKind.free->∃ c,X.env.cells.lookup x.1=some c:=λx g q=>I.ok.has x.1 (T.free x g q).2;have f:=N7 scope.names [] p λx c e=>by simp at e
 refine ⟨I.mod,?_,I.ok.glob,I.ok.blt,n,λx y c a b=>I.ok.inj x y c (f x c a) (f y c b),λx g=>?_,λx c m=>(by cases m),I.ok.hd,I.ok.frames,.inl rfl,λb d=>⟨?_,λx c e=>(i b d).2.2.2.2.1 x c (f x c e)⟩,I.bs,?_,λb o e d=>?_,λb d l=>?_,I.stack,I.stkFree⟩
 ·exact T.kind
 ·have h:scope.names.lookup x=some .free:=by
   rcases g with g | g
   ·exact P0 g (.inl rfl) T.cell
   ·exact P0 g (.inr rfl) T.cell
  exact Fe.mp (ah scope.names [] x (mem_of_lookup h))
 ·exact EQ (EW (j b d) n)
 ·exact Fk I.ok.bsz I.sz
 ·rcases (i b d).2.2.2.1 with z | z
  ·exact I.ok.noex b o e z
  ·exact absurd (EW (EK (I.ok.bs b o e).1) z) (GI _)
 ·rcases EU.mp (I.stkSub b l) with z | z
  ·exact (i b d).2.1 z
  ·exact (i b d).2.2.1 z
theorem O3 (T:CompText X.N X.env N' k caps scope) (I:Inv X pins σ H s) (hf:∀ b∈fp,J9 X pins H b) (hlt:∀ b∈fp,b<s.heap.objs.size) {h':Heap} {m:Str->Option Value} {t:Nat}
  (hn:h'.Ns (s.heap.objs.size+1) m) (hk:∀ b o,s.heap.get? b=some o->h'.get? b=some o) (ha:h'.get? s.heap.objs.size=some { cls:=.type "list",data:=.seq #[] }) :
  Inv (c9 X pins N' scope (s.heap.objs.size+1) fp s H) [] (List.replicate k none++w6 caps σ) (upd H s.heap.objs.size (.lst [])) { s with heap:=h',toks:=t }:=by
 have ok:=sM T I hf (C:=s.heap.objs.size+1) (FV _) hlt;have fr:∀ x∈scope.names,x.2=NameKind.free->∃ c,X.env.cells.lookup x.1=some c:=λx hx hk=>I.ok.has x.1 (T.free x hx hk).2;have snd:∀ x c,(R5 X.env.cells scope.names).lookup x=some c->X.env.cells.lookup x=some c:=N7 scope.names [] fr λx c e=>by simp at e
 have nacc:H s.heap.objs.size=none:=I.hok.fresh (EI _);have lt:∀ b u,H b=some u->b<s.heap.objs.size:=λb u e=>I.hok.lt e;refine ⟨ok,rfl,I.bare,Un.laid hk (EI _) nacc,⟨m,hn,λi x v e1 e2 e3=>?_⟩,λx c e=>?_,?_,λx c e=>?_,λp hp=>?_,I.hok.laid hk (EI _) ⟨FU _,[],_,.nil,ha⟩,?_⟩
 ·by_cases hi:i<k
  ·rw [EJ (by simpa using hi)] at e2;simp [hi] at e2
  ·rw [Fp (by simpa using FE hi)] at e2;rw [Ga] at e2;obtain ⟨j,hj,hv⟩:=pL e2;obtain ⟨y,h1,h2,h3⟩:=T.cps _ _ hj;have hik:k+(i-k)=i:=by omega
   rw [hik] at h2;have hxy:y=x:=Fc (h2.symm.trans e1);subst hxy;have hvis:=(T.free (y,.free) (mem_of_lookup h3) rfl).2;obtain ⟨mX,hnX,hlX⟩:=I.loc;obtain ⟨u,r,l⟩:=hlX j y v h1 hv (by rcases hvis with z | z;exact .inr (.inl z);exact .inr (.inr z));refine ⟨u,r,?_⟩;rcases l with ⟨hk',_⟩ | ⟨_,c,hc,hcell⟩
   ·have hk'':X.env.scope.names.lookup y=some .local:=hk';rcases hvis with z | z
    ·rw [hk''] at z;cases z
    ·rw [hk''] at z;cases z
   ·obtain ⟨c',hc'⟩:=Fe.mp (ah (cells:=X.env.cells) scope.names [] y (mem_of_lookup h3));have:c'=c:=Fc ((snd y c' hc').symm.trans hc);subst this;obtain ⟨oc,ho,hd⟩:=hcell;exact .inr ⟨aw h3,c',hc',oc,hk _ _ ho,hd⟩
 ·obtain ⟨v,oc,ho,hd⟩:=I.cell x c (snd x c e);exact ⟨v,oc,hk _ _ ho,hd⟩
 ·show upd H s.heap.objs.size (.lst []) (s.heap.objs.size+1)=none;rw [a7 (HL _)];exact I.hok.fresh (FV _)
 ·obtain ⟨v,oc,ho,hd⟩:=I.cell x c (snd x c e);rw [a7 (EQ (EK ho))];exact I.freeC x c (snd x c e)
 ·have hp':p∈X.pn++pins:=by
   have:p∈(X.pn++pins)++[]:=hp;rwa [Fm] at this
  obtain ⟨e,n,ne,nf,d⟩:=I.pin p hp';refine ⟨hk _ _ e,?_,EQ (FM (EK e)),λhb=>?_,d⟩
  ·rw [a7 (EQ (EK e))];exact n
  ·rcases EU.mp (I.stkSub p.1 hb) with z | z
   ·exact ne z
   ·exact nf z
 ·show _=N'.length;rw [T.len,FC,Ga];unfold w6;rw [Es]
end
def PTL (X:Cx) (ifs:List Expr) (t:TT):Prop:=
 ∀ (pins:List (Addr×Obj)) (s:Shared) (σ:St) (H:Hp) (Q:Bool->Hp->Prop),Inv X pins σ H s->t σ H Q ->
  wpAny (model X.prog X.w) X.A (forIn ifs true λc r=>if r=true then do let a <- isTrue c X.env (eval c X.env);pure (ForInStep.yield a) else pure (ForInStep.yield r)) (TP X pins σ Q) X.xe s
def tTrue:TT:=λ_ H Q=>Q true H
theorem tW:PTL X [] tTrue:=λ_ _ _ H _ I h=>by
 rw [Gz];exact Eu ⟨H,I,h⟩
theorem qD (h:PT X c t):PTL X [c] t:=λpins s σ H Q I q=>by
 rw [FO];refine Er ?_;rw [if_pos rfl];refine Er (thn (h pins s σ H Q I q) λb s' ⟨H',d,a⟩=>Eu ?_);dsimp only;rw [Gz];exact Eu ⟨H',d,a⟩
def iR (caps:List Nat) (j:TI) (h:TT) (te:TE):TE:=λσ H Q=>j σ H λJ g=>∀ a,g a=none->∃ W:Nat->Nat->List V->Hp->Prop,(∃ m,W 0 m [] (upd g a (.lst []))) /\
 ∀ i m ys c,W i m ys c->c a=some (.lst ys)/\((J.stop i c/\Q (.ref a) c)\/(J.go i c/\∀ x f,J.yld i c x f->h (some x :: w6 caps σ) f λb e=>
  if b=true then te (some x :: w6 caps σ) e λy d=>d a=some (.lst ys)/\ys.length<sizeLine/\∃ m',m'<m/\W (i+1) m' (ys++[y]) (upd d a (.lst (ys++[y])))
  else ∃ m',m'<m/\W (i+1) m' ys e))
theorem R1 {a:Type} {t:Sem a} {Q:a->Shared->Prop} {u:Sem Unit} (c:u=pure ()) (h:wpAny M A u (λ_ b=>wpAny M A t Q E b) E s):wpAny M A t Q E s:=by
 have d:=Er h;grind
theorem f6 {s:Shared} {a:Type} {t:Sem a} {Q:a->Shared->Prop} (h:wpAny M A t Q (λ_ _=>False) s):wpAny M A t Q E s:=Fo h (λ_ _ q=>q) λ_ _ q=>q.elim
theorem hI {O A:Expr} {x:Str} {px:Pos} {ifs:List Expr} {a:Scope} {pos:Pos} {N':List Str} {caps:List Nat} {wi:TI} {tc:TT} {te:TE}
  (T:CompText X.N X.env N' 1 caps a) (hc:X.calm=true) (hN:N'.Nodup) (hx0:N'[0]?=some x) (hxl:a.names.lookup x=some .local) (hi:PI X (.Name x px) A wi)
  (ht:∀ pins C g s H,PTL (c9 X pins N' a C g s H) ifs tc) (he:∀ pins C g s H,PE (c9 X pins N' a C g s H) O te)
  (hs:∀ x,foldedSetIterable A X.env x=pure x:=by intro _;rfl):PE X (.ListComp O [⟨.Name x px,A,ifs,0⟩] a pos) (iR caps wi tc te):=by
 intro pins s σ H Q I h;have fr:∀ x∈a.names,x.2=NameKind.free->∃ c,X.env.cells.lookup x.1=some c:=λx hx hk=>I.ok.has x.1 (T.free x hx hk).2;rw [eval_ListComp];refine GM rfl hs (B2 fr) T.kind T.loc ?_;refine thn (hi pins s σ H _ I h) λv s1 h1=>thn h1 λitv f h2=>?_;obtain ⟨it,g,tn,J,E,rfl,I2,G,st2,f2,h2⟩:=h2;obtain ⟨W,⟨m0,w0⟩,turn⟩:=h2 f.heap.objs.size (I2.hok.fresh (EI _));have hlt:=λb l=>let ⟨o,e,_⟩:=G.obj _ _ st2 b l;EK e
 refine Fs (Ho T.cell (by intro y hy;simp at hy) (λh₁ m k=>?_) T.kind);have hC:(f.heap.push { cls:=.type "list",dict:=none,data:=.seq ([]:List Value).toArray }).objs.size=f.heap.objs.size+1:=Gj ..;rw [hC] at m k;have old:=λb o e=>k.extBut b o (EQ (FM (EK e))) (Ew _ (Ew _ e));have hacc:=k.extBut _ _ (EQ (Fn _)) (Ew _ (ET _ rfl));have w:=G.keep _ _ _ st2 λb _ o e=>old b o e;have I3:=O3 (t:=f.toks+([]:List (Str×Value)).length) T I2 f2 hlt m old hacc;have D:∀ {H':Hp},(∀ b∈g,H' b=none)->∀ b∈g,J9 (c9 X pins N' a (f.heap.objs.size+1) g f E) [] H' b:=λhn b l=>by
  refine ⟨hn b l,(I3.ok.exf b l).1,I3.ok.exfs b l,.inl l,(I3.ok.exf b l).2,λp hp=>?_⟩;have hp':p∈X.pn++pins:=by
   have:=hp;rwa [Fm] at this
  exact (f2 b l).2.2.2.2.2 p hp'
 have F:∀ s3:Shared,s3={ f with heap:=h₁,toks:=f.toks+([]:List (Str×Value)).length } ->
   codeAny (model X.prog X.w) X.A (.compLoop (.ListComp O [⟨.Name x px,A,ifs,0⟩] a pos) 0 (.ref it) (.ref f.heap.objs.size) (compEnvC a (R5 X.env.cells a.names) (f.heap.objs.size+1) X.env))
    (compPost (model X.prog X.w) X.A X.xe none (EP X pins σ Q) (.ref f.heap.objs.size) (f.heap.objs.size+1)) s3:=by
  rintro s3 rfl;refine codeAny_compLoop_tests (λn s'=>∃ i ys H',Inv (c9 X pins N' a (f.heap.objs.size+1) g f E) [] (none :: w6 caps σ) H' s'/\tn i s'.heap/\(∀ b∈g,H' b=none)/\W i n ys H') ?_ m0
   ⟨0,[],_,I3,w,λb l=>by rw [a7 (EQ (hlt b l))];exact (f2 b l).1,w0⟩ (λ_=>rfl)
  rintro n s4 ⟨i,ys,R,I4,Y,fr4,w4⟩;obtain ⟨hacc4,P⟩:=turn i n ys R w4;refine f6 ?_;rcases P with ⟨stop,q⟩ | ⟨go,step⟩
  ·refine thn (G.done (c9 X pins N' a (f.heap.objs.size+1) g f E) rfl rfl rfl hc i [] s4 _ R (λ_ _=>False) I4 (D fr4) Y stop) λr s5 ⟨hr,V⟩=>?_;subst hr;obtain ⟨m5,hn5,_⟩:=id V.loc;refine ⟨m5,hn5,λh' hs'=>?_⟩;refine ⟨.ref f.heap.objs.size,R,?_,rfl,q⟩;refine I2.call' V.os (Un.sameBut V.base hs' (FV _)) (V.hok.sameBut V.free hs') V.bare λb l=>?_;have:=f2 b l;exact ⟨this.2.2.2.1,this.2.1,this.2.2.2.2.1,this.2.2.2.2.2⟩
  ·refine thn (G.item (c9 X pins N' a (f.heap.objs.size+1) g f E) rfl rfl rfl hc i [] s4 _ R (λ_ _=>False) I4 (D fr4) Y go) λr s5 ⟨u,hr,h5⟩=>?_;subst hr;refine f6 (R1 rfl (thn h5 λ_ s6 ⟨xv,H6,I6,r6,y6,L,fr6⟩=>?_));have I6':=I6.pinned (D fr6) (G.obj _ _ L);refine thn (L1 (X:=c9 X pins N' a (f.heap.objs.size+1) g f E) hN hx0 (.inl (Fu hxl)) (.inr (Fu hxl)) _ s6 _ H6 xv u (λσ2 R=>σ2=some xv :: w6 caps σ/\R=H6) I6' r6 ⟨rfl,rfl⟩) λ_ s7 ⟨σ7,H7,I7,e7,e7'⟩=>?_;subst e7 e7';have B:∀ {σ8:St} {S:Hp} {s8:Shared},Inv (c9 X pins N' a (f.heap.objs.size+1) g f E) ([]++B3 g s6.heap) σ8 S s8->tn (i+1) s8.heap/\∀ b∈g,S b=none:=λ{σ8 S s8} N=>by
    refine ⟨G.keep _ _ _ L λb l o e=>(N.pin (b,o) (ES _ (ES _ (l9 l e)))).1,λb l=>?_⟩;obtain ⟨o,e,d⟩:=G.obj _ _ L b l;exact (N.pin (b,o) (ES _ (ES _ (l9 l e)))).2.1
   refine f6 (thn (ht pins _ g f E _ s7 _ _ _ I7 (step xv _ y6)) λb s8 ⟨S,N,q8⟩=>?_);have wk:∀ {U:Hp} {s9:Shared},Inv (c9 X pins N' a (f.heap.objs.size+1) g f E) ([]++B3 g s6.heap) (some xv :: w6 caps σ) U s9->Inv (c9 X pins N' a (f.heap.objs.size+1) g f E) [] (none :: w6 caps σ) U s9:=λ{U s9} I9=>
    I9.unpinned.weak rfl λj v e=>by
     cases j with
     | zero=>simp at e
     | succ j=>simpa using e
   cases b with
   | false=>
    obtain ⟨m',hm,w'⟩:=q8;exact ⟨m',hm,i+1,ys,S,wk N,(B N).1,(B N).2,w'⟩
   | true=>
    refine f6 (thn (he pins _ g f E _ s8 _ S _ N q8) λz s9 ⟨y,U,I9,r9,M,hl9,m',hm,w'⟩=>?_);refine f6 (thn (K2 _ s9 _ U (.ref f.heap.objs.size) [y] (.ref f.heap.objs.size) [z] (λ_ H'=>H'=upd U f.heap.objs.size (.lst (ys++[y]))) I9 rfl (.cons r9 .nil) ⟨_,ys,y,rfl,rfl,M,hl9,rfl⟩) λ_ s10 ⟨_,H10,K,_,e10⟩=>?_);subst e10;exact ⟨m',hm,i+1,ys++[y],_,wk K,(B K).1,(B K).2,w'⟩
 have Z:=GY (F _ rfl) (G.self _ 0 _ _ _ w (F _ rfl));rw [<- hC] at Z;exact Z
theorem fw {K w:Expr} {x:Str} {px:Pos} {y:Str} {py N:Pos} {iy:Nat} {ifs:List Expr} {f:Scope} {pos:Pos} {N':List Str} {caps:List Nat} {wi:TI} {tc:TT} {te:TE}
  (hsw:swapsWith (.ListComp K [⟨.Name x px,w,ifs,0⟩] f pos) (some (.Name y py)) N.line X.env=pure true) (hNX:X.N.Nodup) (hiy:X.N[iy]?=some y) (hy:Loc X.env.scope y) (hf:X.fn y=true\/X.env.scope.names.lookup y=some .local)
  (T:CompText X.N X.env N' 1 caps f) (hc:X.calm=true) (hN:N'.Nodup) (hx0:N'[0]?=some x) (hxl:f.names.lookup x=some .local) (hi:PI X (.Name x px) w wi)
  (ht:∀ pins C l s H,PTL (c9 X pins N' f C l s H) ifs tc) (he:∀ pins C l s H,PE (c9 X pins N' f C l s H) K te)
  (hs:∀ x,foldedSetIterable w X.env x=pure x:=by intro _;rfl):PS X (.Assign [.Name y py] (.ListComp K [⟨.Name x px,w,ifs,0⟩] f pos) N) (tS (iR caps wi tc te) (bM iy)):=by
 intro pins s σ H D I h;have fr:∀ x∈f.names,x.2=NameKind.free->∃ c,X.env.cells.lookup x.1=some c:=λx hx hk=>I.ok.has x.1 (T.free x hx hk).2;rw [exec_Assign_Name_used _ _ _ _ hsw];refine Er (GJ (Er ?_));refine Er (Fo (GM rfl hs (B2 fr) T.kind T.loc ?_) (λ_ s' hq=>Eu (Eu hq)) λ_ _ e=>e);refine thn (hi pins s σ H _ I h) λv s1 h1=>thn h1 λitv g h2=>?_;obtain ⟨it,l,tn,J,G,rfl,O,M,st2,f2,h2⟩:=h2;obtain ⟨W,⟨m0,w0⟩,turn⟩:=h2 g.heap.objs.size (O.hok.fresh (EI _));have hlt:=λb k=>let ⟨o,e,_⟩:=M.obj _ _ st2 b k;EK e
 refine Fs (Ho T.cell (by intro y hy;simp at hy) (λh₁ A m=>?_) T.kind);have hC:(g.heap.push { cls:=.type "list",dict:=none,data:=.seq ([]:List Value).toArray }).objs.size=g.heap.objs.size+1:=Gj ..;rw [hC] at A m;have old:=λb o e=>m.extBut b o (EQ (FM (EK e))) (Ew _ (Ew _ e));have hacc:=m.extBut _ _ (EQ (Fn _)) (Ew _ (ET _ rfl));have E:=M.keep _ _ _ st2 λb _ o e=>old b o e;have I3:=O3 (t:=g.toks+([]:List (Str×Value)).length) T O f2 hlt A old hacc;have F:∀ {H':Hp},(∀ b∈l,H' b=none)->∀ b∈l,J9 (c9 X pins N' f (g.heap.objs.size+1) l g G) [] H' b:=λhn b k=>by
  refine ⟨hn b k,(I3.ok.exf b k).1,I3.ok.exfs b k,.inl k,(I3.ok.exf b k).2,λp hp=>?_⟩;have hp':p∈X.pn++pins:=by
   have:=hp;rwa [Fm] at this
  exact (f2 b k).2.2.2.2.2 p hp'
 have L:∀ s3:Shared,s3={ g with heap:=h₁,toks:=g.toks+([]:List (Str×Value)).length } ->
   codeAny (model X.prog X.w) X.A (.compLoop (.ListComp K [⟨.Name x px,w,ifs,0⟩] f pos) 0 (.ref it) (.ref g.heap.objs.size) (compEnvC f (R5 X.env.cells f.names) (g.heap.objs.size+1) X.env))
    (compPost (model X.prog X.w) X.A X.xe (some (assign (.Name y py) X.env)) (λ_ s'=>SP X pins D .next s') (.ref g.heap.objs.size) (g.heap.objs.size+1)) s3:=by
  rintro s3 rfl;refine codeAny_compLoop_tests (λn s'=>∃ i ys H',Inv (c9 X pins N' f (g.heap.objs.size+1) l g G) [] (none :: w6 caps σ) H' s'/\tn i s'.heap/\(∀ b∈l,H' b=none)/\W i n ys H') ?_ m0
   ⟨0,[],_,I3,E,λb k=>by rw [a7 (EQ (hlt b k))];exact (f2 b k).1,w0⟩ (λ_=>rfl)
  rintro n s4 ⟨i,ys,Z,I4,st4,fr4,w4⟩;obtain ⟨hacc4,S⟩:=turn i n ys Z w4;refine f6 ?_;rcases S with ⟨stop,q⟩ | ⟨go,step⟩
  ·refine thn (M.done (c9 X pins N' f (g.heap.objs.size+1) l g G) rfl rfl rfl hc i [] s4 _ Z (λ_ _=>False) I4 (F fr4) st4 stop) λr s5 ⟨hr,V⟩=>?_;subst hr;obtain ⟨m5,hn5,_⟩:=id V.loc;have IX:=O.call' V.os V.base V.hok V.bare λb k=>by
    have:=f2 b k;exact ⟨this.2.2.2.1,this.2.1,this.2.2.2.2.1,this.2.2.2.2.2⟩
   have C0:g.heap.objs.size<=g.heap.objs.size+1:=FV _;have cC:∀ z c,X.env.cells.lookup z=some c->c≠g.heap.objs.size+1:=λz c e=>by
    obtain ⟨v,oc,ho,_⟩:=O.cell z c e;exact EQ (FM (EK ho))
   have lC:=EQ (FM O.lt);refine wpAny_assign_Name (bS (v:=.ref g.heap.objs.size) IX hNX hiy hy rfl (λs6 I6 ⟨a,sb,ha⟩=>?_) hf);have aC:g.heap.objs.size+1≠a:=λz=>by
    rcases ha with ha | ha
    ·grind
    ·exact cC _ _ ha z.symm
   refine ⟨m5,hn5.sameBut sb aC,λh' hs'=>?_⟩;refine ⟨_,Z,I6.turned (λb o k e=>hs'.extBut b o k e) V.free lC.symm (.inr (Fk O.sz C0)) cC (λp hp=>?_),q⟩;exact EQ (FM (EK (O.pin p hp).1))
  ·refine thn (M.item (c9 X pins N' f (g.heap.objs.size+1) l g G) rfl rfl rfl hc i [] s4 _ Z (λ_ _=>False) I4 (F fr4) st4 go) λr s5 ⟨u,hr,h5⟩=>?_;subst hr;refine f6 (R1 rfl (thn h5 λ_ s6 ⟨xv,H6,I6,r6,y6,U,fr6⟩=>?_));have I6':=I6.pinned (F fr6) (M.obj _ _ U);refine thn (L1 (X:=c9 X pins N' f (g.heap.objs.size+1) l g G) hN hx0 (.inl (Fu hxl)) (.inr (Fu hxl)) _ s6 _ H6 xv u (λσ2 Z=>σ2=some xv :: w6 caps σ/\Z=H6) I6' r6 ⟨rfl,rfl⟩) λ_ s7 ⟨σ7,H7,I7,e7,e7'⟩=>?_;subst e7 e7';have B:∀ {σ8:St} {Y:Hp} {s8:Shared},Inv (c9 X pins N' f (g.heap.objs.size+1) l g G) ([]++B3 l s6.heap) σ8 Y s8->tn (i+1) s8.heap/\∀ b∈l,Y b=none:=λ{σ8 Y s8} Q=>by
    refine ⟨M.keep _ _ _ U λb k o e=>(Q.pin (b,o) (ES _ (ES _ (l9 k e)))).1,λb k=>?_⟩;obtain ⟨o,e,d⟩:=M.obj _ _ U b k;exact (Q.pin (b,o) (ES _ (ES _ (l9 k e)))).2.1
   refine f6 (thn (ht pins _ l g G _ s7 _ _ _ I7 (step xv _ y6)) λb s8 ⟨Y,Q,q8⟩=>?_);have wk:∀ {H9:Hp} {s9:Shared},Inv (c9 X pins N' f (g.heap.objs.size+1) l g G) ([]++B3 l s6.heap) (some xv :: w6 caps σ) H9 s9->Inv (c9 X pins N' f (g.heap.objs.size+1) l g G) [] (none :: w6 caps σ) H9 s9:=λ{H9 s9} I9=>
    I9.unpinned.weak rfl λj v e=>by
     cases j with
     | zero=>simp at e
     | succ j=>simpa using e
   cases b with
   | false=>
    obtain ⟨m',hm,w'⟩:=q8;exact ⟨m',hm,i+1,ys,Y,wk Q,(B Q).1,(B Q).2,w'⟩
   | true=>
    refine f6 (thn (he pins _ l g G _ s8 _ Y _ Q q8) λz s9 ⟨y,H9,I9,r9,P,hl9,m',hm,w'⟩=>?_);refine f6 (thn (K2 _ s9 _ H9 (.ref g.heap.objs.size) [y] (.ref g.heap.objs.size) [z] (λ_ H'=>H'=upd H9 g.heap.objs.size (.lst (ys++[y]))) I9 rfl (.cons r9 .nil) ⟨_,ys,y,rfl,rfl,P,hl9,rfl⟩) λ_ s10 ⟨_,H10,R,_,e10⟩=>?_);subst e10;exact ⟨m',hm,i+1,ys++[y],_,wk R,(B R).1,(B R).2,w'⟩
 have fin:=GY (L _ rfl) (M.self _ 0 _ _ _ E (L _ rfl));rw [<- hC] at fin;exact fin
mutual
inductive DAt (K:PySem.W.Frag) (H:Hp):V->PyData->Prop where
 | non:DAt K H .non .none
 | bl (b:Bool):DAt K H (.bl b) (.bool b)
 | int (i:Int):DAt K H (.int i) (.int i)
 | str (x:Str):DAt K H (.str x) (.str x)
 | lst {a:Addr} {xs:List V} {ds:List PyData}:SqL K H a xs->DAll K H xs ds->DAt K H (.ref a) (.list ds)
 | tup {a:Addr} {xs:List V} {ds:List PyData}:SqT K H a xs->DAll K H xs ds->DAt K H (.ref a) (.tuple ds)
inductive DAll (K:PySem.W.Frag) (H:Hp):List V->List PyData->Prop where
 | nil:DAll K H [] []
 | cons {x:V} {d:PyData} {xs:List V} {ds:List PyData}:DAt K H x d->DAll K H xs ds->DAll K H (x :: xs) (d :: ds)
end
def Keeps (K:PySem.W.Frag) (H H':Hp):Prop:=(∀ a xs,SqL K H a xs->SqL K H' a xs)/\∀ a xs,SqT K H a xs->SqT K H' a xs
mutual
theorem DAt.keeps {K:PySem.W.Frag} {H H':Hp} (k:Keeps K H H'):∀ {v:V} {d:PyData},DAt K H v d->DAt K H' v d
 | _,_,.non=>.non
 | _,_,.bl b=>.bl b
 | _,_,.int i=>.int i
 | _,_,.str x=>.str x
 | _,_,.lst h r=>.lst (k.1 _ _ h) (DAll.keeps k r)
 | _,_,.tup h r=>.tup (k.2 _ _ h) (DAll.keeps k r)
theorem DAll.keeps {K:PySem.W.Frag} {H H':Hp} (k:Keeps K H H'):∀ {xs:List V} {ds:List PyData},DAll K H xs ds->DAll K H' xs ds
 | _,_,.nil=>.nil
 | _,_,.cons h r=>.cons (DAt.keeps k h) (DAll.keeps k r)
end
theorem Keeps.of_same {K:PySem.W.Frag} {H H':Hp} (e:Same H H'):Keeps K H H':=
 ⟨λa xs h=>e.seq h,λa xs h=>by
  rcases h with (h | ⟨o,h⟩) | h
  ·exact .inl (.inl (e _ _ h))
  ·exact .inl (.inr ⟨o,e _ _ h⟩)
  ·exact .inr h⟩
theorem Same.laid (h:H p=none):Same H (upd H p o):=λb u e=>by rw [a7 (b9 e h)];exact e
theorem Keeps.laid {K:PySem.W.Frag} {H:Hp} {p:Addr} {o:HO} (h:H p=none):Keeps K H (upd H p o):=Keeps.of_same (Same.laid h)
section
variable {X:Cx} {pins:List (Addr×Obj)} {σ:St} {H:Hp} {s:Shared}
mutual
theorem DAt.reads (I:Inv X pins σ H s):∀ {v:V} {d:PyData},DAt X.K H v d->∀ {u:Value},RelV v u->∃ a,Reads s.heap u d a
 | _,_,.non,u,r=>by cases (show u=Value.none from r);exact ⟨_,.none⟩
 | _,_,.bl b,u,r=>by cases (show u=Value.bool b from r);exact ⟨_,.bool b⟩
 | _,_,.int i,u,r=>by obtain ⟨t,e⟩:=(r);subst e;exact ⟨_,.int i t⟩
 | _,_,.str x,u,r=>by obtain ⟨t,e⟩:=(r);subst e;exact ⟨_,.str x t⟩
 | _,_,.lst h q,u,r=>by
  cases (r);obtain ⟨f,c,⟨o,n,g,j,m,l⟩,_⟩:=I.list h;obtain ⟨a,k⟩:=DAll.reads I q c;exact ⟨_,.list g j l k⟩
 | _,_,.tup h q,u,r=>by
  cases (r);obtain ⟨f,c,⟨o,g,j,n,l⟩,_⟩:=I.tuple h;obtain ⟨a,k⟩:=DAll.reads I q c;exact ⟨_,.tuple g j l k⟩
theorem DAll.reads (I:Inv X pins σ H s):∀ {vs:List V} {ds:List PyData},DAll X.K H vs ds->∀ {us:List Value},Vals vs us->∃ as,ReadsAll s.heap us ds as
 | _,_,.nil,us,r=>by cases r;exact ⟨_,.nil⟩
 | _,_,.cons h q,us,r=>by
  cases r with
  | cons r1 r2=>
   obtain ⟨as,h1⟩:=DAt.reads I h r1;obtain ⟨bs,h2⟩:=DAll.reads I q r2;exact ⟨_,.cons h1 h2⟩
end
structure Shows (d:PyData):Prop where
 sh:d.showable=true
 nd:d.hasDict=false
 dp:d.depth<=60
 sz:d.shown.length<=sizeLine
theorem kT (hg:X.A.guards=some []) (hu:X.A.units+64<cLine):j8 X (.builtin "repr") (λxs H Q=>∃ v d,xs=[v]/\DAt X.K H v d/\Shows d/\Q (.str d.shown) H):=by
 intro pins s σ H xs us Q I r h;obtain ⟨v,d,rfl,hd,S,q⟩:=h;obtain ⟨u,rfl,ru⟩:=ao r;have sh:=S.sh;have sz:=S.sz;cases hd with
 | non=>cases (ru);exact PySem.P.repr_of_none ⟨.str (PyData.shown .none),H,I.tok _,⟨_,rfl⟩,q⟩
 | bl b=>cases (ru);exact PySem.P.repr_of_bool ⟨.str (PyData.shown (.bool b)),H,I.tok _,⟨_,rfl⟩,q⟩
 | int i=>obtain ⟨t,e⟩:=(ru);subst e;exact PySem.P.repr_of_int (by simpa [PyData.showable] using sh) ⟨.str (PyData.shown (.int i)),H,I.tok _,⟨_,rfl⟩,q⟩
 | str x=>obtain ⟨t,e⟩:=(ru);subst e;exact PySem.P.repr_of_str ⟨.str (PyData.shown (.str x)),H,I.tok _,⟨_,rfl⟩,q⟩ sz
 | lst h1 h2=>
  obtain ⟨as,rr⟩:=DAt.reads I (.lst h1 h2) ru;obtain ⟨a,rfl⟩:=Hw rr rfl;exact repr_of_reads' rr sh (GZ S.nd) hg (by have:=S.dp;omega) (λ_ _ e=>e) (λh' u tk hk=>⟨.str (PyData.shown _),H,I.kept hk,⟨_,rfl⟩,q⟩) sz
 | tup h1 h2=>
  obtain ⟨as,rr⟩:=DAt.reads I (.tup h1 h2) ru;obtain ⟨a,rfl⟩:=Hw rr rfl;exact repr_of_reads' rr sh (GZ S.nd) hg (by have:=S.dp;omega) (λ_ _ e=>e) (λh' u tk hk=>⟨.str (PyData.shown _),H,I.kept hk,⟨_,rfl⟩,q⟩) sz
end
def Bf (K:PySem.W.Frag) (a:Bool):R2:=λx y H Q=>∃ d e,DAt K H x d/\DAt K H y e/\d.canLay0=true/\e.canLay0=true/\min d.depth e.depth<=60/\Q (.bl (if a then !PyData.eqv d e else PyData.eqv d e)) H
section
variable {X:Cx}
theorem wN (k:X.A.units+64<cLine):OpR X (compareOp .Eq) (Bf X.K false):=by
 intro pins s σ H x y v u Q I i c h;obtain ⟨d,e,hd,a,b,f,m,q⟩:=h;obtain ⟨l,g⟩:=hd.reads I i;obtain ⟨n,j⟩:=a.reads I c;exact SeqAt.compareEq_reads g j b f (by omega) ⟨.bl (PyData.eqv d e),H,I,rfl,q⟩
theorem yK (k:X.A.units+64<cLine):OpR X (compareOp .NotEq) (Bf X.K true):=by
 intro pins s σ H x y v u Q I i c h;obtain ⟨d,e,hd,a,b,f,m,q⟩:=h;obtain ⟨l,g⟩:=hd.reads I i;obtain ⟨n,j⟩:=a.reads I c;exact SeqAt.compareNe_reads g j b f (by omega) ⟨.bl (!PyData.eqv d e),H,I,rfl,q⟩
end
end L2
namespace L2
open PySem PySem.W PySem.Calls PyProof.Rows
def U7 (K:Frag) (C:Addr):Bool:=match K.lookup C with
 | some ⟨c,_,.cls a,b⟩=>c==.type "type" && !a.hasDel&&a.hasDict&&(b.toList[4]?).join==some (.builtin "ValueError.__new__")&&!a.mro.isEmpty&&a.mro.contains (.ref C)&&a.mro.contains (.type "ValueError")&&a.mro.contains (.type "BaseException") &&
   !a.mro.contains (.type "AttributeError")&&!a.mro.contains (.type "NameError")&&specialIn K (.ref C) "__call__" == some (some (.builtin "type.__call__"))&&instIn K (.ref C) (.type "type")==some true
 | _=>false
structure MakesX (M:Model) (h:Heap) (C:Addr):Prop where
 obj:∃ oc od cd sl,h.get? C=some ⟨oc,od,.cls cd,sl⟩/\cd.hasDel=false/\cd.mro.isEmpty=false
 made:Looks M h (Bind.madeBy (.ref C)) (some "ValueError.__new__")
 base:Looks M h (Bind.staticBase (.ref C)) (.ref C)
 self:Looks M h (isSubtype (.ref C) (.ref C)) true
 isV:Looks M h (isSubtype (.ref C) (.type "ValueError")) true
 isB:Looks M h (isSubtype (.ref C) (.type "BaseException")) true
 noA:Looks M h (isSubtype (.ref C) (.type "AttributeError")) false
 noN:Looks M h (isSubtype (.ref C) (.type "NameError")) false
 call:Looks M h (specialOf (.ref C) "__call__") (some (.builtin "type.__call__"))
 typ:Looks M h (isInstance (.ref C) (.type "type")) true
 ty:Looks M h (typeOf (.ref C)) (.type "type")
 isT:Looks M h (isType (.ref C)) true
theorem C9 {K:Frag} {M:Model} {h:Heap} (X:K.In h) {C:Addr} (e:U7 K C=true):MakesX M h C:=by
 unfold U7 at e;split at e
 case h_2=>cases e
 rename_i v od f D g;simp only [Ey,FN,GP] at e;obtain ⟨⟨⟨⟨⟨⟨⟨⟨⟨⟨⟨F,x⟩,_⟩,t⟩,i⟩,u⟩,B⟩,y⟩,w⟩,z⟩,m⟩,j⟩:=e;have p:clsIn K C=some f:=by unfold clsIn;rw [g]
 have a:∀ {b:Value} {r:Bool},f.mro.contains b=r->Looks M h (isSubtype (.ref C) b) r:=λ{b r} q=>looks_mroIn X (by unfold mroIn;rw [p,FX,if_neg (by rw [i];decide),q]);have n:Looks M h (mroOf (.ref C)) f.mro:=(looks_clsIn X p).andThen .now;obtain ⟨c,l,o⟩:∃ c l,f.mro=c :: l:=by
  cases q:f.mro with
  | nil=>rw [q] at i;cases i
  | cons c l=>exact ⟨c,l,rfl⟩
 have d:Looks M h (Bind.madeBy (.ref C)) (some "ValueError.__new__"):=λA Q E s k q=>by
  refine Er (n A _ E s k ?_);rw [o,FO];refine Er (Er (Er (Er (Hx (k _ _ (X _ _ g)) (Eu ?_)))));rw [<- Array.getElem?_toList,t];exact Eu (Eu (Eu q))
 refine ⟨⟨v,od,f,D,X _ _ g,x,i⟩,d,λA Q E s k q=>?_,a u,a B,a y,a w,a z,looks_specialIn X m,looks_instIn X j,?_,(Looks.ld (X _ _ g)).andThen .now⟩
 ·unfold Bind.staticBase;refine Er (n A _ E s k ?_);rw [o,FO];exact Er (Er (Er (d A _ E s k (Eu (Eu (Eu q))))))
 ·subst F;exact (Looks.ld (X _ _ g)).andThen .now
abbrev w9 (C t:Addr):Obj:={ cls:=.ref C,data:=.fields #[.ref t,.none,.none,.none,.bool false,.none] }
abbrev B1 (vs:List Value):Obj:={ cls:=.type "tuple",data:=.seq vs.toArray }
section
variable {prog:Program} {w:World} {A:Around} {K:Frag} {C:Addr} {R:Result->Shared->Prop} {h:Heap} {g:Array GenState} {d:Drawn} {t:Nat} {os:OsState}
theorem Ct {rest:List Value} (Y:MakesX (model prog w) h C) (hrest:rest.length<=sizeLine)
  (hq:R (.ok (.ret (.ref (h.objs.size+1)))) ⟨(h.push (B1 rest)).push (w9 C h.objs.size),g,d,t,os⟩) :
  codeAny (model prog w) A (.call (.builtin "ValueError.__new__") ⟨.ref C :: rest,[]⟩) R ⟨h,g,d,t,os⟩:=by
 obtain ⟨⟨oc,od,cd,sl,hC,e1,e4⟩,made,base,self,isV,isB,noA,noN,call,typ,_,_⟩:=Y;have F:=Hy;refine codeAny_call_builtin_code (Code.quiet_builtin _ F.quiet) ?_;simp only [checkBuiltinCall,F.newKind,F.newSplit,F.newRow];have here:Looks (model prog w) h (Bind.madeHere "ValueError.__new__" (.ref C)) ():=base.andThen (made.andThen (Looks.of_pure (by simp only [Option.map_some,HD,FZ,HX])))
 repeat (first | simp only [HD,FZ,HX] | lk)
 have here2:Looks (model prog w) h (Bind.madeHere "BaseException.__new__" (.ref C)) ():=base.andThen (made.andThen (Looks.of_pure (by simp only [Option.map_some,F.canon,HD,FZ,HX])));have ends:=F.ends;refine codeAny_builtinAt F.entry (PySem.wpAt_bind ?_);show PySem.wpAt _ _ _ (stack >>= _) _ _ _;refine PySem.wpAt_bind (PySem.wpAt_stack λp below=>PySem.wpAt_of_wpAny ?_)
 wp_walk
 refine PySem.wpAt_of_wpAny ?_;rw [F.owner]
 repeat lk
 rw [if_neg (by rw [EN];omega)];show wpAny _ _ (newObjAsIs _ _) _ _ _;have hC2:(h.push (B1 rest)).get? C=some ⟨oc,od,.cls cd,sl⟩:=Ew _ hC;have hC3:((h.push (B1 rest)).push (w9 C h.objs.size)).get? C=some ⟨oc,od,.cls cd,sl⟩:=Ew _ hC2;unfold newObjAsIs;refine Er (wpAny_alloc (Eu (Er ?_)));show wpAny _ _ (newObjAsIs _ _) _ _ _;unfold newObjAsIs classHasDel;refine Er (wpAny_alloc (Er (Er (wpAny_load hC3 (Eu ?_)))));rw [e1];refine Eu (Eu ?_);show R _ _;rw [Gj];exact hq
theorem zN {c:List Value} {f:Addr} (Y:MakesX (model prog w) h C) (u:Looks (model prog w) h (typeLookup (.ref C) "__init__") (some (.ref f)))
  (G:∀ i,Looks (model prog w) h (bindSpecial (.ref f) i) (.ref f,[i])) (j:c.length<=sizeLine)
  (B:codeAny (model prog w) (A.under (.builtin "type.__call__" ⟨.ref C :: c,[]⟩)) (.call (.ref f) ⟨.ref (h.objs.size+1) :: c,[]⟩) (InitBack (h.objs.size+1) R) ⟨(h.push (B1 c)).push (w9 C h.objs.size),g,d,t,os⟩) :
  codeAny (model prog w) A (.call (.ref C) ⟨c,[]⟩) R ⟨h,g,d,t,os⟩:=by
 have D:=Y;obtain ⟨⟨L,od,s,O,q,M,I⟩,p,n,i,x,F,E,H,l,m,_,_⟩:=Y;refine codeAny_of_tree ?_;refine nd_load q (show wpAny _ _ (callAny.viaDunder (.ref C) _) _ _ _ from ?_);refine Er (l.at ?_);dsimp only;rw [tc_bind];refine Er (Eu (Er (Eu (Eu (a:=Fin.again (.call (.builtin "type.__call__") ⟨.ref C :: c,[]⟩)) (And.intro rfl ?_)))));refine codeAny_call_builtin_at (Code.quiet_builtin _ (by decide +kernel)) entry_typeCall (check_slot tc_kind tc_split m (tc_args _ _ _) ?_);have J:Looks (model prog w) h (mroOf (.ref C)) s.mro:=((Looks.ld q).andThen .now).andThen .now
 repeat (first | simp only [I,FZ,HX] | with_reducible refine GQ ?_ | lk)
 refine Ct D j ?_;have k:∀ b o,h.get? b=some o->((h.push (B1 c)).push (w9 C h.objs.size)).get? b=some o:=λb o e=>Ew _ (Ew _ e);have y:((h.push (B1 c)).push (w9 C h.objs.size)).get? (h.objs.size+1)=some (w9 C h.objs.size):=by heap_get
 have Q:Looks (model prog w) ((h.push (B1 c)).push (w9 C h.objs.size)) (typeOf (.ref (h.objs.size+1))) (.ref C):=(Looks.ld y).andThen .now;have N:=i.keeps k;have P:=u.keeps k;have K:=(G (.ref (h.objs.size+1))).keeps k
 repeat (first | with_reducible refine GQ ?_ | lk)
 refine GA B λr s' z=>?_;rcases r with e | (v | _ | _ | _) <;> first | exact z | exact z.elim | skip
 obtain ⟨rfl,z⟩:=z;exact Eu (Eu z)
end
end L2
namespace L2
open PySem PySem.W PySem.Calls PyProof.Rows Builtin Builtin.ObjectAttr
theorem nI:builtinKind "BaseException.__getattribute__" = some .slot:=by decide +kernel
theorem kO:splitId "BaseException.__getattribute__" = some ("BaseException","__getattribute__"):=by decide +kernel
theorem jz:plainId "BaseException.__getattribute__" = true:=by decide +kernel
section
variable {prog:Program} {w:World} {A:Around} {R:Result->Shared->Prop} {s:Shared} {x:Addr} {name:Str} {t:Tok}
theorem lr (c:Looks (model prog w) s.heap (isInstance (.ref x) (.type "BaseException")) true)
  (h:wpAny (model prog w) A.in1 (Builtin.«object.__getattribute__» ⟨[.ref x,.str name t],[]⟩) (λa s'=>match a with | .done f=>R (.ok f) s' | .again b=>b.quiet=true/\codeAny (model prog w) A b R s') (λe s'=>R (.error e) s') s) :
  codeAny (model prog w) A (.call (.builtin "BaseException.__getattribute__") ⟨[.ref x,.str name t],[]⟩) R s:=
 Hq jz PySem.F.entry_bexc_ga (@check_slot (model prog w) _ _ _ "BaseException.__getattribute__" "BaseException" "__getattribute__" (.ref x) [.str name t] [] _ nI kO c (PySem.F.args_bexc_ga (.ref x) (.str name t)) h)
end
section
variable {prog:Program} {w:World} {A:Around} {E:Value->Shared->Prop} {s:Shared} {K:Frag} {x C:Addr} {ox:Obj} {od:Option Obj} {name:Str} {expr:Bool} {Q:Value->Shared->Prop}
structure XCls (K:Frag) (C:Addr):Prop where
 ga:findIn K (.ref C) "__getattribute__" = some (some (.builtin "BaseException.__getattribute__"))
 gg:findIn K (.ref C) "__getattr__" = some none
 be:mroIn K C (.type "BaseException")=some true
 ob:mroIn K C (.type "object")=some true
 hd:hasDictIn K C=true
 cl:findIn K (.ref C) "__class__" = some (some (.builtin "object.__class__"))
 cg:specialIn K (.builtin "object.__class__") "__get__" = some (some (.builtin "getset_descriptor.__get__"))
 ct:takesIn K (.builtin "object.__class__")=some true
theorem pk {b:Bool} {t:Tok} (X:K.In s.heap) (I:InstAt s.heap x ox C od) (c:XCls K C)
  (h:wpAny (model prog w) A.in1 (Builtin.«object.__getattribute__» ⟨[.ref x,.str name t],[]⟩) (λa s'=>match a with | .done (.ret v)=>wpAny (model prog w) A (handedOut v) Q E s' | _=>False) (λ_ _=>False) s) :
  wpAny (model prog w) A (getAttrBy (.ref x) (.str name t) b expr) Q E s:=by
 obtain ⟨l,g,d,p,n⟩:=s;have f:=I.type (M:=model prog w);have j:=looks_findIn (M:=model prog w) X c.ga;have o:=looks_findIn (M:=model prog w) X c.gg;have i:Looks (model prog w) l (isInstance (.ref x) (.type "BaseException")) true:=f.andThen (looks_mroIn X c.be);have k:=(PySem.F.attrBase_ValueError).ga.bind (.ref x);have e:(expr&&onTheHeap (Value.builtin "BaseException.__getattribute__"))=false:=by cases expr <;> rfl
 have m:(Value.builtin "BaseException.__getattribute__" == Value.builtin "object.__getattribute__")=false:=by decide +kernel
 refine FT (Er (f.at (Er (j.at ?_))))
 repeat (first | simp | lk)
 refine wpAny_attempt (FT ?_);unfold callGetattribute;rw [e];refine Er (wpAny_of_eq k ?_);refine GQ (lr i ?_);refine Fo h (λa s' z=>?_) λ_ _ z=>z.elim;rcases a with (v | _ | _ | _) | _ <;> first | exact z | exact z.elim
theorem DJ (X:K.In s.heap) (I:InstAt s.heap x ox C od) (b:XCls K C) (f:findObj K C od name=some (.value v)) (e:handedIn v=true) (h:Q v { s with toks:=s.toks+1 }):wpAny (model prog w) A (getAttr (.ref x) name expr) Q E s:=by
 obtain ⟨j,g,d,t,i⟩:=s;have a:=I.type (M:=model prog w);have c:=looks_find (M:=model prog w) X I f;refine Er (wpAny_mkText (pk X I b ?_));refine Er (Eu (Er (Eu (Er (a.at (Er (c.at (Eu ?_))))))));show wpAny _ _ (handedOut v) _ _ _;rw [handedOut_of e];exact Eu h
theorem fC (a:XCls K C):findObj K C od "__class__" = some (.bind (.builtin "getset_descriptor.__get__") (.builtin "object.__class__")):=by
 obtain ⟨c,b,_⟩:=any_some a.hd;unfold findObj;rw [b,FX,a.cl,FX];dsimp only;rw [a.cg,FX];dsimp only;rw [a.ct];rfl
theorem wK (X:K.In s.heap) (I:InstAt s.heap x ox C od) (a:XCls K C) (h:R (some (.ref C)) { s with toks:=s.toks+1 }):wpAny (model prog w) A (getAttr? (.ref x) "__class__") R E s:=by
 have e:=fC (od:=od) a;obtain ⟨i,g,d,t,f⟩:=s;have b:=I.type (M:=model prog w);have c:=looks_find (M:=model prog w) X I e;refine Er (wpAny_mkText (Er (wpAny_attempt (pk X I a ?_))));refine Er (Eu (Er (Eu (Er (b.at (Er (c.at ?_)))))));refine Er (FT (GQ (class_get X I a.ob ?_)));refine Eu ?_;exact handed_on rfl (Eu h)
theorem Be (c:XCls K C):KitX K (.ref x) (.ref C) (λh=>∃ ox od,InstAt h x ox C od) where
 ty:=λ_ _ _ ⟨_,_,I⟩=>I.type
 it:=λ_ _ X _=>by
  obtain ⟨j,a,_⟩:=any_some c.hd;unfold clsIn at a;split at a
  ·rename_i m e d g f;exact λo r s s' k q=>by
    exact Er (Hx (k _ _ (X _ _ f)) (Eu q))
  ·cases a
 ne:=λh l p i n g X b=>by
  obtain ⟨j,a,_⟩:=any_some c.hd;refine Bool.eq_false_iff.mpr λq=>?_;obtain rfl:C=l:=Value.ref.inj (GP.mp q);unfold clsIn at a;split at a
  ·rename_i m e d g f;have z:=(X _ _ f).symm.trans b;cases z
  ·cases a
 ca:=λX ⟨_,_,I⟩ k=>wK X I c k
end
def y7:List Value->Bool
 | .ref _ :: r=>y7 r
 | l=>l==[.type "ValueError",.type "Exception",.type "BaseException",.type "object"]
theorem F5 (a:Value):∀ {l:List Value},y7 l=true->refuseLoop a "__setattr__" l=pure ()
 | .ref c :: r,e=>by rw [refuseLoop_ref];exact F5 a e
 | [],e=>by cases e
 | .none :: r,e=>by cases e
 | .type n :: r,e=>by rw [GP.mp e];exact PySem.F.store_ValueError.passes a
 | .bool _ :: _,e=>by cases e
 | .int _ _ :: _,e=>by cases e
 | .str _ _ :: _,e=>by cases e
 | .bytes _ _ :: _,e=>by cases e
 | .float _ _ :: _,e=>by cases e
 | .builtin _ :: _,e=>by cases e
 | .ellipsis :: _,e=>by cases e
 | .notImplemented :: _,e=>by cases e
section
variable {prog:Program} {w:World} {A:Around} {E:Value->Shared->Prop} {s:Shared} {K:Frag} {x C:Addr} {ox:Obj} {od:Option Obj} {name:Str} {R:Result->Shared->Prop} {v:Value}
theorem BH (X:K.In s.heap) (I:InstAt s.heap x ox C od) (k:XCls K C) (o:(clsIn K C).any (λd=>y7 d.mro)=true) (j:findIn K (.ref C) name=some none)
  (h:∀ b,wpAny (model prog w) A.in1 (storeInOwnDict (.ref x) (.ref C) (.str name tk) name v b) (λc s'=>match c with | .done f=>R (.ok f) s' | .again i=>i.quiet=true/\codeAny (model prog w) A i R s') (λe s'=>R (.error e) s') s) :
  codeAny (model prog w) A (.call (.builtin "object.__setattr__") ⟨[.ref x,.str name tk,v],[]⟩) R s:=by
 have a:=PySem.F.store_object;obtain ⟨d,n,l⟩:=any_some o;have g:Looks (model prog w) s.heap (isInstance (.ref x) (.type "object")) true:=I.type.andThen (looks_mroIn X k.ob);have m:Looks (model prog w) s.heap (mroOf (.ref C)) d.mro:=(looks_clsIn X n).andThen .now;refine Hq a.slot.plain a.entry (@check_slot (model prog w) _ _ s "object.__setattr__" "object" "__setattr__" (.ref x) [.str name tk,v] [] _ a.kind a.split g (a.args (.ref x) (.str name tk) v) ?_);rw [osa_eq,refuse_eq];refine Er (Er (I.type.here (Er (m.here ?_))));rw [F5 _ l];exact Eu (Er (I.type.here (Er ((looks_findIn X j).here (Er (Eu (h _)))))))
def tbV:Option Addr->Value
 | none=>.none
 | some T=>.ref T
def IsX (a:Option Addr) (h:Heap) (x C:Addr) (d:Option Addr):Prop:=∃ vs,h.get? x=some { cls:=.ref C,dict:=d,data:=.fields vs }/\vs.size=6/\vs[1]?=some (tbV a)
theorem IsX.inst0 (i:IsX fr h x C none):∃ ox,InstAt h x ox C none:=by
 obtain ⟨vs,e,_⟩:=i;exact ⟨_,e,rfl,rfl,True.intro⟩
theorem IsX.inst1 (i:IsX fr h x C (some d)) {o:Obj} (hd:h.get? d=some o):∃ ox,InstAt h x ox C (some o):=by
 obtain ⟨vs,e,_⟩:=i;exact ⟨_,e,rfl,rfl,hd⟩
theorem Ba (X:K.In s.heap) (i:IsX fr s.heap x C none) (t:XCls K C) (B:(clsIn K C).any (λr=>y7 r.mro)=true) (hs:findIn K (.ref C) "__setattr__" = some (some (.builtin "object.__setattr__"))) (u:findIn K (.ref C) name=some none)
  (h:∀ h' t',IsX fr h' x C (some s.heap.objs.size)->h'.Ns1 s.heap.objs.size (λy=>if y=name then some v else none)->(∀ b o,b≠x->s.heap.get? b=some o->h'.get? b=some o)->Q () { s with heap:=h',toks:=t' }):wpAny (model prog w) A (setAttr (.ref x) name v) Q E s:=by
 obtain ⟨ox,I⟩:=i.inst0;obtain ⟨vs,a,hsz⟩:=i;obtain ⟨r,D,hd⟩:=any_some t.hd;refine set_plain X I hs (BH X I t B u λb=>?_);refine Er (Eu (Er (Er (Hx a (Er (Looks.here (looks_clsIn X D) ?_))))));rw [hd];have f:=EQ (EK a);have d:(s.heap.push { cls:=.type "dict",data:=.dict #[] }).get? x=some { cls:=.ref C,data:=.fields vs }:=Ew _ a;refine Er (wpAny_alloc (Er (wpAny_update d (Eu ?_))));have p:((s.heap.push { cls:=.type "dict",data:=.dict #[] }).update x λo=>{ cls:=o.cls,dict:=some s.heap.objs.size,data:=o.data,slots:=o.slots }).get? s.heap.objs.size=some { cls:=.type "dict",data:=.dict #[] }:=
  (GG _ _ _ _ f.symm).trans (Heap.get?_push_at rfl rfl)
 have n:((s.heap.push { cls:=.type "dict",data:=.dict #[] }).update x λo=>{ cls:=o.cls,dict:=some s.heap.objs.size,data:=o.data,slots:=o.slots }).get? x=some { cls:=.ref C,dict:=some s.heap.objs.size,data:=.fields vs }:=
  Fz _ d rfl
 have m:∀ b o,b≠x->s.heap.get? b=some o->((s.heap.push { cls:=.type "dict",data:=.dict #[] }).update x λo=>{ cls:=o.cls,dict:=some s.heap.objs.size,data:=o.data,slots:=o.slots }).get? b=some o:=
  λb o l e=>(GG _ _ _ _ l).trans (Ew _ e)
 have q:((s.heap.push { cls:=.type "dict",data:=.dict #[] }).update x λo=>{ cls:=o.cls,dict:=some s.heap.objs.size,data:=o.data,slots:=o.slots }).Ns s.heap.objs.size (λ_=>none):=
  ⟨_,#[],_,p,rfl,λe F=>absurd F (by simp),λ_=>rfl⟩
 generalize ((s.heap.push { cls:=.type "dict",data:=.dict #[] }).update x λo=>{ cls:=o.cls,dict:=some s.heap.objs.size,data:=o.data,slots:=o.slots })=h1 at p n m q ⊢;refine Er (Eu (Er (wpAny_nsSet1 (Heap.Ns1.of_empty q) λh' c hs'=>?_)));obtain ⟨H,G,z,g,j,k⟩:=c.count (Within.cons name v Within.nil);refine Er (wpAny_lookBehind g (by rw [j];exact pastItsLine_dict (Fk k (by rw [Fy,List.length_nil,Fj];omega))) (Eu ?_));exact h h' _ ⟨vs,(hs'.2 x f).trans n,hsz⟩ c λb o l e=>(hs'.2 b (EQ (EK e))).trans (m b o l e)
theorem Bd {d:Addr} {mA:Str->Option Value} {ns:List Str} (X:K.In s.heap) (i:IsX fr s.heap x C (some d)) (hd:s.heap.Ns1 d mA) (o:d≠x) (l:XCls K C) (t:(clsIn K C).any (λm=>y7 m.mro)=true) (hs:findIn K (.ref C) "__setattr__" = some (some (.builtin "object.__setattr__"))) (n:findIn K (.ref C) name=some none)
  (u:Within mA ns) (hz:ns.length<=1000)
  (h:∀ h' t',h'.Ns1 d (λy=>if y=name then some v else mA y)->Heap.SameBut d s.heap h'->Q () { s with heap:=h',toks:=t' }):wpAny (model prog w) A (setAttr (.ref x) name v) Q E s:=by
 obtain ⟨od,e,z⟩:=K7 hd;obtain ⟨ox,I⟩:=i.inst1 e;obtain ⟨vs,k,hsz⟩:=i;obtain ⟨m,p,j⟩:=any_some l.hd;refine set_plain X I hs (BH X I l t n λb=>?_);refine Er (Eu (Er (Er (Hx k (Er (Looks.here (looks_clsIn X p) ?_))))));rw [j];refine Eu ?_;refine Er (Eu (Er (wpAny_nsSet1 hd λh' a hs'=>?_)));obtain ⟨B,r,q,c,f,g⟩:=a.count (Within.cons name v u);refine Er (wpAny_lookBehind c (by rw [f];exact pastItsLine_dict (Fk g (by rw [Fy,Fj];omega))) (Eu ?_));exact h h' _ a hs'
end
section
variable {prog:Program} {w:World} {A:Around} {E:Value->Shared->Prop} {s:Shared} {K:Frag} {x C:Addr} {d:Option Addr} {R:Result->Shared->Prop} {y:Value}
theorem zW {l:Option Addr} (X:K.In s.heap) (i:IsX l s.heap x C d) (p:U7 K C=true)
  (h:∀ h',(∀ b o,b≠x->s.heap.get? b=some o->h'.get? b=some o)->IsX l h' x C d->R (.ok (.ret .none)) { s with heap:=h' }) :
  codeAny (model prog w) A (.call (.builtin "ValueError.__init__") ⟨[.ref x,y],[]⟩) R s:=by
 have F:=Hy;obtain ⟨vs,a,hsz,f⟩:=i;have n:Looks (model prog w) s.heap (typeOf (.ref x)) (.ref C):=(Looks.ld a).andThen .now;have Y:=C9 (M:=model prog w) X p;have g:Looks (model prog w) s.heap (isInstance (.ref x) (.type "ValueError")) true:=n.andThen Y.isV;obtain ⟨v,t,u,B,z,_,_⟩:=Y.obj;have m:=F.noStar;refine Hq F.init.plain F.initEntry ?_;simp only [checkBuiltinCall,F.initKind,F.initSplit,F.initRow];refine Er (g.here ?_);simp only [Bool.not_true,FZ,HX];have k:(s.heap.push { cls:=.type "tuple",data:=.seq #[y] }).get? x=some { cls:=.ref C,dict:=d,data:=.fields vs }:=Ew _ a;obtain ⟨j,q⟩:∃ j,vs[0]?=some j:=⟨vs[0]'(by omega),HB _⟩;have c:R (.ok (.ret .none)) { s with heap:=(s.heap.push { cls:=.type "tuple",data:=.seq #[y] }).update x (Obj.mapFields (·.setIfInBounds 0 (.ref s.heap.objs.size))) }:=by
  refine h _ (λb o r e=>(GG _ _ _ _ r).trans (Ew _ e)) ⟨vs.setIfInBounds 0 (.ref s.heap.objs.size),Fz _ k rfl,?_⟩;rw [Array.size_setIfInBounds];exact ⟨hsz,by rw [Array.getElem?_setIfInBounds_ne (by decide)];exact f⟩
 unfold Bind.checkArgs
 repeat lk
 rw [q];refine Eu (Er (Ha k rfl (by omega) ?_));cases j <;> first | exact Eu (Eu c) | exact wpAny_letGo (Eu c)
end
end L2
namespace L2
open PySem PySem.Spec PyProof.Rows
def L5 (a:Option Addr) (x C:Addr) (d:Option Addr):HO:=.ext λh=>IsX a h x C d
abbrev N9 (x C:Addr) (d:Option Addr):HO:=L5 none x C d
def F6 (d:Addr) (fs:List (Str×V)):HO:=.ext λh=>∃ mA,h.Ns1 d mA/\(∀ f,RelO (fs.lookup f) (mA f))/\PySem.Within mA (fs.map (·.1))/\fs.length<=900
theorem okX {h:Heap} {x C:Addr} {d:Option Addr} (i:IsX fr h x C d):ObjOk P w H h x (L5 fr x C d):=by
 obtain ⟨vs,e,z⟩:=id i;refine ⟨i,⟨_,e⟩,λf g ⟨a,c,b⟩ k=>⟨a,k _ c,b⟩⟩
theorem okD {mA:Str->Option Value} (n:h.Ns1 d mA) (r:∀ f,RelO (fs.lookup f) (mA f)) (g:PySem.Within mA (fs.map (·.1))) (l:fs.length<=900):ObjOk P w H h d (F6 d fs):=by
 obtain ⟨o,es,p,e,q⟩:=id n;exact ⟨⟨mA,n,r,g,l⟩,⟨o,e⟩,λm s ⟨a,i,j,b,c⟩ k=>⟨a,i.at k,j,b,c⟩⟩
structure XC (K:PySem.W.Frag) (C:Addr):Prop where
 xc:XCls K C
 ex:U7 K C=true
 vm:(PySem.W.clsIn K C).any (λcd=>y7 cd.mro)=true
 sa:PySem.W.findIn K (.ref C) "__setattr__" = some (some (.builtin "object.__setattr__"))
 kp:PySem.W.keepIn K (.ref C)=true
section
variable {X:Cx} {pins:List (Addr×Obj)} {σ:St} {H:Hp} {s:Shared} {x C:Addr}
theorem Inv.isX {a:Option Addr} {d:Option Addr} (I:Inv X pins σ H s) (e:H x=some (L5 a x C d)):IsX a s.heap x C d:=(I.hok x _ e).1
theorem Inv.isD (I:Inv X pins σ H s) (e:H d=some (F6 d fs)):∃ mA,s.heap.Ns1 d mA/\(∀ f,RelO (fs.lookup f) (mA f))/\PySem.Within mA (fs.map (·.1))/\fs.length<=900:=(I.hok d _ e).1
theorem Inv.madeX (I:Inv X pins σ H s):Inv X pins σ (upd H (s.heap.objs.size+1) (N9 (s.heap.objs.size+1) C none)) { s with heap:=(s.heap.push (B1 us)).push (w9 C s.heap.objs.size) }:=by
 have a:((s.heap.push (B1 us)).push (w9 C s.heap.objs.size)).get? (s.heap.objs.size+1)=some (w9 C s.heap.objs.size):=by
  have:=ET (s.heap.push (B1 us)) (o:=w9 C s.heap.objs.size) rfl;rwa [Gj] at this
 exact I.laid (λb u q=>Ew _ (Ew _ q)) (FV _) (okX ⟨_,a,rfl,rfl⟩)
end
def wS (C:Addr) (sp:Sp) (E:XK) (t:TA):TE:=λσ H Q=>t σ H λvs a=>vs.length<=1000/\∀ x,a x=none->sp (.ref x :: vs) (upd a x (N9 x C none)) (λv b=>v=.non/\Q (.ref x) b) E
section
variable {X:Cx} {CX:CXT} {k:Nat} {f C:Addr} {fd:FuncData} {ps:List Str} {sp:Sp} {E:XK} {nm:Str} {p pos:Pos} {e:Expr} {es:List Expr} {t:TA}
theorem Y0 (M:XC X.K C) (hi:PySem.W.findIn X.K (.ref C) "__init__" = some (some (.ref f))) (hf:PySem.W.isFn X.K (.ref f)=true) (F:FnOk X.prog X.w X.K X.mg X.base CX k f fd ps sp) (hr:Room CX.q (k+1) X.A) (hg:Gl X nm) (hm:X.mg nm=some (.ref C)) (hb:Binds X.K fd ps []) (hx:u7 CX X E)
  (ha:PA X (e :: es) t) (hdb:(nm==("__debug__" : Str))=false:=by decide) (he:starEach (e :: es) X.env=(false,eval e X.env) :: starEach es X.env:=by rfl) (hpl:(backTo pos (starEach es X.env)).any (·.1)=false:=by rfl) :
  PE X (.Call (.Name nm p) (e :: es) [] pos) (wS C sp E t):=by
 intro pins s σ H Q I h;refine FY (D5 I hg hm ?_ hdb);refine GR I.ok.mod.kin M.kp (thn (ha pos pins s σ H _ I h) λus s1 ⟨vs,H1,I1,r,hl,q⟩=>⟨I1.kIn,?_⟩) he hpl;have hq:=q (s1.heap.objs.size+1) (I1.hok.fresh (FV _));have I2:=Inv.madeX (C:=C) (us:=us) I1;have r2:Vals (V.ref (s1.heap.objs.size+1) :: vs) (Value.ref (s1.heap.objs.size+1) :: us):=.cons rfl r;have hlen:(Value.ref (s1.heap.objs.size+1) :: us++[]).length=ps.length:=by
  have e:=r2.length;rw [F.len _ _ _ _ hq] at e;simpa using e.symm
 have hus:us.length<=sizeLine:=by
  have:=r.length;have z:(1000:Nat)<=sizeLine:=by decide
  omega
 have hb2:=hb _ (Value.ref (s1.heap.objs.size+1) :: us) I2.kIn hlen;rw [Fm] at hb2;refine GQ (zN (C9 I1.kIn M.ex) (PySem.W.looks_findIn I1.kIn hi) (λself=>PySem.W.bind_fn I1.kIn self (GP.mp hf)) hus
  (GA (F.run _ X.stack _ _ ⟨Value.ref (s1.heap.objs.size+1) :: us,[]⟩ _ _ _ E (hr.make C us []) (I2.env0.make C us []) hb2 r2 hq) λr s' hq'=>?_))
 cases r with
 | error e=>exact hx pins σ _ _ e s' I2 hq'
 | ok fl=>
  cases fl with
  | ret u=>
   obtain ⟨v,H',I3,rv,ev,q3⟩:=I2.after hq';subst ev;exact ⟨rv,⟨V.ref (s1.heap.objs.size+1),H',I3,rfl,q3⟩⟩
  | next=>exact False.elim hq'
  | brk=>exact False.elim hq'
  | cont=>exact False.elim hq'
end
theorem kr {o:HO} (h:H x=some o):upd H x o=H:=funext λb=>by
 by_cases e:b=x
 ·subst e;rw [b6,h]
 ·rw [a7 e]
def BG (K:PySem.W.Frag) (e g:TE) (f:Str):TS:=λD σ H=>g σ H λy b=>e σ b λc a=>∃ x C,c=.ref x/\XC K C/\t9 K C f /\
 ((a x=some (N9 x C none)/\∀ d,a d=none->D.nx σ (upd (upd a d (F6 d [(f,y)])) x (N9 x C (some d)))) \/
 ∃ d fs,d≠x/\a x=some (N9 x C (some d))/\a d=some (F6 d fs)/\fs.length<900/\D.nx σ (upd a d (F6 d (G0 f y fs))))
def Ar (K:PySem.W.Frag) (e:TE) (f:Str):TE:=λσ H Q=>e σ H λb a=>∃ c x C d fs v,b=.ref x/\XC K C/\t9 K C f/\a x=some (L5 c x C (some d))/\a d=some (F6 d fs)/\fs.lookup f=some v/\Q v a
section
variable {X:Cx} {o e value:Expr} {f:Str} {pos pos':Pos} {ta tv:TE}
theorem E7 (ha:PE X o ta) (hv:PE X value tv) (hs:swapsWith value (some (.Attribute o f pos')) pos.line X.env=pure false):PS X (.Assign [.Attribute o f pos'] value pos) (BG X.K ta tv f):=by
 intro pins s σ H D I h;refine plainObj_wpAny_Assign_Attribute (thn (hv pins s σ H _ I h) λu s1 ⟨y,H1,I1,ry,q⟩=>thn (ha pins s1 σ H1 _ I1 q) λov s2 ⟨xv,H2,I2,rx,x,C,ex,M,n,q2⟩=>?_) hs;subst ex;obtain rfl:ov=Value.ref x:=rx;rcases q2 with ⟨e0,q2⟩ | ⟨d,fs,hdx,e0,e1,hl,q2⟩
 ·have i0:=I2.isX e0;obtain ⟨vs0,hx0,_⟩:=id i0;have nd:=I2.hok.fresh (EI _);have hne:=Nat.ne_of_gt (EK hx0);refine Ba I2.kIn i0 M.xc M.vm M.sa n λh' t' i1 n1 k1=>?_;obtain ⟨vs1,hx1,_⟩:=id i1;obtain ⟨oD,esD,epD,hoD,rD⟩:=id n1;have m1:(h'.update x λ_=>{ cls:=.ref C,data:=.fields vs0 }).get? x=some { cls:=.ref C,data:=.fields vs0 }:=Fz _ hx1 rfl;have m2:∀ b,b≠x->(h'.update x λ_=>{ cls:=.ref C,data:=.fields vs0 }).get? b=h'.get? b:=λb hb=>GG _ _ _ _ hb;have I3:Inv X pins σ (upd H2 s2.heap.objs.size (F6 s2.heap.objs.size [(f,y)])) { s2 with heap:=h'.update x λ_=>{ cls:=.ref C,data:=.fields vs0 },toks:=t' }:=by
   refine I2.laid (λb ob e=>?_) (EI _) (okD (n1.at λob e=>(m2 _ hne).trans e) (λg=>?_) (λg hg=>?_) (by show 1<=900;decide))
   ·grind
   ·show RelO (List.lookup g [(f,y)]) (if g=f then some u else none);rw [Gi,List.lookup_nil];by_cases q:g=f
    ·subst q;rw [if_pos rfl,show (g==g)=true from by simp];exact ry
    ·have:(g==f)=false:=by simpa using q
     rw [this,if_neg q];exact True.intro
   ·grind
  have I4:=I3.write (t':=t') (by rw [a7 hne.symm,e0];exact True.intro) (.inl rfl) (λb ob hb e=>((m2 b hb).symm.trans e)) ⟨_,hx1⟩ (okX i1);exact ⟨σ,_,I4,q2 _ nd⟩
 ·obtain ⟨mA,n0,r0,w0,l0⟩:=I2.isD e1;refine Bd I2.kIn (I2.isX e0) n0 hdx M.xc M.vm M.sa n w0 (by rw [Es];omega) λh' t' n1 sb=>?_;obtain ⟨oD,esD,epD,hoD,rD⟩:=id n1;refine ⟨σ,_,I2.write (by rw [e1];exact True.intro) (.inl rfl) (λb ob hb e=>(sb.2 b hb).trans e) ⟨_,hoD⟩ (okD n1 (λg=>?_) (λg hg=>?_) ?_),q2⟩
  ·show RelO ((G0 f y fs).lookup g) (if g=f then some u else mA g);rw [U4];by_cases q:g=f
   ·rw [if_pos q,if_pos q];exact ry
   ·grind
  ·by_cases q:g=f
   ·rw [q];exact (R9 f y fs).1
   ·exact (R9 f y fs).2 g (w0 g λz=>hg (by show (if g=f then some u else mA g)=none;rw [if_neg q];exact z))
  ·have:=U9 f y fs;omega
theorem tO (z:PE X e ta) (w:attributeBase e f X.env (eval e X.env)=eval e X.env):PE X (.Attribute e f pos) (Ar X.K ta f):=by
 intro pins s σ H Q I h;refine tL w (thn (z pins s σ H _ I h) λu B ⟨F,m,a,o,A,x,C,d,fs,v,k,M,n,p,y,l,q⟩=>?_);subst k;obtain rfl:u=Value.ref x:=o;obtain ⟨mA,i,t,G,E⟩:=a.isD y;obtain ⟨od,b,r⟩:=K7 i;obtain ⟨ox,J⟩:=(a.isX p).inst1 b;have g:=t f;rw [l] at g;obtain ⟨D,j,c⟩:=RelO.some_of g;exact DJ a.kIn J M.xc (PySem.W.findObj_own M.xc.hd n rfl (by rw [r,j])) (kh c) ⟨v,m,a.tok _,c,q⟩
def Au:V->Option Value
 | .ref a=>some (.ref a)
 | .ty n=>some (.type n)
 | _=>none
theorem bt:j8 X (.builtin "isinstance") (λxs H Q=>∃ g x C d y c b,xs=[.ref x,y]/\XC X.K C/\H x=some (L5 g x C d)/\(∀ d',d=some d'->∃ fs,H d'=some (F6 d' fs))/\Au y=some c/\PySem.W.kitOne X.K (.ref C) c=some b/\Q (.bl b) H):=by
 intro pins s σ H xs us Q I r h;obtain ⟨g,x,C,d,y,c,b,rfl,M,f,hd,i,o,q⟩:=h;obtain ⟨u,k,rfl,l,e⟩:=eF r;cases (l);have m:k=c:=by
  cases y <;> first | (cases i;exact e) | cases i
 subst m;have J:∃ ox od,PySem.W.InstAt s.heap x ox C od:=by
  cases d with
  | none=>obtain ⟨ox,J⟩:=(I.isX f).inst0;exact ⟨ox,_,J⟩
  | some d'=>
   obtain ⟨fs,n⟩:=hd d' rfl;obtain ⟨mA,j,_⟩:=I.isD n;obtain ⟨od,a,_⟩:=K7 j;obtain ⟨ox,J⟩:=(I.isX f).inst1 a;exact ⟨ox,_,J⟩
 exact FP (Be M.xc) I.kIn J o (λz=>nomatch z) λp=>⟨.bl b,H,I.tok _,rfl,q⟩
end
def TbO (T:Addr):HO:=.ext λh=>∃ o a,h.get? T=some o/\o.data=.fields a/\3<a.size
theorem okT {o:Obj} {a:Array Value} (e:h.get? T=some o) (d:o.data=.fields a) (z:3<a.size):ObjOk P w H h T (TbO T):=
 ⟨⟨o,a,e,d,z⟩,⟨o,e⟩,λc b ⟨o,a,e,d,z⟩ k=>⟨o,a,k _ e,d,z⟩⟩
structure Fx (K:PySem.W.Frag) (H:Hp) (a C:Addr) (d tb:Option Addr):Prop where
 xc:XC K C
 at_:H a=some (L5 tb a C d)
 dc:∀ d',d=some d'->d'≠a/\∃ fs,H d'=some (F6 d' fs)
 tb_:∀ T,tb=some T->T≠a/\H T=some (TbO T)
def Mv (H:Hp) (a C:Addr) (d:Option Addr) (H':Hp):Prop:=(∀ b o,b≠a->H b=some o->H' b=some o)/\∃ c,H' a=some (L5 c a C d)
section
variable {X:Cx} {pins:List (Addr×Obj)} {σ:St} {H:Hp} {s:Shared} {a C T:Addr} {d tb:Option Addr} {A:Around} {E:Value->Shared->Prop} {Q:Unit->Shared->Prop}
theorem Inv.slots (I:Inv X pins σ H s) (hs:Heap.SlotsOnly (frs X.stack) s.heap h'):Inv X pins σ H { s with heap:=h' }:=by
 have k:∀ b u,H b≠none->s.heap.get? b=some u->h'.get? b=some u:=λb u n e=>(hs.2.1 b λz=>n (I.stkFree b z)).trans e;have f:Un (frs X.stack) [] H H s.heap h':=⟨λb o e _ g _=>(hs.2.1 b g).trans e,λb o e _ _ _=>hs.2.2 b o e,λ_ _ _ n _=>n,λb o e _=>let ⟨h,q⟩:=hs.2.2 b o e;⟨_,q⟩,λ_ _ e=>e,λ_ _ _ e=>e,λb ps e=>⟨#[],by rw [e];simp⟩⟩;have d:=λb u e=>(I.hok b u e).stay (λc v a q=>k c v (by
  rcases a with a | a
  ·rw [a,e];simp
  ·rw [a];simp) q) (λ_ q=>q) λ_ _ q=>q
 exact I.call f d I.bare λb z=>absurd z (by simp)
theorem Fx.isX (b:Fx X.K H a C d tb) (I:Inv X pins σ H s):IsX tb s.heap a C d:=I.isX b.at_
theorem Inv.setTb (I:Inv X pins σ H s) (e:H T=some (TbO T)) (k:Inv X pins σ H { s with heap:=s.heap.update T (Obj.mapFields (·.setIfInBounds 3 v)) }->Q () { s with heap:=s.heap.update T (Obj.mapFields (·.setIfInBounds 3 v)) }) :
  wpAny (model X.prog X.w) A (setField (.ref T) 3 v) Q E s:=by
 obtain ⟨o,g,c,f,z⟩:=(I.hok T _ e).1;refine Ha c f z (k ?_);have hd:=Obj.data_mapFields f (·.setIfInBounds 3 v);have d:=Fz (Obj.mapFields (·.setIfInBounds 3 v)) c (Obj.isFreed_of_fields hd);have a:=I.write (t':=s.toks) (by rw [e];exact True.intro) (.inl rfl) (λb u n q=>(Gk _ _ (Ne.symm n)).trans q) ⟨_,d⟩ (okT d hd (by simpa using z));rw [kr e] at a;exact a
theorem dw (I:Inv X pins σ H s) (r:A.frames=some X.stack) (i:X.stack=X.env :: X.outer) (x:X.env.frame=some X.env.locals) (j:Fx X.K H a C d tb)
  (h:∀ H' s' T,Inv X pins σ H' s'->Fx X.K H' a C d (some T)->Mv H a C d H'->Q () s') :
  wpAny (model X.prog X.w) A (do let B <- frameOf X.env;let pl <- entryPlaceOf X.env.locals hadNext;let b <- EntryCells.newEntry head B .none (rawInt X.env.locals) .none pl;setField (.ref a) 1 b) Q E s:=by
 have p:=I.stack;rw [i] at p r;refine Er (wpAny_frameOf_fun r p x λc e=>?_);have v:=I.slots (by rw [i];exact e);refine Er (wpAny_entryPlaceOf λpl l=>?_);refine Er (Fs ?_ (l.sizeOk5 _ _ _ _ _));have D:=ET c (o:={ cls:=.type "traceback",dict:=none,data:=.fields ([head,.ref X.env.locals,.none,rawInt X.env.locals,.none]++(if pl.isEmpty then List.replicate 6 Value.none else pl)).toArray }) rfl;have m:=v.laid (t':=s.toks) (λb u q=>Ew _ q) (EI _)
  (okT D rfl (by simp <;> omega))
 have k:=v.hok.fresh (EI _);have f:c.objs.size≠a:=λz=>by rw [z,j.at_] at k;cases k
 have t:upd H c.objs.size (TbO c.objs.size) a=some (L5 tb a C d):=by rw [a7 f.symm];exact j.at_
 generalize (c.push { cls:=.type "traceback",dict:=none,data:=.fields ([head,.ref X.env.locals,.none,rawInt X.env.locals,.none]++(if pl.isEmpty then List.replicate 6 Value.none else pl)).toArray })=h₂ at m ⊢;obtain ⟨vs,g,hsz,F⟩:=m.isX t;refine Ha g rfl (by omega) ?_;have w:=Fz (Obj.mapFields (·.setIfInBounds 1 (Value.ref c.objs.size))) g rfl;have y:=m.write (t':=s.toks) (o:=L5 (some c.objs.size) a C d) (by rw [t];exact True.intro) (.inl rfl)
  (λb u n q=>(Gk _ _ (Ne.symm n)).trans q) ⟨_,w⟩ (okX ⟨_,w,by simpa using hsz,by simp [tbV,hsz]⟩)
 refine h _ _ c.objs.size y ⟨j.xc,b6,λd' z=>?_,λT z=>?_⟩ ⟨λb o n q=>?_,_,b6⟩
 ·obtain ⟨n,fs,q⟩:=j.dc d' z;exact ⟨n,fs,by rw [a7 n,a7 (b9 q k)];exact q⟩
 ·cases z;exact ⟨f,by rw [a7 f];exact b6⟩
 ·rw [a7 n,a7 (b9 q k)];exact q
theorem gw (I:Inv X pins σ H s) (i:A.frames=some X.stack) (f:X.stack=X.env :: X.outer) (g:X.env.frame=some X.env.locals) (c:Fx X.K H a C d tb)
  (h:∀ H' s' T,Inv X pins σ H' s'->Fx X.K H' a C d (some T)->Mv H a C d H'->Q () s'):wpAny (model X.prog X.w) A (noteFrame (.ref a) X.env) Q E s:=by
 obtain ⟨vs,e,hsz,j⟩:=c.isX I;unfold noteFrame;simp only [g];cases tb with
 | none=>
  refine Er (FJ e rfl j ?_);rw [if_neg (by decide)];exact dw I i f g c h
 | some T=>
  refine Er (FJ e rfl (x:=.ref T) j ?_);rw [if_pos (show (Value.ref T != Value.none)=true from by simp)];obtain ⟨t,k⟩:=c.tb_ T rfl;obtain ⟨o,p,n,r,z⟩:=(I.hok T _ k).1;refine Er (FJ n r (HB z) ?_);by_cases l:(p[3]==rawInt X.env.locals)=true
  ·rw [if_pos l];exact Eu (h H s T I c ⟨λb o _ q=>q,_,c.at_⟩)
  ·rw [if_neg l];exact Er (I.setTb k λm=>dw m i f g c h)
theorem K1 (I:Inv X pins σ H s) (c:Fx X.K H a C d (some T)) (h:∀ s',Inv X pins σ H s'->Q () s'):wpAny (model X.prog X.w) A (setFlight (.ref a) fl) Q E s:=by
 obtain ⟨vs,b,hsz,f⟩:=c.isX I;refine Er (FJ b rfl (x:=.ref T) f ?_);rw [if_pos (show (Value.ref T != Value.none)=true from by simp)];exact I.setTb (c.tb_ T rfl).2 λe=>h _ e
theorem gU (I:Inv X pins σ H s) (f:A.frames=some X.stack) (c:X.stack=X.env :: X.outer) (i:X.env.frame=some X.env.locals) (l:Fx X.K H a C d tb)
  (h:∀ H' s' T,Inv X pins σ H' s'->Fx X.K H' a C d (some T)->Mv H a C d H'->Q () s'):wpAny (model X.prog X.w) A (leaving X.env (.ref a)) Q E s:=by
 exact Er (gw I f c i l λg n T k b j=>K1 k b λm e=>h g m T e b j)
end
end L2
namespace L2
open PySem PySem.W PySem.Calls PySem.Spec PyProof.Rows
section
variable {prog:Program} {w:World} {A:Around} {E:Value->Shared->Prop} {s:Shared} {K:Frag} {env:PySem.Env}
theorem cL (m:A.handled=none)
  (h:wpAny (model prog w) A x (λv c=>∃ a C d,v=.ref a/\K.In c.heap/\XC K C/\IsX none c.heap a C d/\E (.ref a) c) E s):wpAny (model prog w) A (raiseStmt env (some x) none) Q E s:=by
 refine Er (Fo h (λv c i=>?_) λ_ _ x=>x);obtain ⟨a,C,d,rfl,X,M,⟨vs,b,hsz,k⟩,l⟩:=i;have Y:=C9 (M:=model prog w) X M.ex;have e:Looks (model prog w) c.heap (typeOf (.ref a)) (.ref C):=(Looks.ld b).andThen .now;have f:Looks (model prog w) c.heap (isType (.ref a)) false:=(Looks.ld b).andThen .now;have g:Looks (model prog w) c.heap (isInstance (.ref a) (.type "BaseException")) true:=e.andThen Y.isB;have j:=Y.ty;refine Er (Eu (Er (FT (Er (Er (f.here ?_))))));refine Eu ?_;refine Er (g.here ?_);refine Eu (Er (f.here ?_));refine Er (Er (e.here (Er (j.here ?_))));rw [if_pos (by rfl)];refine Eu (Er (Er (FJ b rfl k ?_)));rw [if_neg (by decide)];exact Eu (wpAny_raiseNew_none m l)
theorem gZ {a C T:Addr} {d o:Option Addr} {b:Bool} {Q:Bool->Shared->Prop} (X:K.In s.heap) (M:XC K C) (l:XC K T) (i:IsX o s.heap a C d) (c:kitOne K (.ref C) (.ref T)=some b) (h:Q b s) :
  wpAny (model prog w) A (excMatches (.ref a) (.ref T)) Q E s:=by
 obtain ⟨vs,g,hsz,p⟩:=i;have Y:=C9 (M:=model prog w) X M.ex;have f:=C9 (M:=model prog w) X l.ex;have n:Looks (model prog w) s.heap (typeOf (.ref a)) (.ref C):=(Looks.ld g).andThen .now;have k:Looks (model prog w) s.heap (isInstance (.ref T) (.type "tuple")) false:=f.ty.andThen (Looks.of_pure tc_notTuple);have m:Looks (model prog w) s.heap (isExcClass (.ref T)) true:=f.isT.andThen f.isB;have j:Looks (model prog w) s.heap (isSubtype (.ref C) (.ref T)) b:=by
  unfold kitOne at c;by_cases e:((Value.ref C:Value)==.ref T)=true
  ·rw [if_pos e] at c;cases c;cases (eq_of_beq e);exact Y.self
  ·rw [if_neg e] at c;exact (kit_cls X c).2.2
 refine Er (k.here ?_);simp only [FZ,HX];refine Er (Eu ?_);rw [FO];refine Er (Er (Er (m.here ?_)));refine Eu ?_;dsimp only;rw [Gz];refine Eu (Er (n.here ?_));rw [FO];refine Er (Er (Er (j.here ?_)));cases b with
 | true=>exact Eu (Eu (Eu h))
 | false=>
  refine Eu ?_;dsimp only;rw [Gz];exact Eu (Eu h)
end
end L2
namespace L2
open PySem PySem.Spec PyProof.Rows
def eE (X:Cx) (v:Value):Cx:={ X with A:=X.A.mark (some v),calm:=false,xe:=λ_ _=>False }
section
variable {X:Cx} {pins:List (Addr×Obj)} {σ:St} {H:Hp} {s:Shared} {v:Value}
theorem Inv.hushed (I:Inv X pins σ H s) (v:Value):Inv (eE X v) pins σ H s:=
 have a:=I.ok
 ⟨⟨a.mod,a.kind,a.glob,a.blt,a.above,a.inj,a.has,a.cab,λz=>absurd (show (false:Bool)=true from z) (by decide),a.frames,a.stk,a.exf,a.bs,a.bsz,a.noex,a.exfs,a.funs,a.frf⟩,I.os,I.bare,I.base,I.loc,I.cell,I.free,I.freeC,I.pin,I.hok,I.len⟩
theorem Inv.unhush (a:X.Ok) (I:Inv (eE X v) pins σ H s):Inv X pins σ H s:=⟨a,I.os,I.bare,I.base,I.loc,I.cell,I.free,I.freeC,I.pin,I.hok,I.len⟩
theorem X2 {M:Model} {A:Around} {E:Value->Shared->Prop} {i:Nat} {x:Str} {pos:Pos} {Q:Unit->Shared->Prop} (I:Inv X pins σ H s) (hN:X.N.Nodup) (hi:X.N[i]?=some x) (hk:X.env.scope.names.lookup x=some .local)
  (h:∀ s',Inv X pins (σ.set i none) H s'->Q () s'):wpAny M A (do bindName X.env x .none;unbindBehindTheSuite X.env x pos) Q E s:=by
 obtain ⟨m,hn,hl⟩:=id I.loc;have hcls:(X.env.scope.kind==.class||(X.env.scope.kind==.module&&X.env.locals != X.env.globals))=false:=by rw [I.ok.kind];rfl
 have hiσ:i<σ.length:=by rw [I.len];exact (Et.mp hi).1
 have cne:=I.cne;refine wpAny_nameGoes_keeps hk hn hcls λh' v hn' hs=>?_;have tracked:HOk X.prog X.w H h':=λb ob e=>by
  refine (I.hok b ob e).stay (λc w' hc q=>(hs.2 c ?_).trans q) (λ_ q=>q) λ_ _ q=>q;rintro rfl;rcases hc with hc | hc
  ·rw [<- hc,I.free] at e;cases e
  ·rw [I.free] at hc;cases hc
 refine h _ ⟨I.ok,I.os,I.bare,⟨λb o e n hb hx=>?_,λb o e n hb hx=>?_,I.base.free,λb o e hx=>?_,I.base.tups,I.base.frzs,I.base.tbls⟩,⟨_,hn',λj y v' e1 e2 e3=>?_⟩,λy c e=>?_,I.free,I.freeC,λp hp=>?_,tracked,by simpa using I.len⟩
 ·exact (hs.2 b (EQ (EW (EK e) I.ok.above))).trans (I.base.keep b o e n hb hx)
 ·obtain ⟨sl,e1⟩:=I.base.slot b o e n hb hx;exact ⟨sl,(hs.2 b (EQ (EW (EK e) I.ok.above))).trans e1⟩
 ·obtain ⟨o',e1⟩:=I.base.there b o e hx;exact ⟨o',(hs.2 b (EQ (EW (EK e) I.ok.above))).trans e1⟩
 ·by_cases hj:j=i
  ·subst hj;rw [Fg hiσ] at e2;cases e2
  ·rw [ER (Ne.symm hj)] at e2;obtain ⟨u',r',q⟩:=hl j y v' e1 e2 e3;refine ⟨u',r',?_⟩;rcases q with ⟨k,e⟩ | ⟨k,c,e,z⟩
   ·refine .inl ⟨k,?_⟩;have:y≠x:=λe=>hj (aN hN e1 (e▸hi));simp [this,e]
   ·exact .inr ⟨k,c,e,z.sameBut hs (cne y c e)⟩
 ·obtain ⟨w',z⟩:=I.cell y c e;exact ⟨w',z.sameBut hs (cne y c e)⟩
 ·obtain ⟨e,n,ne,nf,d⟩:=I.pin p hp;exact ⟨(hs.2 p.1 ne).trans e,n,ne,nf,d⟩
end
section
variable {X:Cx} {pins:List (Addr×Obj)} {σ:St} {H:Hp} {s:Shared}
theorem wf (hg:X.A.guards=some []) (hu:X.A.units+80<cLine) (I:Inv X pins σ H s) (hd:DAt X.K H v d) (ru:RelV v u) (S:Shows d) (hl:d.shown.length<=4000) (hx:∀ x,v=.str x->x.length<=4000) :
  wpAny (model X.prog X.w) X.A (formatField u Str.empty) (λz s'=>∃ y t,z=.str y t/\y.length<=4000/\Inv X pins σ H s') E s:=by
 have sh:=S.sh;have sz:=S.sz;have big:(4000:Nat)<=sizeLine:=by decide
 cases hd with
 | non=>cases (ru);exact wpAny_formatField_none ⟨_,_,rfl,hl,I.tok _⟩
 | bl b=>cases (ru);exact wpAny_formatField_bool ⟨_,_,rfl,hl,I.tok _⟩
 | int i=>obtain ⟨t,e⟩:=(ru);subst e;exact formatField_int_small (by simpa [PyData.showable] using sh) ⟨_,_,rfl,hl,I.tok _⟩
 | str x=>obtain ⟨t,e⟩:=(ru);subst e;exact formatField_str (λt' tk=>⟨_,_,rfl,hx x rfl,I.tok _⟩) (Fk (hx x rfl) big)
 | lst h1 h2=>
  obtain ⟨as,rr⟩:=DAt.reads I (.lst h1 h2) ru;obtain ⟨a,rfl⟩:=Hw rr rfl;exact formatField_of_reads rr sh (GZ S.nd) hg (by have:=S.dp;omega) (λ_ _ e=>e) (λh' u tk hk=>⟨_,_,rfl,hl,I.kept hk⟩) sz
 | tup h1 h2=>
  obtain ⟨as,rr⟩:=DAt.reads I (.tup h1 h2) ru;obtain ⟨a,rfl⟩:=Hw rr rfl;exact formatField_of_reads rr sh (GZ S.nd) hg (by have:=S.dp;omega) (λ_ _ e=>e) (λh' u tk hk=>⟨_,_,rfl,hl,I.kept hk⟩) sz
end
theorem aE {Q c:Str->Shared->Prop} (k:∀ out s,Q out s->c out s):∀ (a:List (Sem Value)) (b:Str) (s:Shared),Joins M A E a b Q s->Joins M A E a b c s
 | [],b,s,h=>k _ _ h
 | x :: r,b,s,h=>Fo h (λv d ⟨y,t,e,l,q⟩=>⟨y,t,e,l,aE k r _ d q⟩) λ_ _ z=>z
abbrev TF:=St->Hp->(Hp->Prop)->Prop
def PFs (X:Cx) (es:List Expr) (n:Nat) (t:TF):Prop:=
 ∀ (a:Str) (pins:List (Addr×Obj)) (s:Shared) (σ:St) (H:Hp) (Q:Hp->Prop),a.length+n<=sizeLine->Inv X pins σ H s->t σ H Q ->
  Joins (model X.prog X.w) X.A X.xe (evalEach es X.env) a (λout b=>out.length<=sizeLine/\∃ H',Inv X pins σ H' b/\Q H') s
def fNil:TF:=λ_ H Q=>Q H
def Cw (K:PySem.W.Frag) (te:TE) (t:TF):TF:=λσ H Q=>te σ H λv a=>∃ d,DAt K a v d/\Shows d/\d.shown.length<=4000/\(∀ x,v=.str x->x.length<=4000)/\t σ a Q
section
variable {X:Cx} {e:Expr} {es:List Expr} {n:Nat} {t:TF} {te:TE} {pos:Pos}
theorem Q3:PFs X [] 0 fNil:=λa pins s σ H Q b I q=>⟨by omega,H,I,q⟩
theorem A3 (h:PFs X es n t) (c:x.length<=1000:=by decide):PFs X (.Constant (.str x) k pos :: es) (1000+n) t:=λa pins s σ H Q b I q=>by
 refine Calls.Constant_str ⟨x,_,rfl,?_,?_⟩
 ·rw [HF];omega
 ·exact h (a++x) pins _ σ H Q (by rw [HF];omega) (I.tok _) q
theorem E8 (o:X.A.guards=some []) (j:X.A.units+80<cLine) (g:PE X e te) (h:PFs X es n t):PFs X (.FormattedValue e (-1) none pos :: es) (4000+n) (Cw X.K te t):=λa pins s σ H Q x I q=>by
 refine wpAny_FormattedValue_plain (thn (g pins s σ H _ I q) λu A ⟨v,m,i,l,d,hd,S,f,w,p⟩=>?_);refine thn (wf o j i hd l S f w) λz b ⟨y,r,c,B,k⟩=>?_;refine ⟨y,r,c,?_,?_⟩
 ·rw [HF];omega
 ·exact h (a++y) pins b σ m Q (by rw [HF];omega) k p
def tFs (t:TF):TE:=λσ H Q=>t σ H λH'=>∀ z:Str,z.length<=sizeLine->Q (.str z) H'
theorem P7 (h:PFs X (e :: e2 :: es) n t) (f:n<=100000):PE X (.JoinedStr (e :: e2 :: es) pos) (tFs t):=by
 intro pins s σ H Q I q;refine wpAny_JoinedStr ?_;have d:(100000:Nat)<=sizeLine:=by decide
 have a:=h Str.empty pins s σ H _ (by show 0+n<=sizeLine;omega) I q;exact aE (λout g ⟨l,H',c,b⟩=>⟨l,.str out,H',c.tok _,⟨_,rfl⟩,b out l⟩) _ _ _ a
theorem G1 {f B:Addr} {fd:FuncData} {ps:List Str} {sp:Sp} {E:XK} {b m:Str} {p a:Pos} {pl:Sem Bool} {j:Value} {n:TA}
  (A:Gl X b) (z:X.mg b=some (.ref B)) (hs:PySem.W.specialIn X.K (.ref B) "__getattribute__" = some (some (.builtin "type.__getattribute__"))) (d:PySem.W.readsIn X.K B j=true) (y:PySem.W.findCls X.K (.ref B) j m=some (.val (.ref f))) (u:PySem.W.keepIn X.K (.ref f)=true)
  (F:FnOk X.prog X.w X.K X.mg X.base CX k f fd ps sp) (v:Room CX.q k X.A) (x:Binds X.K fd ps []) (C:u7 CX X E) (t:PA X (e :: es) n)
  (g:(b==("__debug__" : Str))=false:=by decide) (c:starEach (e :: es) X.env=(false,eval e X.env) :: starEach es X.env:=by rfl) (i:(backTo pos (starEach es X.env)).any (·.1)=false:=by rfl)
  (w:eval (.Call (.Attribute (.Name b p) m a) (e :: es) [] pos) X.env=(do
   let o <- eval (.Name b p) X.env
   standAt a.atName
   let (f,first) <- holding [o] (getMethod o m pl)
   callWith pos f first (backTo pos (starEach (e :: es) X.env)) (backToKw pos (keywordEach [] X.env))):=by rfl) :
  PE X (.Call (.Attribute (.Name b p) m a) (e :: es) [] pos) (pb sp [] E n):=by
 intro pins s σ H Q I h;refine PySem.W.methodCall_KW (D5 I A z ?_ g) w;refine PySem.W.method_cls I.kIn hs (PySem.W.cls_value I.kIn d y rfl ?_);refine GR I.ok.mod.kin u (thn (t pos pins _ σ H _ (I.tok _) h) λus G ⟨vs,D,l,r,q⟩=>⟨l.kIn,?_⟩) c i;exact gJ F v x .nil C l r q
def wr (K:PySem.W.Frag) (b:TA):TE:=λσ H Q=>b σ H λvs a=>∃ x C d y,vs=[.ref x,y]/\XC K C/\a x=some (N9 x C d)/\Q .non a
theorem kt {p apos:Pos} {pl:Sem Bool} {ta:TA} (hg:Gl X "ValueError") (hm:X.mg "ValueError" = none) (hf:PySem.W.findCls X.K (.type "ValueError") (.type "type") "__init__" = some (.val (.builtin "ValueError.__init__"))) (ha:PA X (e :: es) ta)
  (hst:starEach (e :: es) X.env=(false,eval e X.env) :: starEach es X.env:=by rfl) (hpl:(backTo pos (starEach es X.env)).any (·.1)=false:=by rfl)
  (ht:eval (.Call (.Attribute (.Name "ValueError" p) "__init__" apos) (e :: es) [] pos) X.env=(do
   let ov <- eval (.Name "ValueError" p) X.env
   standAt apos.atName
   let (f,first) <- holding [ov] (getMethod ov "__init__" pl)
   callWith pos f first (backTo pos (starEach (e :: es) X.env)) (backToKw pos (keywordEach [] X.env))):=by rfl) :
  PE X (.Call (.Attribute (.Name "ValueError" p) "__init__" apos) (e :: es) [] pos) (wr X.K ta):=by
 intro pins s σ H Q I h;refine PySem.W.methodCall_KW (pl:=pl) (T0 I hg hm (show bootBuiltins "ValueError" = some (.type "ValueError") by rfl) ?_) ht;obtain ⟨m,hfr⟩:=I.fr;refine PySem.W.method_type hfr I.ok.mod.kin (by rfl) (by decide +kernel) hf rfl ?_;refine Hh (thn (ha pos pins _ σ H _ (I.tok _) h) λus s1 ⟨vs,H1,I1,r,x,C,d,y,ev,M,e0,q⟩=>?_) hst hpl;subst ev;obtain ⟨u,u2,rfl,ru,ru2⟩:=eF r;cases (show u=Value.ref x from ru);refine GQ (zW I1.kIn (I1.isX e0) M.ex λh' k1 i1=>?_);obtain ⟨vs1,hx1,_⟩:=id i1;have I2:=I1.write (h':=h') (t':=s1.toks) (x:=x) (e:=x) (o:=N9 x C d) (by rw [e0];exact True.intro) (.inl rfl) (λb ob hb z=>k1 b ob hb z) ⟨_,hx1⟩ (okX i1);rw [kr e0] at I2;exact ⟨.non,H1,I2,rfl,q⟩
end
end L2
namespace Hn
open PySem L2
def spHE (K:PySem.W.Frag):Sp:=λvs H Q _=>∃ (x:Addr) (y:V) (C:Addr) (d:Option Addr),vs=[.ref x,y]/\XC K C/\H x=some (N9 x C d)/\Q .non H
structure Fmt (K:PySem.W.Frag) (H:Hp) (v:V) (d:PyData):Prop where
 at_:DAt K H v d
 sh:Shows d
 l1:d.shown.length<=4000
 l2:∀ x,v=.str x->x.length<=4000
def Got (H:Hp) (x C:Addr) (fs:List (Str×V)) (H':Hp):Prop:=∃ d,H d=none/\d≠x/\H' x=some (N9 x C (some d))/\H' d=some (F6 d fs)/\∀ b,b≠x->b≠d->H' b=H b
def sp1 (K:PySem.W.Frag) (f:Str):Sp:=λvs H Q _=>∃ (x:Addr) (v:V) (C:Addr) (a:PyData),vs=[.ref x,v]/\XC K C/\t9 K C f/\H x=some (N9 x C none)/\Fmt K H v a/\∀ H',Got H x C [(f,v)] H'->Q .non H'
def sp2 (K:PySem.W.Frag) (f g:Str):Sp:=λvs H Q _=>∃ (x:Addr) (v u:V) (C:Addr) (a b:PyData),vs=[.ref x,v,u]/\XC K C/\t9 K C f/\t9 K C g/\H x=some (N9 x C none)/\Fmt K H v a/\Fmt K H u b /\
 ∀ H',Got H x C [(f,v),(g,u)] H'->Q .non H'
structure TxE (K:PySem.W.Frag) (mg:Str->Option Value) (B fB:Addr):Prop where
 mV:mg "ValueError" = none
 fV:PySem.W.findCls K (.type "ValueError") (.type "type") "__init__" = some (.val (.builtin "ValueError.__init__"))
 mB:mg "HandError" = some (.ref B)
 sB:PySem.W.specialIn K (.ref B) "__getattribute__" = some (some (.builtin "type.__getattribute__"))
 rB:PySem.W.readsIn K B (.type "type")=true
 cB:PySem.W.findCls K (.ref B) (.type "type") "__init__" = some (.val (.ref fB))
 kB:PySem.W.keepIn K (.ref fB)=true
theorem jC (v u:V):G0 ("at" : Str) u ([("word",v)]:List (Str×V))=([("word",v),("at",u)]:List (Str×V)):=by
 show (if ("word" : Str) = "at" then [(("word" : Str),u)] else (("word" : Str),v) :: G0 "at" u [])=([("word",v),("at",u)]:List (Str×V));rw [if_neg (by decide +kernel)];rfl
section
variable {K:PySem.W.Frag}
theorem Fmt.laid {v:V} {d:PyData} (h:Fmt K H v d) (a:H x=none):Fmt K (upd H x o) v d:=⟨h.at_.keeps (Keeps.laid a),h.sh,h.l1,h.l2⟩
end
end Hn
namespace HT
open PySem PySem.Spec PyProof.Rows
section
variable {prog:Program} {w:World} {A:Around} {E:Value->Shared->Prop} {s:Shared} {Q:Int->Shared->Prop}
theorem kR (h:Q (reduceHash 4238894112) { s with toks:=s.toks+1 }):wpAny (model prog w) A (pyHash .none) Q E s:=by
 show wpAny _ _ (pyHashByItsType .none) _ _ _;refine W.pyHash_slot (T:="NoneType") rfl F.slot_NoneType_hash F.entry_NoneType_hash (F.args_NoneType_hash_1 _) (by decide) (.inl rfl) ?_;unfold Builtin.«NoneType.__hash__»
 wp_walk
 exact ⟨_,_,rfl,h⟩
theorem jo (b:Bool) (h:Q (hashInt (if b then 1 else 0)) { s with toks:=s.toks+1 }):wpAny (model prog w) A (pyHash (.bool b)) Q E s:=by
 show wpAny _ _ (pyHashByItsType (.bool b)) _ _ _;refine W.pyHash_slot (T:="bool") rfl F.slot_bool_hash F.entry_int_hash (F.args_int_hash_1 _) (by decide) (.inl rfl) ?_;unfold Builtin.«int.__hash__»;cases b
 ·wp_walk
  exact ⟨_,_,rfl,h⟩
 ·wp_walk
  exact ⟨_,_,rfl,h⟩
end
mutual
noncomputable def kDHt:PyData->Bool
 | .none=>true
 | .bool _=>true
 | .int _=>true
 | .str _=>true
 | .tuple ds=>kDsHt ds
 | .list _=>false
 | .dict _=>false
noncomputable def kDsHt:List PyData->Bool
 | []=>true
 | d :: ds=>kDHt d&&kDsHt ds
end
mutual
noncomputable def nrmHt:PyData->PyData
 | .bool b=>.int (if b then 1 else 0)
 | .tuple ds=>.tuple (w8 ds)
 | .none=>.none
 | .int i=>.int i
 | .str x=>.str x
 | .list ds=>.list ds
 | .dict ds=>.dict ds
noncomputable def w8:List PyData->List PyData
 | []=>[]
 | d :: ds=>nrmHt d :: w8 ds
end
mutual
noncomputable def hTHt (w:World):PyData->Int
 | .none=>reduceHash 4238894112
 | .bool b=>hashInt (if b then 1 else 0)
 | .int i=>hashInt i
 | .str x=>hashStr w x
 | .tuple ds=>reduceHash (Builtin.Tuple.tupleHashOf (A6 w ds))
 | .list _=>0
 | .dict _=>0
noncomputable def A6 (w:World):List PyData->List Int
 | []=>[]
 | d :: ds=>hTHt w d :: A6 w ds
end
mutual
noncomputable def dC:PyData->Nat
 | .tuple ds=>G7 ds+1
 | _=>1
noncomputable def G7:List PyData->Nat
 | []=>0
 | d :: ds=>dC d+G7 ds
end
section
variable {prog:Program} {w:World} {E:Value->Shared->Prop}
def HA (prog:Program) (w:World) (E:Value->Shared->Prop) (d:PyData):Prop:=∀ (v:Value) (as:List Addr) (A:Around) (s:Shared) (Q:Int->Shared->Prop),kDHt d=true->Reads s.heap v d as->A.units+d.depth<cLine->Q (hTHt w d) { s with toks:=s.toks+dC d }->wpAny (model prog w) A (pyHash v) Q E s
theorem nX:∀ (ds:List PyData) (_:∀ d∈ds,HA prog w E d) (vs:List Value) (as:List Addr) (A:Around) (s:Shared) (hs:Array Int) (Q:Array Int->Shared->Prop),kDsHt ds=true->ReadsAll s.heap vs ds as->A.units+PyData.depthAll ds<cLine->Q (hs++(A6 w ds).toArray) { s with toks:=s.toks+G7 ds }->wpAny (model prog w) A (forIn vs hs λx hs=>do
   let h <- pyHash x
   pure (ForInStep.yield (hs.push h))) Q E s:=by
 intro ds;induction ds with
 | nil=>
  intro _ vs as A s hs Q _ r _ h;cases r;rw [Gz];refine Eu ?_;have:hs++(A6 w []).toArray=hs:=by rw [A6];apply Array.ext';simp
  rw [this] at h;exact h
 | cons d ds ih=>
  intro hd vs as A s hs Q k r hu h;rw [kDsHt,Ey] at k;rw [PyData.depthAll] at hu;cases r with
  | cons r1 r2=>
   rw [FO];refine Er (Er (hd d (EL ..) _ _ A s _ k.1 r1 (by omega) (Eu ?_)));refine ih (λe he=>hd e (EM _ he)) _ _ A _ _ _ k.2 r2 (by omega) ?_;have e:hs.push (hTHt w d)++(A6 w ds).toArray=hs++(A6 w (d :: ds)).toArray:=by
    rw [A6];apply Array.ext';simp
   rw [e];have e2:s.toks+dC d+G7 ds=s.toks+G7 (d :: ds):=by rw [G7,Nat.add_assoc]
   show Q _ { s with toks:=s.toks+dC d+G7 ds };rw [e2];exact h
theorem lu {ds:List PyData} (ih:∀ d∈ds,HA prog w E d):HA prog w E (.tuple ds):=by
 intro v as A s Q k r hu h;rw [kDHt] at k;rw [PyData.depth] at hu;cases r with
 | tuple e1 e2 e3 r=>
  rename_i a o vs n;show wpAny _ _ (pyHashByItsType (.ref a)) _ _ _;refine W.pyHash_slot (T:="tuple") ⟨o,e1,e2⟩ F.slot_tuple_hash F.entry_tuple_hash (F.args_tuple_hash_1 _) (by decide) (.inr (by omega)) ?_;unfold Builtin.«tuple.__hash__» Builtin.Tuple.tupleItemsOf;have t1:s.heap.IsTuple a vs:=⟨o,e1,e2,n,e3⟩;obtain ⟨cls,dict,data,slots⟩:=o;dsimp only at e2 e3;subst e2 e3;generalize hp:pyHash=pI
  wp_walk
  subst hp;show wpAny _ _ (forIn vs (#[]:Array Int) λx hs=>do
   let h <- pyHash x
   pure (ForInStep.yield (hs.push h))) _ _ _
  rw [<- Array.forIn_toList];refine nX ds ih vs.toList as A.in1 s #[] _ k r (by show A.units+1+_<_;omega) ?_;show wpAny _ _ (retInt _) _ _ _
  wp_walk
  refine ⟨_,_,rfl,?_⟩;have e:(#[]++(A6 w ds).toArray).toList=A6 w ds:=by simp
  rw [e];exact h
theorem jB:∀ (n:Nat) (d:PyData),sizeOf d<n->HA prog w E d
 | 0,_,h=>by omega
 | n+1,d,hn=>by
  cases d with
  | none=>intro v as A s Q k r hu h;cases r;exact kR h
  | bool b=>intro v as A s Q k r hu h;cases r;exact jo b h
  | int i=>intro v as A s Q k r hu h;cases r;exact wpAny_pyHash_int h
  | str x=>intro v as A s Q k r hu h;cases r;exact wpAny_pyHash_str h
  | tuple ds=>
   refine lu λd hd=>jB n d ?_;have:=List.sizeOf_lt_of_mem hd;simp only [HG] at hn;omega
  | list _=>intro v as A s Q k;cases k
  | dict _=>intro v as A s Q k;cases k
def QA (prog:Program) (w:World) (E:Value->Shared->Prop) (d:PyData):Prop:=∀ (n:Nat) (v:Value) (as:List Addr) (A:Around) (s:Shared) (Q:Bool->Shared->Prop),kDHt d=true->Reads s.heap v d as->d.depth<n->Q true s->wpAny (model prog w) A (eqIsQuiet n v) Q E s
theorem jy:∀ (ds:List PyData) (_:∀ d∈ds,QA prog w E d) (n:Nat) (vs:List Value) (as:List Addr) (A:Around) (s:Shared) (Q:Option Bool×Unit->Shared->Prop),kDsHt ds=true->ReadsAll s.heap vs ds as->PyData.depthAll ds<n->Q (none,()) s->wpAny (model prog w) A (forIn vs ((none,()):Option Bool×Unit) λy _=>do
   let q <- eqIsQuiet n y
   if (!q)=true then pure (ForInStep.done (some false,())) else pure (ForInStep.yield (none,()))) Q E s:=by
 intro ds;induction ds with
 | nil=>
  intro _ n vs as A s Q _ r _ h;cases r;rw [Gz];exact Eu h
 | cons d ds ih=>
  intro hd n vs as A s Q k r hu h;rw [kDsHt,Ey] at k;rw [PyData.depthAll] at hu;cases r with
  | cons r1 r2=>
   rw [FO];refine Er (Er (hd d (EL ..) n _ _ A s _ k.1 r1 (by omega) ?_));rw [if_neg (by decide)];exact Eu (ih (λe he=>hd e (EM _ he)) n _ _ A s Q k.2 r2 (by omega) h)
theorem kA {ds:List PyData} (ih:∀ d∈ds,QA prog w E d):QA prog w E (.tuple ds):=by
 intro n v as A s Q k r hu h;rw [kDHt] at k;rw [PyData.depth] at hu;cases r with
 | tuple e1 e2 e3 r=>
  rename_i a o vs m;obtain ⟨n,rfl⟩:∃ n',n=n'+1:=⟨n-1,by omega⟩;rw [eqIsQuiet.eq_2];have t1:s.heap.IsTuple a vs:=⟨o,e1,e2,m,e3⟩;have ty:s.TypeIs (.ref a) "tuple":=⟨o,e1,e2⟩;generalize hp:eqIsQuiet n=pI;refine Er (wpAny_specialOf ty F.slot_tuple_eq.lookup ?_);refine Er (wpAny_isInstance (b:=true) ty F.sub_tuple_tuple ?_);rw [if_neg (by decide)];have e5:wpAny (model prog w) A (seqItems? (.ref a)) (λr s'=>r=some vs/\s'=s) E s:=by
   obtain ⟨cls,dict,data,slots⟩:=o;dsimp only at e2 e3;subst e2 e3;unfold seqItems?
   wp_walk
   exact ⟨rfl,rfl⟩
  refine Er (Fo e5 (λr s' ⟨er,es⟩=>?_) λ_ _ z=>z);subst er es;show wpAny _ _ (forIn vs ((none,()):Option Bool×Unit) _ >>= _) _ _ _;refine Er ?_;subst hp;rw [<- Array.forIn_toList];exact jy ds ih n vs.toList as A s' _ k r (by omega) (Eu h)
theorem fM:∀ (n:Nat) (d:PyData),sizeOf d<n->QA prog w E d
 | 0,_,h=>by omega
 | n+1,d,hn=>by
  cases d with
  | none=>intro m v as A s Q k r hu h;cases r;rw [Hb m rfl];exact Eu h
  | bool b=>intro m v as A s Q k r hu h;cases r;rw [Hb m rfl];exact Eu h
  | int i=>intro m v as A s Q k r hu h;cases r;rw [Hb m rfl];exact Eu h
  | str x=>intro m v as A s Q k r hu h;cases r;rw [Hb m rfl];exact Eu h
  | tuple ds=>
   refine kA λd hd=>fM n d ?_;have:=List.sizeOf_lt_of_mem hd;simp only [HG] at hn;omega
  | list _=>intro m v as A s Q k;cases k
  | dict _=>intro m v as A s Q k;cases k
end
mutual
theorem ku (w:World):∀ d:PyData,hTHt w (nrmHt d)=hTHt w d
 | .none=>rfl
 | .bool b=>rfl
 | .int i=>rfl
 | .str x=>rfl
 | .tuple ds=>by rw [nrmHt,hTHt,hTHt,iT w ds]
 | .list _=>rfl
 | .dict _=>rfl
theorem iT (w:World):∀ ds:List PyData,A6 w (w8 ds)=A6 w ds
 | []=>rfl
 | d :: ds=>by rw [w8,A6,A6,ku w d,iT w ds]
end
mutual
theorem my:∀ d:PyData,dC (nrmHt d)=dC d
 | .none=>rfl
 | .bool b=>rfl
 | .int i=>rfl
 | .str x=>rfl
 | .tuple ds=>by rw [nrmHt,dC,dC,hJ ds]
 | .list _=>rfl
 | .dict _=>rfl
theorem hJ:∀ ds:List PyData,G7 (w8 ds)=G7 ds
 | []=>rfl
 | d :: ds=>by rw [w8,G7,G7,my d,hJ ds]
end
noncomputable instance decPHt:DecidableEq PyData:=λ_ _=>Classical.propDecidable _
mutual
theorem iO:∀ d e:PyData,kDHt d=true->kDHt e=true->(d.eqv e=true↔nrmHt d=nrmHt e)
 | d,e,h1,h2=>by
  cases d with
  | none=>cases e with
   | bool b=>cases b <;> simp [PyData.eqv,nrmHt]
   | _=>simp [PyData.eqv,nrmHt]
  | bool a=>cases e with
   | bool b=>cases a <;> cases b <;> simp [PyData.eqv,nrmHt]
   | _=>cases a <;> first | (simp [PyData.eqv,nrmHt];done) | (simp [PyData.eqv,nrmHt];exact eq_comm)
  | int i=>cases e with
   | bool b=>cases b <;> first | (simp [PyData.eqv,nrmHt];done) | (simp [PyData.eqv,nrmHt];exact eq_comm)
   | _=>simp [PyData.eqv,nrmHt]
  | str x=>cases e with
   | bool b=>cases b <;> simp [PyData.eqv,nrmHt]
   | _=>simp [PyData.eqv,nrmHt]
  | tuple ds=>cases e with
   | tuple es=>
    rw [kDHt] at h1 h2;have:=dY ds es h1 h2;simp only [PyData.eqv,nrmHt,PyData.tuple.injEq];exact this
   | bool b=>cases b <;> simp [PyData.eqv,nrmHt]
   | _=>simp [PyData.eqv,nrmHt]
  | list _=>cases h1
  | dict _=>cases h1
theorem dY:∀ ds es:List PyData,kDsHt ds=true->kDsHt es=true->(PyData.eqvAll ds es=true↔w8 ds=w8 es)
 | [],[],_,_=>by simp [PyData.eqvAll]
 | [],_ :: _,_,_=>by simp [PyData.eqvAll,w8]
 | _ :: _,[],_,_=>by simp [PyData.eqvAll,w8]
 | d :: ds,e :: es,h1,h2=>by
  rw [kDsHt,Ey] at h1 h2;simp only [PyData.eqvAll,Ey,w8,List.cons.injEq];rw [iO d e h1.1 h2.1,dY ds es h1.2 h2.2]
end
section
variable {h h':Heap} {x:Addr} {o:Obj} {es:Array DictEntry} {ep:Nat} (ho:h.get? x=some o) (hd:o.data=.dict es ep) (hs:Heap.SameBut x h h')
include ho hd hs
mutual
theorem aW:∀ (d:PyData) (v:Value) (as:List Addr),kDHt d=true->Reads h v d as->Reads h' v d as
 | d,v,as,k,r=>by
  cases d with
  | none=>cases r;exact .none
  | bool b=>cases r;exact .bool b
  | int i=>cases r;exact .int i _
  | str s=>cases r;exact .str s _
  | tuple ds=>
   rw [kDHt] at k;cases r with
   | tuple e1 e2 e3 r=>
    rename_i a ob vs n;have ne:a≠x:=λz=>by
     subst z;rw [ho] at e1;cases e1;rw [hd] at e3;cases e3
    exact .tuple ((hs.2 a ne).trans e1) e2 e3 (U6 ds _ _ k r)
  | list _=>cases k
  | dict _=>cases k
theorem U6:∀ (ds:List PyData) (vs:List Value) (as:List Addr),kDsHt ds=true->ReadsAll h vs ds as->ReadsAll h' vs ds as
 | [],vs,as,k,r=>by cases r;exact .nil
 | d :: ds,vs,as,k,r=>by
  rw [kDsHt,Ey] at k;cases r with
  | cons r1 r2=>exact .cons (aW d _ _ k.1 r1) (U6 ds _ _ k.2 r2)
end
end
def keyK (prog:Program) (w:World):HeapKind prog w PyData where
 is h k a:=∃ d as,Reads h (.ref a) d as/\kDHt d=true/\d.canLay0=true/\d.depth<=6/\nrmHt d=k
 hash k:=hTHt w k
 draws k:=dC k
 room A:=A.units+8<cLine
 inj:=by
  rintro h a x y ⟨d,as,r,_,_,_,rfl⟩ ⟨e,bs,r2,_,_,_,rfl⟩;rw [Reads.unique r _ _ r2 |>.1]
 keeps:=by
  rintro h h' k a d o es ep ⟨p,as,r,k1,k2,k3,rfl⟩ ho hd hs;exact ⟨p,as,aW ho hd hs p _ _ k1 r,k1,k2,k3,rfl⟩
 pyHash:=by
  rintro A E s k a Q hu ⟨p,as,r,k1,k2,k3,rfl⟩ q;rw [ku,my] at q;exact jB (sizeOf p+1) p (Fn _) _ as A s Q k1 r (by omega) q
 eqBool:=by
  rintro A E s x y a b Q hu ⟨p,as,r,k1,k2,k3,rfl⟩ ⟨e,bs,r2,l1,l2,l3,rfl⟩ q;refine SeqAt.eqBoolOverData prog w A E s _ _ p e as bs Q r r2 k2 l2 (by omega) ?_;have:p.eqv e=decide (nrmHt p=nrmHt e):=by
   rw [GO,Fh];exact iO p e k1 l1
  rw [this];exact q
 quiet:=by
  rintro A E s k a Q ⟨p,as,r,k1,k2,k3,rfl⟩ q;exact fM (sizeOf p+1) p (Fn _) 8 _ as A s Q k1 r (by omega) q
end HT
namespace L3
open PySem PySem.Spec PyProof.Rows L2
inductive D where
 | non | bl (b:Bool) | int (i:Int) | str (x:Str) | tup (ds:List D) | lst (ds:List D) | scr (ds:List D) | ref (n:Nat)
inductive O where
 | lst (ds:List D) | dct (kvs:List (Key×D)) | exc (c:Nat) (fs:List (Str×D)) | dcT (kvs:List (D×D))
structure ClW where
 f:Nat->Addr
 w:World
instance:CoeFun ClW (λ_=>Nat->Addr):=⟨ClW.f⟩
def DE (a:Addr) (es:List DictEntry):HO:=.ext λh=>∃ o ep,h.get? a=some o/\o.ExactDict/\o.data=.dict es.toArray ep
mutual
noncomputable def kP:D->Option PyData
 | .non=>some .none
 | .bl b=>some (.bool b)
 | .int i=>some (.int i)
 | .str x=>some (.str x)
 | .tup ds=>(kPs ds).map .tuple
 | .lst _=>none
 | .scr _=>none
 | .ref _=>none
noncomputable def kPs:List D->Option (List PyData)
 | []=>some []
 | d :: ds=>match kP d,kPs ds with
  | some p,some ps=>some (p :: ps)
  | _,_=>none
end
def q9 (d:D):Option PyData:=match kP d with
 | some (.tuple ps)=>if (PyData.tuple ps).canLay0=true/\(PyData.tuple ps).depth<=6 then some (HT.nrmHt (.tuple ps)) else none
 | _=>none
def uI (kvs:List (D×D)):Prop:=kvs.length<=sizeLine/\(kvs.map λp=>q9 p.1).Nodup
abbrev Sto:=List O
inductive R (α:Type) where
 | ok (a:α) (S:Sto) | exn (n:Nat) (S:Sto) | bad
abbrev M (α:Type):=Sto->R α
def ret {b:Type} (a:b):M b:=λS=>.ok a S
def bad {a:Type}:M a:=λ_=>.bad
def bind {c b:Type} (m:M c) (k:c->M b):M b:=λS=>match m S with
 | .ok a S'=>k a S'
 | .exn n S'=>.exn n S'
 | .bad=>.bad
abbrev Env:=List (Option D)
structure Mp where
 pl:List Addr
 rs:List Addr
def Mp.push (μ:Mp) (p:Addr):Mp:=⟨μ.pl++[p],μ.rs⟩
def TupAt (K:PySem.W.Frag) (μ:Mp) (H:Hp) (a:Addr) (xs:List V):Prop:=
 (Rd H a (.tup xs)/\a∉μ.pl/\a∉μ.rs)\/∃ (o:Obj) (b:Array Value) (n:Nat),K.lookup a=some o/\o.cls=.type "tuple"/\o.data=.seq b n/\b.size<=sizeLine/\Vals xs b.toList/\o.dict=none
def ScrAt (K:PySem.W.Frag) (μ:Mp) (H:Hp) (a:Addr) (xs:List V):Prop:=
 (Rd H a (.lst xs)/\a∉μ.pl/\a∉μ.rs)\/∃ (o:Obj) (b:Array Value) (n:Nat),K.lookup a=some o/\o.cls=.type "list"/\o.dict=none/\o.data=.seq b n/\b.size<=sizeLine/\Vals xs b.toList
def LstAt (μ:Mp) (H:Hp) (a:Addr) (xs:List V):Prop:=H a=some (.lst xs)/\a∉μ.pl/\a∉μ.rs
theorem TupAt.sq {K:PySem.W.Frag} {μ:Mp} {H:Hp} {a:Addr} {xs:List V} (h:TupAt K μ H a xs):SqT K H a xs:=h.imp (λz=>z.1) λ⟨o,f,n,a,b,c,d,e,_⟩=>⟨o,f,n,a,b,c,d,e⟩
theorem ScrAt.sq {K:PySem.W.Frag} {μ:Mp} {H:Hp} {a:Addr} {xs:List V} (h:ScrAt K μ H a xs):SqL K H a xs:=h.imp (λz=>z.1) id
theorem LstAt.sq {K:PySem.W.Frag} {μ:Mp} {H:Hp} {a:Addr} {xs:List V} (h:LstAt μ H a xs):SqL K H a xs:=.inl (.inl h.1)
mutual
inductive RD (K:PySem.W.Frag) (μ:Mp) (H:Hp):D->V->Prop where
 | non:RD K μ H .non .non
 | bl (b:Bool):RD K μ H (.bl b) (.bl b)
 | int (i:Int):RD K μ H (.int i) (.int i)
 | str (x:Str):RD K μ H (.str x) (.str x)
 | tup {a:Addr} {xs:List V} {ds:List D}:TupAt K μ H a xs->RDs K μ H ds xs->RD K μ H (.tup ds) (.ref a)
 | lst {a:Addr} {xs:List V} {ds:List D}:LstAt μ H a xs->RDs K μ H ds xs->RD K μ H (.lst ds) (.ref a)
 | scr {a:Addr} {xs:List V} {ds:List D}:ScrAt K μ H a xs->RDs K μ H ds xs->RD K μ H (.scr ds) (.ref a)
 | ref {n:Nat} {a:Addr}:μ.pl[n]?=some a->RD K μ H (.ref n) (.ref a)
inductive RDs (K:PySem.W.Frag) (μ:Mp) (H:Hp):List D->List V->Prop where
 | nil:RDs K μ H [] []
 | cons {d:D} {v:V} {ds:List D} {vs:List V}:RD K μ H d v->RDs K μ H ds vs->RDs K μ H (d :: ds) (v :: vs)
end
structure Lat (μ:Mp) (H:Hp) (μ':Mp) (H':Hp):Prop where
 pre:∀ (n:Nat) (a:Addr),μ.pl[n]?=some a->μ'.pl[n]?=some a
 oth:∀ a o,H a=some o->a∉μ.pl->H' a=some o
 new:∀ a,a∈μ'.pl->a∈μ.pl\/H a=none
 rsv:μ'.rs=μ.rs
theorem Lat.refl (μ:Mp) (H:Hp):Lat μ H μ H:=⟨λ_ _ h=>h,λ_ _ h _=>h,λ_ h=>.inl h,rfl⟩
theorem Lat.out {H H':Hp} (l:Lat μ H μ' H') {a:Addr} {o:HO} (h:H a=some o) (n:a∉μ.pl):a∉μ'.pl:=λz=>by
 rcases l.new a z with q | q
 ·exact n q
 ·rw [h] at q;cases q
theorem Lat.trans {H c b:Hp} (l:Lat μ H μ1 c) (k:Lat μ1 c μ2 b):Lat μ H μ2 b:=by
 refine ⟨λn a h=>k.pre n a (l.pre n a h),λa o h n=>k.oth a o (l.oth a o h n) (l.out h n),λa h=>?_,k.rsv.trans l.rsv⟩;rcases k.new a h with q | q
 ·exact l.new a q
 ·by_cases m:a∈μ.pl
  ·exact .inl m
  ·right
   cases e:H a with
   | none=>rfl
   | some o=>rw [l.oth a o e m] at q;cases q
theorem Rd.later {H H':Hp} (l:Lat μ H μ' H') {a:Addr} {u:HO} (h:Rd H a u) (n:a∉μ.pl):Rd H' a u/\a∉μ'.pl:=by
 rcases h with h | ⟨o,h⟩
 ·exact ⟨.inl (l.oth _ _ h n),l.out h n⟩
 ·exact ⟨.inr ⟨o,l.oth _ _ h n⟩,l.out h n⟩
theorem TupAt.later {K:PySem.W.Frag} {μ μ':Mp} {H H':Hp} (l:Lat μ H μ' H') {a:Addr} {xs:List V} (h:TupAt K μ H a xs):TupAt K μ' H' a xs:=h.imp (λz=>⟨(Rd.later l z.1 z.2.1).1,(Rd.later l z.1 z.2.1).2,by rw [l.rsv];exact z.2.2⟩) id
theorem ScrAt.later {K:PySem.W.Frag} {μ μ':Mp} {H H':Hp} (l:Lat μ H μ' H') {a:Addr} {xs:List V} (h:ScrAt K μ H a xs):ScrAt K μ' H' a xs:=h.imp (λz=>⟨(Rd.later l z.1 z.2.1).1,(Rd.later l z.1 z.2.1).2,by rw [l.rsv];exact z.2.2⟩) id
theorem LstAt.later {H H':Hp} (l:Lat μ H μ' H') {a:Addr} {xs:List V} (h:LstAt μ H a xs):LstAt μ' H' a xs:=⟨l.oth _ _ h.1 h.2.1,l.out h.1 h.2.1,by rw [l.rsv];exact h.2.2⟩
mutual
theorem RD.later {K:PySem.W.Frag} {μ μ':Mp} {H H':Hp} (l:Lat μ H μ' H'):∀ {d:D} {v:V},RD K μ H d v->RD K μ' H' d v
 | _,_,.non=>.non
 | _,_,.bl b=>.bl b
 | _,_,.int i=>.int i
 | _,_,.str x=>.str x
 | _,_,.tup h r=>.tup (h.later l) (RDs.later l r)
 | _,_,.lst h r=>.lst (h.later l) (RDs.later l r)
 | _,_,.scr h r=>.scr (h.later l) (RDs.later l r)
 | _,_,.ref h=>.ref (l.pre _ _ h)
theorem RDs.later {K:PySem.W.Frag} (l:Lat μ H μ' H'):∀ {ds:List D} {vs:List V},RDs K μ H ds vs->RDs K μ' H' ds vs
 | _,_,.nil=>.nil
 | _,_,.cons h r=>.cons (RD.later l h) (RDs.later l r)
end
section
variable {K:PySem.W.Frag} {μ:Mp} {H:Hp}
theorem RDs.length:∀ {ds:List D} {vs:List V},RDs K μ H ds vs->ds.length=vs.length
 | _,_,.nil=>rfl
 | _,_,.cons _ r=>by simp [RDs.length r]
theorem RDs.get:∀ {ds:List D} {vs:List V} {i:Nat} {d:D},RDs K μ H ds vs->ds[i]?=some d->∃ v,vs[i]?=some v/\RD K μ H d v
 | _,_,_,_,.nil,e=>by simp at e
 | _,_,0,_,.cons h _,e=>by simp at e;subst e;exact ⟨_,rfl,h⟩
 | _,_,i+1,d,.cons _ r,e=>by
  obtain ⟨v,b,a⟩:=RDs.get r (by simpa using e);exact ⟨v,by simpa using b,a⟩
theorem RDs.append:∀ {ds es:List D} {vs us:List V},RDs K μ H ds vs->RDs K μ H es us->RDs K μ H (ds++es) (vs++us)
 | _,_,_,_,.nil,s=>s
 | _,_,_,_,.cons h r,s=>.cons h (RDs.append r s)
theorem RDs.take:∀ {ds:List D} {vs:List V} (n:Nat),RDs K μ H ds vs->RDs K μ H (ds.take n) (vs.take n)
 | _,_,0,_=>by simpa using RDs.nil
 | _,_,_+1,.nil=>by simpa using RDs.nil
 | _,_,n+1,.cons h r=>by simpa using RDs.cons h (RDs.take n r)
theorem RDs.drop:∀ {ds:List D} {vs:List V} (n:Nat),RDs K μ H ds vs->RDs K μ H (ds.drop n) (vs.drop n)
 | _,_,0,h=>by simpa using h
 | _,_,_+1,.nil=>by simpa using RDs.nil
 | _,_,n+1,.cons _ r=>by simpa using RDs.drop n r
theorem RDs.set (q:RD K μ H d v):∀ {ds:List D} {vs:List V} (n:Nat),RDs K μ H ds vs->RDs K μ H (ds.set n d) (vs.set n v)
 | _,_,_,.nil=>by simpa using RDs.nil
 | _,_,0,.cons h r=>by simpa using RDs.cons q r
 | _,_,n+1,.cons h r=>by simpa using RDs.cons h (RDs.set q n r)
theorem RDs.rep (r:RDs K μ H ds vs):∀ k:Nat,RDs K μ H (List.replicate k ds).flatten (List.replicate k vs).flatten
 | 0=>.nil
 | k+1=>by
  rw [FR,FR,Gu,Gu];exact r.append (RDs.rep r k)
theorem RDs.ints:∀ ns:List Int,RDs K μ H (ns.map D.int) (ns.map V.int)
 | []=>.nil
 | n :: ns=>.cons (.int n) (RDs.ints ns)
end
def gj (K:PySem.W.Frag) (μ:Mp) (H:Hp):List (Str×D)->List (Str×V)->Prop:=Paired λp q=>p.1=q.1/\RD K μ H p.2 q.2
def KvsAt (K:PySem.W.Frag) (μ:Mp) (H:Hp):List (Key×D)->List (Key×V)->Prop:=Paired λp q=>p.1=q.1/\RD K μ H p.2 q.2
def jR (K:PySem.W.Frag) (w:World) (μ:Mp) (H:Hp) (p:D×D) (e:DictEntry):Prop:=∃ b v q,e.key=.ref b/\RD K μ H p.1 (.ref b)/\q9 p.1=some q/\e.hash=HT.hTHt w q/\RelV v e.val/\RD K μ H p.2 v
def OAt (K:PySem.W.Frag) (cl:ClW) (μ:Mp) (H:Hp) (a:Addr):O->Prop
 | .lst ds=>∃ xs,H a=some (.lst xs)/\RDs K μ H ds xs
 | .dct kvs=>∃ ks,H a=some (.dK ks)/\KvsAt K μ H kvs ks
 | .exc c fs=>XC K (cl c)/\∃ gs,gj K μ H fs gs/\∃ fr,((gs=[]/\H a=some (L5 fr a (cl c) none))\/∃ d,d≠a/\d∉μ.pl/\H a=some (L5 fr a (cl c) (some d))/\H d=some (F6 d gs))
 | .dcT kvs=>∃ es,H a=some (DE a es)/\(a==sysModules)=false/\uI kvs/\Paired (jR K cl.w μ H) kvs es
structure Rep (K:PySem.W.Frag) (cl:ClW) (μ:Mp) (S:Sto) (H:Hp):Prop where
 len:μ.pl.length=S.length
 nd:μ.pl.Nodup
 ats:∀ (n:Nat) (o:O) (a:Addr),S[n]?=some o->μ.pl[n]?=some a->OAt K cl μ H a o
 res:∀ a,a∈μ.rs->a∉μ.pl/\∃ u,H a=some u
theorem Paired.mono {P Q:α->β->Prop} (h:∀ a b,P a b->Q a b):∀ {xs:List α} {ys:List β},Paired P xs ys->Paired Q xs ys
 | _,_,.nil=>.nil
 | _,_,.cons r t=>.cons (h _ _ r) (Paired.mono h t)
section
variable {K:PySem.W.Frag} {cl:ClW} {μ:Mp} {S:Sto} {H:Hp}
theorem OAt.some (h:OAt K cl μ H a o):∃ u,H a=some u:=by
 cases o with
 | lst ds=>obtain ⟨xs,e,_⟩:=h;exact ⟨_,e⟩
 | dct kvs=>obtain ⟨xs,e,_⟩:=h;exact ⟨_,e⟩
 | dcT kvs=>obtain ⟨xs,e,_⟩:=h;exact ⟨_,e⟩
 | exc c fs=>
  obtain ⟨_,gs,_,fr,⟨_,e⟩ | ⟨d,_,_,e,_⟩⟩:=h
  ·exact ⟨_,e⟩
  ·exact ⟨_,e⟩
theorem Rep.tracked (r:Rep K cl μ S H) {a:Addr} (h:a∈μ.pl):∃ u,H a=some u:=by
 obtain ⟨n,b,e⟩:=GH h;have hs:n<S.length:=by rw [<- r.len];exact b
 exact (r.ats n S[n] a (Ez hs) (by rw [Ez b,e])).some
theorem Rep.notrs (r:Rep K cl μ S H) {p:Addr} (h:H p=none):p∉μ.rs:=λz=>by
 obtain ⟨_,u,e⟩:=r.res p z;rw [h] at e;cases e
theorem Rep.notin (r:Rep K cl μ S H) {p:Addr} (h:H p=none):p∉μ.pl:=λz=>by
 obtain ⟨u,e⟩:=r.tracked z;rw [h] at e;cases e
theorem Lat.laid (h:H p=none):Lat μ H μ (upd H p o):=⟨λ_ _ h=>h,λa u e _=>by rw [a7 (b9 e h)];exact e,λ_ h=>.inl h,rfl⟩
theorem Rep.keep (r:Rep K cl μ S H) (l:Lat μ H μ H') (k:∀ a,a∈μ.pl->H' a=H a):Rep K cl μ S H':=by
 refine ⟨r.len,r.nd,λn o a e1 e2=>?_,λa m=>let ⟨h1,u,h2⟩:=r.res a m;⟨h1,u,l.oth _ _ h2 h1⟩⟩;have ka:=k a (EY e2);have h:=r.ats n o a e1 e2;cases o with
 | lst ds=>obtain ⟨xs,e,q⟩:=h;exact ⟨xs,by rw [ka];exact e,q.later l⟩
 | dct kvs=>obtain ⟨xs,e,q⟩:=h;exact ⟨xs,by rw [ka];exact e,Paired.mono (λ_ _ ⟨z,w⟩=>⟨z,w.later l⟩) q⟩
 | dcT kvs=>obtain ⟨es,e,h1,h2,q⟩:=h;exact ⟨es,by rw [ka];exact e,h1,h2,Paired.mono (λ_ _ ⟨b,v,z,a1,a2,a3,a4,a5,a6⟩=>⟨b,v,z,a1,a2.later l,a3,a4,a5,a6.later l⟩) q⟩
 | exc c fs=>
  obtain ⟨xc,gs,q,fr,h⟩:=h;refine ⟨xc,gs,Paired.mono (λ_ _ ⟨z,w⟩=>⟨z,w.later l⟩) q,fr,?_⟩;rcases h with ⟨z,e⟩ | ⟨d,h1,h2,e,e2⟩
  ·grind
  ·exact .inr ⟨d,h1,h2,by rw [ka];exact e,l.oth _ _ e2 h2⟩
theorem Rep.laid (r:Rep K cl μ S H) (h:H p=none):Rep K cl μ S (upd H p o):=r.keep (Lat.laid h) λa m=>a7 λz=>r.notin h (z▸m)
theorem Lat.pushed (h:H p=none) (k:∀ a u,H a=some u->H' a=some u):Lat μ H (μ.push p) H':=
 ⟨λn a e=>by show (μ.pl++[p])[n]?=_;rw [EJ (Et.mp e).1];exact e,λa u e _=>k a u e,λa m=>by
  rcases Ff.mp m with z | z
  ·exact .inl z
  ·exact .inr (by rw [EZ.mp z];exact h),rfl⟩
theorem OAt.later {a:Addr} {o:O} (h:OAt K cl μ H a o) (l:Lat μ H μ' H') (ka:H' a=H a):OAt K cl μ' H' a o:=by
 cases o with
 | lst ds=>obtain ⟨xs,e,q⟩:=h;exact ⟨xs,by rw [ka];exact e,q.later l⟩
 | dct kvs=>obtain ⟨xs,e,q⟩:=h;exact ⟨xs,by rw [ka];exact e,Paired.mono (λ_ _ ⟨z,w⟩=>⟨z,w.later l⟩) q⟩
 | dcT kvs=>obtain ⟨es,e,h1,h2,q⟩:=h;exact ⟨es,by rw [ka];exact e,h1,h2,Paired.mono (λ_ _ ⟨b,v,z,a1,a2,a3,a4,a5,a6⟩=>⟨b,v,z,a1,a2.later l,a3,a4,a5,a6.later l⟩) q⟩
 | exc c fs=>
  obtain ⟨xc,gs,q,fr,h⟩:=h;refine ⟨xc,gs,Paired.mono (λ_ _ ⟨z,w⟩=>⟨z,w.later l⟩) q,fr,?_⟩;rcases h with ⟨z,e⟩ | ⟨d,h1,h2,e,e2⟩
  ·grind
  ·exact .inr ⟨d,h1,l.out e2 h2,by rw [ka];exact e,l.oth _ _ e2 h2⟩
theorem Rep.pushed (r:Rep K cl μ S H) (h:H p=none) (k:∀ a u,H a=some u->H' a=some u) (i:OAt K cl (μ.push p) H' p o):Rep K cl (μ.push p) (S++[o]) H':=by
 have l:=Lat.pushed (μ:=μ) h k;refine ⟨by simp [Mp.push,r.len],?_,λn u a d c=>?_,λa m=>?_⟩
 ·show (μ.pl++[p]).Nodup;rw [Gw];exact ⟨r.nd,by simp,λa m b m2=>by rw [EZ.mp m2];rintro rfl;exact r.notin h m⟩
 ·have c:(μ.pl++[p])[n]?=some a:=c;by_cases f:n<S.length
  ·rw [EJ f] at d;rw [EJ (by rw [r.len];exact f)] at c;have q:=r.ats n u a d c;obtain ⟨z,g⟩:=q.some;exact q.later l ((k a z g).trans g.symm)
  ·have e:n=S.length:=by
    have:=(Et.mp d).1;simp at this;omega
   subst e;rw [<- r.len] at c;simp at d c;subst d;subst c;exact i
 ·obtain ⟨j,u,s⟩:=r.res a m;refine ⟨λz=>?_,u,k a u s⟩;rcases Ff.mp (z) with z | z
  ·exact j z
  ·grind
theorem Lat.wrote (h:a∈μ.pl):Lat μ H μ (upd H a o):=⟨λ_ _ h=>h,λb u e n=>by rw [a7 (λz=>n (by rw [z];exact h))];exact e,λ_ h=>.inl h,rfl⟩
theorem Rep.wrote {n:Nat} {a:Addr} {u:HO} {o:O} (r:Rep K cl μ S H) (e:μ.pl[n]?=some a) (ho:OAt K cl μ (upd H a u) a o):Rep K cl μ (S.set n o) (upd H a u):=by
 have m:a∈μ.pl:=EY e;refine ⟨by simp [r.len],r.nd,λk w b e1 e2=>?_,λb mb=>let ⟨h1,u',h2⟩:=r.res b mb;⟨h1,u',by rw [a7 (λz=>h1 (by rw [z];exact m))];exact h2⟩⟩;by_cases hk:n=k
 ·subst hk;rw [e] at e2;cases e2;rw [Fg (by have:=(Et.mp e).1;rw [r.len] at this;exact this)] at e1;cases e1;exact ho
 ·rw [ER hk] at e1;have hb:b≠a:=λz=>by
   subst z;obtain ⟨h1,q1⟩:=Et.mp e;obtain ⟨h2,q2⟩:=Et.mp e2;exact hk ((List.getElem_inj r.nd).mp (q1.trans q2.symm))
  exact (r.ats k w b e1 e2).later (Lat.wrote m) (a7 hb)
end
def Mp.hold (μ:Mp) (p:Addr):Mp:=⟨μ.pl,p :: μ.rs⟩
mutual
theorem RD.move {K:PySem.W.Frag} {μ μ':Mp} {H H':Hp} (g:∀ (n:Nat) (a:Addr),μ.pl[n]?=some a->μ'.pl[n]?=some a) (c:∀ a u,H a=some u->a∉μ.pl->a∉μ.rs->H' a=some u/\a∉μ'.pl/\a∉μ'.rs):∀ {d:D} {v:V},RD K μ H d v->RD K μ' H' d v
 | _,_,.non=>.non
 | _,_,.bl b=>.bl b
 | _,_,.int i=>.int i
 | _,_,.str x=>.str x
 | _,_,.tup h r=>.tup (h.imp (λ⟨q,e,f⟩=>by
   rcases q with q | ⟨o,q⟩
   ·exact ⟨.inl (c _ _ q e f).1,(c _ _ q e f).2⟩
   ·exact ⟨.inr ⟨o,(c _ _ q e f).1⟩,(c _ _ q e f).2⟩) id) (RDs.move g c r)
 | _,_,.lst h r=>.lst (c _ _ h.1 h.2.1 h.2.2) (RDs.move g c r)
 | _,_,.scr h r=>.scr (h.imp (λ⟨q,e,f⟩=>by
   rcases q with q | ⟨o,q⟩
   ·exact ⟨.inl (c _ _ q e f).1,(c _ _ q e f).2⟩
   ·exact ⟨.inr ⟨o,(c _ _ q e f).1⟩,(c _ _ q e f).2⟩) id) (RDs.move g c r)
 | _,_,.ref h=>.ref (g _ _ h)
theorem RDs.move {K:PySem.W.Frag} {μ μ':Mp} {H H':Hp} (hp:∀ (n:Nat) (a:Addr),μ.pl[n]?=some a->μ'.pl[n]?=some a) (ho:∀ a u,H a=some u->a∉μ.pl->a∉μ.rs->H' a=some u/\a∉μ'.pl/\a∉μ'.rs):∀ {ds:List D} {vs:List V},RDs K μ H ds vs->RDs K μ' H' ds vs
 | _,_,.nil=>.nil
 | _,_,.cons h r=>.cons (RD.move hp ho h) (RDs.move hp ho r)
end
section
variable {K:PySem.W.Frag} {cl:ClW} {μ:Mp} {S:Sto} {H:Hp}
theorem Rep.move {H':Hp} (r:Rep K cl μ S H) (hr:∀ a,a∈μ'.rs->a∉μ'.pl/\∃ u,H' a=some u) (hp:μ'.pl=μ.pl) (hk:∀ a,a∈μ.pl->H' a=H a) (hx:∀ a u,H a=some (.ext u)->H' a=some (.ext u)) (ho:∀ a u,H a=some u->a∉μ.pl->a∉μ.rs->H' a=some u/\a∉μ'.pl/\a∉μ'.rs):Rep K cl μ' S H':=by
 have hp':∀ (n:Nat) (a:Addr),μ.pl[n]?=some a->μ'.pl[n]?=some a:=λn a e=>by rw [hp];exact e
 refine ⟨by rw [hp];exact r.len,by rw [hp];exact r.nd,λn o a e1 e2=>?_,hr⟩;rw [hp] at e2;have ka:=hk a (EY e2);have h:=r.ats n o a e1 e2;cases o with
 | lst ds=>obtain ⟨xs,e,q⟩:=h;exact ⟨xs,by rw [ka];exact e,q.move hp' ho⟩
 | dct kvs=>obtain ⟨xs,e,q⟩:=h;exact ⟨xs,by rw [ka];exact e,Paired.mono (λ_ _ ⟨z,w⟩=>⟨z,w.move hp' ho⟩) q⟩
 | dcT kvs=>obtain ⟨es,e,h1,h2,q⟩:=h;exact ⟨es,by rw [ka];exact e,h1,h2,Paired.mono (λ_ _ ⟨b,v,z,a1,a2,a3,a4,a5,a6⟩=>⟨b,v,z,a1,a2.move hp' ho,a3,a4,a5,a6.move hp' ho⟩) q⟩
 | exc c fs=>
  obtain ⟨xc,gs,q,fr,h⟩:=h;refine ⟨xc,gs,Paired.mono (λ_ _ ⟨z,w⟩=>⟨z,w.move hp' ho⟩) q,fr,?_⟩;rcases h with ⟨z,e⟩ | ⟨d,h1,h2,e,e2⟩
  ·grind
  ·exact .inr ⟨d,h1,by rw [hp];exact h2,by rw [ka];exact e,hx _ _ e2⟩
end
section
variable (K:PySem.W.Frag) (cl:ClW) (xe:Addr->Hp->Prop)
def Post {b:Type} (μ:Mp) (H:Hp) (r:R b) (G:b->Sto->Mp->Hp->Prop):Prop:=match r with
 | .ok a S=>∀ μ' H',Lat μ H μ' H'->Rep K cl μ' S H'->G a S μ' H'
 | .exn n S=>∀ μ' H' a,Lat μ H μ' H'->Rep K cl μ' S H'->μ'.pl[n]?=some a->xe a H'
 | .bad=>False
end
section
variable {K:PySem.W.Frag} {cl:ClW} {xe:Addr->Hp->Prop} {α β:Type} {μ μ1:Mp} {H H1:Hp}
theorem Post.later {G:α->Sto->Mp->Hp->Prop} (h:Post K cl xe μ H r G) (l:Lat μ H μ1 H1):Post K cl xe μ1 H1 r G:=by
 cases r with
 | ok a S=>exact λμ' H' k r=>h μ' H' (l.trans k) r
 | exn n S=>exact λμ' H' a k r e=>h μ' H' a (l.trans k) r e
 | bad=>exact h
theorem Post.imp {G G':α->Sto->Mp->Hp->Prop} (h:Post K cl xe μ H r G) (k:∀ a S μ' H',Lat μ H μ' H'->Rep K cl μ' S H'->G a S μ' H'->G' a S μ' H'):Post K cl xe μ H r G':=by
 cases r with
 | ok a S=>exact λμ' H' l r=>k a S μ' H' l r (h μ' H' l r)
 | exn n S=>exact h
 | bad=>exact h
theorem Post.bind {k:α->M β} {S:Sto} {G:β->Sto->Mp->Hp->Prop} (h:Post K cl xe μ H (bind m k S) G):Post K cl xe μ H (m S) (λa S1 μ1 H1=>Post K cl xe μ1 H1 (k a S1) G):=by
 unfold L3.bind at h;cases e:m S with
 | ok a S1=>
  rw [e] at h;exact λμ' H' l r=>Post.later h l
 | exn n S1=>rw [e] at h;exact h
 | bad=>rw [e] at h;exact h
theorem Post.ret {G:α->Sto->Mp->Hp->Prop} (h:Post K cl xe μ H (ret a S) G):∀ μ' H',Lat μ H μ' H'->Rep K cl μ' S H'->G a S μ' H':=h
end
def EnvOk (K:PySem.W.Frag) (μ:Mp) (H:Hp) (ρ:Env) (σ:L2.St):Prop:=ρ.length=σ.length/\∀ (i:Nat) (d:D),ρ[i]?=some (some d)->∃ v,σ[i]?=some (some v)/\RD K μ H d v
theorem EnvOk.later {K:PySem.W.Frag} {μ a:Mp} {H b:Hp} {ρ:Env} {σ:L2.St} (h:EnvOk K μ H ρ σ) (l:Lat μ H a b):EnvOk K a b ρ σ:=⟨h.1,λi d e=>let ⟨v,q,r⟩:=h.2 i d e;⟨v,q,r.later l⟩⟩
theorem EnvOk.set {K:PySem.W.Frag} {μ:Mp} {H:Hp} {ρ:Env} {σ:L2.St} {d:D} {v:V} (h:EnvOk K μ H ρ σ) (r:RD K μ H d v) (i:Nat):EnvOk K μ H (ρ.set i (some d)) (σ.set i (some v)):=by
 refine ⟨by simp [h.1],λj e b=>?_⟩;by_cases a:i=j
 ·subst a;have c:i<ρ.length:=by
   have:=(Et.mp b).1;simpa using this
  rw [Fg c] at b;cases b;exact ⟨v,Fg (by rw [<- h.1];exact c),r⟩
 ·rw [ER a] at b;obtain ⟨u,q,f⟩:=h.2 j e b;exact ⟨u,by rw [ER a];exact q,f⟩
section
variable (K:PySem.W.Frag) (cl:ClW) (xe:Addr->Hp->Prop)
def tD (f:Env->M D):TE:=λσ H Q=>∃ μ S ρ,EnvOk K μ H ρ σ/\Rep K cl μ S H/\Post K cl xe μ H (f ρ S) λd _ μ' H'=>∀ v,RD K μ' H' d v->Q v H'
def tDs (f:Env->M (List D)):TA:=λσ H Q=>∃ μ S ρ,EnvOk K μ H ρ σ/\Rep K cl μ S H/\Post K cl xe μ H (f ρ S) λds _ μ' H'=>∀ vs,RDs K μ' H' ds vs->Q vs H'
def tBo (f:Env->M Bool):TT:=λσ H Q=>∃ μ S ρ,EnvOk K μ H ρ σ/\Rep K cl μ S H/\Post K cl xe μ H (f ρ S) λb _ _ H'=>Q b H'
def rP2 (g:D->D->M D):R2:=λx y H Q=>∃ μ S d e,RD K μ H d x/\RD K μ H e y/\Rep K cl μ S H/\Post K cl xe μ H (g d e S) λr _ μ' H'=>∀ v,RD K μ' H' r v->Q v H'
def rPs (g:List D->M D):List V->Hp->VK->Prop:=λxs H Q=>∃ μ S ds,RDs K μ H ds xs/\Rep K cl μ S H/\Post K cl xe μ H (g ds S) λr _ μ' H'=>∀ v,RD K μ' H' r v->Q v H'
end
theorem PE.imp (h:PE X e t) (k:∀ σ H Q,t' σ H Q->t σ H Q):PE X e t':=λpins s σ H Q I q=>h pins s σ H Q I (k σ H Q q)
theorem PT.imp (h:PT X e t) (k:∀ σ H Q,t' σ H Q->t σ H Q):PT X e t':=λpins s σ H Q I q=>h pins s σ H Q I (k σ H Q q)
theorem PW.imp (h:PW X e t) (k:∀ σ H Q,t' σ H Q->t σ H Q):PW X e t':=λw pins s σ H Q I q=>h w pins s σ H Q I (k σ H Q q)
theorem PA.imp (h:PA X es t) (k:∀ σ H Q,t' σ H Q->t σ H Q):PA X es t':=λp pins s σ H Q I q=>h p pins s σ H Q I (k σ H Q q)
theorem PS.imp {st:Stmt} {t t':TS} (h:PS X st t) (k:∀ D σ H,t' D σ H->t D σ H):PS X st t':=λpins s σ H D I q=>h pins s σ H D I (k D σ H q)
theorem PSs.imp {st:List Stmt} {t t':TS} (h:PSs X st t) (k:∀ D σ H,t' D σ H->t D σ H):PSs X st t':=λpins s σ H D I q=>h pins s σ H D I (k D σ H q)
section
variable {X:Cx} {cl:ClW} {xe:Addr->Hp->Prop} {a b c:Expr} {es:List Expr} {pos:Pos} {f g:Env->M D}
theorem d6:PE X e (tD X.K cl xe λ_=>bad):=λ_ _ _ _ _ _ ⟨_,_,_,_,_,p⟩=>p.elim
theorem gY:PT X e (tBo X.K cl xe λ_=>bad):=λ_ _ _ _ _ _ ⟨_,_,_,_,_,p⟩=>p.elim
theorem pw_bad:PW X e (tBo X.K cl xe λ_=>bad):=λ_ _ _ _ _ _ _ ⟨_,_,_,_,_,p⟩=>p.elim
theorem J8 (h:PE X e (tC v)) (r:∀ μ H,RD X.K μ H d v):PE X e (tD X.K cl xe λ_=>ret d):=PE.imp h λσ H Q ⟨μ,S,ρ,b,a,p⟩=>p.ret μ H (Lat.refl _ _) a v (r μ H)
def getD (i:Nat) (ρ:Env):M D:=match ρ[i]? with
 | some (some d)=>ret d
 | _=>bad
theorem wh {e:Expr} (h:PE X e (wH i)):PE X e (tD X.K cl xe λρ=>getD i ρ):=PE.imp h λσ H Q ⟨μ,S,ρ,b,a,p⟩=>by
 cases e:ρ[i]? with
 | none=>simp only [getD,e] at p;exact p.elim
 | some o=>
  cases o with
  | none=>simp only [getD,e] at p;exact p.elim
  | some d=>
   simp only [getD,e] at p;obtain ⟨v,q,r⟩:=b.2 i d e;exact ⟨v,q,p.ret μ H (Lat.refl _ _) a v r⟩
theorem wP (e:PE X a (tD X.K cl xe f)) (k:PE X b (tD X.K cl xe g)) (s:OpR X (binaryOp op) (rP2 X.K cl xe h)) :
  PE X (.BinOp a op b pos) (tD X.K cl xe λρ=>bind (f ρ) λx=>bind (g ρ) λy=>h x y):=PE.imp (Bo s e k) λσ H Q ⟨μ,S,ρ,d,j,p⟩=>
 ⟨μ,S,ρ,d,j,p.bind.imp λx S1 c z t q i v r=>⟨c,S1,ρ,d.later t,q,i.bind.imp λy S2 μ2 w l o m u n=>⟨μ2,S2,x,y,r.later l,n,o,m⟩⟩⟩
theorem wF (e:PE X a (tD X.K cl xe f)) (k:PE X b (tD X.K cl xe g)) (s:OpR X (compareOp op) (rP2 X.K cl xe h)) (w:behindInMarks op b=false) :
  PE X (.Compare a [op] [b] pos) (tD X.K cl xe λρ=>bind (f ρ) λx=>bind (g ρ) λy=>h x y):=PE.imp (rA s e k w) λσ H Q ⟨μ,S,ρ,d,j,p⟩=>
 ⟨μ,S,ρ,d,j,p.bind.imp λx S1 c A t q i v r=>⟨c,S1,ρ,d.later t,q,i.bind.imp λy S2 μ2 z l o m u n=>⟨μ2,S2,x,y,r.later l,n,o,m⟩⟩⟩
theorem zk (e:PE X a (tD X.K cl xe f)) (k:PE X b (tD X.K cl xe g)) (s:IxR X (rP2 X.K cl xe h)) (hs:dM b) :
  PE X (.Subscript a b pos) (tD X.K cl xe λρ=>bind (f ρ) λx=>bind (g ρ) λy=>h x y):=PE.imp (zj s e k hs) λσ H Q ⟨μ,S,ρ,d,j,p⟩=>
 ⟨μ,S,ρ,d,j,p.bind.imp λx S1 c z t q i v r=>⟨c,S1,ρ,d.later t,q,i.bind.imp λy S2 μ2 w l o m u n=>⟨μ2,S2,x,y,r.later l,n,o,m⟩⟩⟩
theorem Aq (n:PT X c (tBo X.K cl xe t)) (k:PE X a (tD X.K cl xe f)) (m:PE X b (tD X.K cl xe g)):PE X (.IfExp c a b pos) (tD X.K cl xe λρ=>bind (t ρ) λq=>if q=true then f ρ else g ρ):=PE.imp (oJ n k m) λσ H Q ⟨μ,S,ρ,e,l,p⟩=>
 ⟨μ,S,ρ,e,l,p.bind.imp λq S1 d o j i h=>by
  cases q with
  | true=>exact ⟨d,S1,ρ,e.later j,i,h⟩
  | false=>exact ⟨d,S1,ρ,e.later j,i,h⟩⟩
theorem xT (h:PT X a (tBo X.K cl xe t)):PT X (.UnaryOp .Not a pos) (tBo X.K cl xe λρ=>bind (t ρ) λq=>ret (!q)):=PT.imp (zD h) λσ H Q ⟨μ,S,ρ,f,d,p⟩=>
 ⟨μ,S,ρ,f,d,p.bind.imp λq S1 b g i e c=>c.ret b g (Lat.refl _ _) e⟩
theorem qQ (h:PT X a (tBo X.K cl xe t)):PW X (.BoolOp .And [a] pos) (tBo X.K cl xe t):=pw_and1 h
theorem yA (h:PT X a (tBo X.K cl xe t)):PW X (.BoolOp .Or [a] pos) (tBo X.K cl xe t):=pw_or1 h
theorem wt {c:List Expr} (h:PT X a (tBo X.K cl xe t)) (k:PW X (.BoolOp .And (b :: c) pos) (tBo X.K cl xe u)):PW X (.BoolOp .And (a :: b :: c) pos) (tBo X.K cl xe λρ=>bind (t ρ) λq=>if q=true then u ρ else ret false):=PW.imp (pw_and h k) λσ H Q ⟨μ,S,ρ,g,i,p⟩=>
 ⟨μ,S,ρ,g,i,p.bind.imp λq S1 d l j f e=>by
  cases q with
  | true=>exact ⟨d,S1,ρ,g.later j,f,e⟩
  | false=>exact e.ret d l (Lat.refl _ _) f⟩
theorem zP {c:List Expr} (h:PT X a (tBo X.K cl xe t)) (k:PW X (.BoolOp .Or (b :: c) pos) (tBo X.K cl xe u)):PW X (.BoolOp .Or (a :: b :: c) pos) (tBo X.K cl xe λρ=>bind (t ρ) λq=>if q=true then ret true else u ρ):=PW.imp (pw_or h k) λσ H Q ⟨μ,S,ρ,g,i,p⟩=>
 ⟨μ,S,ρ,g,i,p.bind.imp λq S1 d l j f e=>by
  cases q with
  | true=>exact e.ret d l (Lat.refl _ _) f
  | false=>exact ⟨d,S1,ρ,g.later j,f,e⟩⟩
def asB (d:D):M Bool:=match d with
 | .bl b=>ret b
 | _=>bad
theorem yE {K:PySem.W.Frag} {a:Mp} {c:Hp} {S:Sto} {d:D} {v:V} {Q:Bool->Hp->Prop} (f:RD K a c d v) (e:Rep K cl a S c) (p:Post K cl xe a c (asB d S) λb _ _ H'=>Q b H'):∃ k,v=.bl k/\Q k c:=by
 cases f with
 | bl b=>exact ⟨b,rfl,p.ret a c (Lat.refl _ _) e⟩
 | _=>exact p.elim
theorem cE (o:PE X a (tD X.K cl xe f)) (k:PE X b (tD X.K cl xe g)) (r:OpR X (compareOp op) (rP2 X.K cl xe h)) (n:behindInMarks op b=false) :
  PT X (.Compare a [op] [b] pos) (tBo X.K cl xe λρ=>bind (f ρ) λx=>bind (g ρ) λy=>bind (h x y) asB):=PT.imp (sW r o k n) λσ H Q ⟨μ,S,ρ,d,t,p⟩=>
 ⟨μ,S,ρ,d,t,p.bind.imp λx S1 c I s q j v m=>⟨c,S1,ρ,d.later s,q,j.bind.imp λy S2 μ2 J A D l u B=>⟨μ2,S2,x,y,m.later A,B,D,l.bind.imp λz F e E G C i w rw=>yE rw C i⟩⟩⟩
end
end L3
namespace HT
open PySem PySem.Spec PyProof.Rows
theorem noFill_tuple_mul:fillsNumberSlot (.type "tuple") "mul" = pure false:=
 PySem.fillsNumberSlot_seq F.slot_tuple_mul.lookup (by decide +kernel) F.slot_tuple_rmul.lookup (by decide +kernel)
theorem repeat_tuple:seqRepeat? (.type "tuple")=pure (some (.builtin "tuple.__mul__")):=by
 unfold seqRepeat?;rw [PySem.seqSlot_of (name:="__mul__") F.slot_tuple_mul.lookup (by decide +kernel),PySem.seqSlot_of (name:="__rmul__") F.slot_tuple_rmul.lookup (by decide +kernel)];rfl
theorem int_rmul_tuple (a:Int) (t:Tok) (l:Addr) (items:Array Value) (n:Nat) (b:Option Addr) (c:Array (Option Value)) :
  Meets (Builtin.«int.__rmul__» ⟨[.int a t,.ref l],[]⟩) (λ_ R s=>s.heap.get? l=some { cls:=.type "tuple",dict:=b,data:=.seq items n,slots:=c }/\R (.ok (.ret Value.notImplemented)) s):=
 .of_wp λprog w A R s h=>by obtain ⟨f,g,d,i,e⟩:=s;obtain ⟨j,h⟩:=h;wp_walk;exact ⟨_,rfl,h⟩
theorem tuple_mul1 (l:Addr) (items:Array Value) (n:Nat) (a:Option Addr) (b:Array (Option Value)) (u:Tok) :
  Meets (Builtin.«tuple.__mul__» ⟨[.ref l,.int 1 u],[]⟩) (λ_ R s=>s.heap.get? l=some { cls:=.type "tuple",dict:=a,data:=.seq items n,slots:=b }/\R (.ok (.ret (.ref l))) s):=
 .of_wp λprog w A R s h=>by obtain ⟨e,g,d,f,c⟩:=s;obtain ⟨i,h⟩:=h;wp_walk;exact ⟨_,rfl,h⟩
theorem gi {k:Int} (b:1<=k) (a:k<2 ^ 63):¬ ((decide (k < -(2 ^ 63))||decide (k≥2 ^ 63))=true):=by grind
theorem tuple_mul2 (l:Addr) (items:Array Value) (n:Nat) (r:Option Addr) (v:Array (Option Value)) (k:Int) (u:Tok) (a:¬ (items.isEmpty||k==1)=true) (B:2<=k) (p:k<2 ^ 63) (hsz:items.size * k.toNat<=sizeLine) :
  Meets (Builtin.«tuple.__mul__» ⟨[.ref l,.int k u],[]⟩) (λ_ R s=>s.heap.get? l=some { cls:=.type "tuple",dict:=r,data:=.seq items n,slots:=v }/\R (.ok (.ret (.ref s.heap.objs.size))) { s with heap:=s.heap.push { cls:=.type "tuple",data:=.seq ((List.replicate k.toNat items).foldl (·++·) #[]) } }):=
 .of_wp λprog w A R s h=>by
  obtain ⟨j,g,d,y,x⟩:=s;obtain ⟨t,h⟩:=h;have q:=gi (by omega) p;have e:=Fj;have i:((k.toNat:Nat):Int)=k:=Int.toNat_of_nonneg (by omega);have b:(items.size:Int) * k=((items.size * k.toNat:Nat):Int):=by rw [Hs,i]
  have c:¬ (decide (k<=0)||items.isEmpty)=true:=by
   simp only [HW,Fh] at a ⊢;intro z;rcases z with z | z
   ·omega
   ·exact a (.inl z)
  have f:¬ ((items.size:Int) * k > (2 ^ 63-1) / 8):=by rw [b];omega
  have m:¬ Builtin.Tuple.tupleTooMany ((items.size:Int) * k)=true:=by
   rw [b];simp only [Builtin.Tuple.tupleTooMany,Fh];omega
  have hz:((List.replicate k.toNat items).foldl (·++·) #[]).size<=sizeLine:=by
   rw [AutoListH.size_joined,Nat.mul_comm];simpa using hsz
  wp_walk
  rw [if_neg q];have o:IsTup j l items:=⟨_,t,rfl,n,rfl⟩;refine Er (tupleItemsOf_ o ?_);rw [if_neg a];rw [if_neg c];rw [if_neg f];rw [if_neg m];refine Er (Fs ?_ hz);exact Eu ⟨_,rfl,h⟩
end HT
namespace L2
open PySem PySem.Spec PyProof.Rows
section
variable {X:Cx}
theorem sr:OpR X (binaryOp .Mult) (λx y H Q=>∃ a k xs,x=.ref a/\y=.int k/\SqT X.K H a xs/\xs≠[]/\1<=k/\k<2 ^ 63/\xs.length * k.toNat<=sizeLine/\(k=1->Q (.ref a) H)/\(k≠1->∀ p,H p=none->Q (.ref p) (upd H p (.tup (List.replicate k.toNat xs).flatten)))):=by
 intro pins s σ H x y v u Q I J C h;obtain ⟨a,k,xs,rfl,rfl,o,r,N,k2,hz,B,w⟩:=h;cases J;obtain ⟨t,rfl⟩:=C;obtain ⟨c,g,D,_⟩:=I.tuple o;obtain ⟨⟨E,e,j,f⟩,d,G,n,hd⟩:=id D;subst G hd;have L:=g.length;by_cases i:k=1
 ·subst i;exact GC (by decide) ⟨_,d,rfl⟩ (λs'=>Hj s' 1 t) HT.noFill_tuple_mul F.fills_int_mul F.slot_int_rmul HT.repeat_tuple F.slot_int_index.lookup
   (Gy F.slot_int_rmul (Hj s 1 t) F.entry_int_rmul (F.args_int_rmul_2 _ _) (HT.int_rmul_tuple 1 t a c.toArray n e f)
    ⟨d,rfl,⟨_,d,rfl⟩,Gy F.slot_tuple_mul ⟨_,d,rfl⟩ F.entry_tuple_mul (F.args_tuple_mul_2 _ _) (HT.tuple_mul1 a c.toArray n e f t) ⟨d,.ref a,H,I,rfl,B rfl⟩⟩)
 ·have M:=λz=>r (g.nil_iff.mp z);have l:¬ (c.toArray.isEmpty||k==1)=true:=by
   simp only [HW,GP];rintro (z | z)
   ·grind
   ·exact i z
  refine GC (by decide) ⟨_,d,rfl⟩ (λs'=>Hj s' k t) HT.noFill_tuple_mul F.fills_int_mul F.slot_int_rmul HT.repeat_tuple F.slot_int_index.lookup
   (Gy F.slot_int_rmul (Hj s k t) F.entry_int_rmul (F.args_int_rmul_2 _ _) (HT.int_rmul_tuple k t a c.toArray n e f)
    ⟨d,rfl,⟨_,d,rfl⟩,Gy F.slot_tuple_mul ⟨_,d,rfl⟩ F.entry_tuple_mul (F.args_tuple_mul_2 _ _) (HT.tuple_mul2 a c.toArray n e f k t l (by omega) k2 (by rw [EN,<- L];exact hz)) ⟨d,?_⟩⟩)
  have m:List.foldl (λA K=>A++K) #[] (List.replicate k.toNat c.toArray)=(List.replicate k.toNat c).flatten.toArray:=by
   have:=S8 c k.toNat [];rw [List.nil_append] at this;exact this
  rw [m];refine ⟨.ref s.heap.objs.size,_,I.laid (λb ob q=>Ew _ q) (EI _) ?_,rfl,w i _ (I.hok.fresh (EI _))⟩;exact ⟨by rw [gz,Nat.mul_comm];exact hz,_,g.rep k.toNat,TupN.new _ _⟩
end
end L2
namespace L3
open PySem PySem.Spec PyProof.Rows L2
def lstOf (d:D):M (List D):=match d with
 | .lst ds=>ret ds
 | .ref n=>λS=>match S[n]? with
  | some (.lst ds)=>.ok ds S
  | _=>.bad
 | _=>bad
def V4 (d:D):M (List D):=match d with
 | .tup ds=>ret ds
 | .scr ds=>ret ds
 | d=>lstOf d
section
variable {K:PySem.W.Frag} {cl:ClW} {xe:Addr->Hp->Prop} {μ:Mp} {H:Hp} {S:Sto} {α:Type}
theorem o8 (rd:RD K μ H d v) (rp:Rep K cl μ S H) (p:Post K cl xe μ H (lstOf d S) G):∃ a xs ds,v=.ref a/\H a=some (.lst xs)/\RDs K μ H ds xs/\lstOf d S=.ok ds S:=by
 cases rd with
 | lst h r=>exact ⟨_,_,_,rfl,h.1,r,rfl⟩
 | ref e=>
  rename_i n a;simp only [lstOf] at p;cases q:S[n]? with
  | none=>rw [q] at p;exact p.elim
  | some o=>
   cases o with
   | dcT _=>rw [q] at p;exact p.elim
   | lst ds=>
    obtain ⟨xs,h1,h2⟩:=rp.ats n _ a q e;exact ⟨a,xs,ds,rfl,h1,h2,by simp only [lstOf,q]⟩
   | dct _=>rw [q] at p;exact p.elim
   | exc _ _=>rw [q] at p;exact p.elim
 | _=>exact p.elim
theorem nR (rd:RD K μ H d v) (rp:Rep K cl μ S H) (p:Post K cl xe μ H (V4 d S) G):∃ a xs ds,v=.ref a/\(SqL K H a xs\/SqT K H a xs)/\RDs K μ H ds xs/\V4 d S=.ok ds S:=by
 cases rd with
 | tup h r=>exact ⟨_,_,_,rfl,.inr h.sq,r,rfl⟩
 | scr h r=>exact ⟨_,_,_,rfl,.inl h.sq,r,rfl⟩
 | lst h r=>exact ⟨_,_,_,rfl,.inl h.sq,r,rfl⟩
 | ref e=>
  obtain ⟨a,xs,ds,h1,h2,h3,h4⟩:=o8 (.ref e) rp p;exact ⟨a,xs,ds,h1,.inl (.inl (.inl h2)),h3,h4⟩
 | _=>exact p.elim
theorem Post.ok_bind {a:α} {G:β->Sto->Mp->Hp->Prop} (e:m S=.ok a S) (p:Post K cl xe μ H (L3.bind m k S) G):Post K cl xe μ H (k a S) G:=by
 unfold L3.bind at p;rw [e] at p;exact p
theorem K3 (b:Rep K cl μ S H) (r:RDs K μ H ds xs) (a:H p=none):Lat μ H μ (upd H p (.tup xs))/\Rep K cl μ S (upd H p (.tup xs))/\RD K μ (upd H p (.tup xs)) (.tup ds) (.ref p):=
 ⟨Lat.laid a,b.laid a,.tup (.inl ⟨.inl b6,b.notin a,b.notrs a⟩) (r.later (Lat.laid a))⟩
theorem W8 (b:Rep K cl μ S H) (r:RDs K μ H ds xs) (a:H p=none):Lat μ H μ (upd H p (.lst xs))/\Rep K cl μ S (upd H p (.lst xs))/\RD K μ (upd H p (.lst xs)) (.lst ds) (.ref p):=
 ⟨Lat.laid a,b.laid a,.lst ⟨b6,b.notin a,b.notrs a⟩ (r.later (Lat.laid a))⟩
theorem kX (c:Rep K cl μ S H) (r:RDs K μ H ds xs) (b:H p=none):Lat μ H (μ.push p) (upd H p (.lst xs))/\Rep K cl (μ.push p) (S++[.lst ds]) (upd H p (.lst xs))/\RD K (μ.push p) (upd H p (.lst xs)) (.ref S.length) (.ref p):=by
 have k:∀ a u,H a=some u->upd H p (.lst xs) a=some u:=λa u e=>by rw [a7 (b9 e b)];exact e
 have l:=Lat.pushed (μ:=μ) b k;refine ⟨l,c.pushed b k ⟨xs,b6,r.later l⟩,.ref ?_⟩;show (μ.pl++[p])[S.length]?=some p;rw [<- c.len];simp
theorem Post.guard [Decidable c] {a:α} {G:α->Sto->Mp->Hp->Prop} (p:Post K cl xe μ H ((if c then L3.ret a else L3.bad) S) G):c/\∀ μ' H',Lat μ H μ' H'->Rep K cl μ' S H'->G a S μ' H':=by
 by_cases b:c
 ·rw [if_pos b] at p;exact ⟨b,p⟩
 ·rw [if_neg b] at p;exact p.elim
end
def h9 {a b:Type} (f:a->Option b):List a->Option (List b)
 | []=>some []
 | x :: xs=>match f x,h9 f xs with
  | some y,some ys=>some (y :: ys)
  | _,_=>none
def i5:Nat->Sto->D->Option PyData
 | 0,_,_=>none
 | n+1,S,d=>match d with
  | .non=>some .none
  | .bl b=>some (.bool b)
  | .int i=>some (.int i)
  | .str x=>some (.str x)
  | .tup ds=>(h9 (i5 n S) ds).map .tuple
  | .lst ds=>(h9 (i5 n S) ds).map .list
  | .scr ds=>(h9 (i5 n S) ds).map .list
  | .ref k=>match S[k]? with
   | some (.lst ds)=>(h9 (i5 n S) ds).map .list
   | _=>none
theorem dX {K:PySem.W.Frag} {μ:Mp} {H:Hp} {S:Sto} {n:Nat} (f:∀ {d:D} {v:V} {q:PyData},i5 n S d=some q->RD K μ H d v->DAt K H v q):∀ {ds:List D} {vs:List V} {a:List PyData},h9 (i5 n S) ds=some a->RDs K μ H ds vs->DAll K H vs a
 | [],_,a,e,r=>by cases r;cases e;exact .nil
 | d :: ds,_,a,e,r=>by
  cases r with
  | cons h t=>
   simp only [h9] at e;cases b:i5 n S d with
   | none=>rw [b] at e;cases e
   | some q=>
    cases c:h9 (i5 n S) ds with
    | none=>grind
    | some g=>
     rw [b,c] at e;cases e;exact .cons (f b h) (dX f c t)
theorem v4 {K:PySem.W.Frag} {cl:ClW} {μ:Mp} {H:Hp} {S:Sto} (rp:Rep K cl μ S H):∀ (n:Nat) {d:D} {v:V} {q:PyData},i5 n S d=some q->RD K μ H d v->DAt K H v q
 | 0,_,_,_,e,_=>by cases e
 | n+1,d,v,q,e,r=>by
  have all:∀ {ds:List D} {vs:List V} {qs:List PyData},h9 (i5 n S) ds=some qs->RDs K μ H ds vs->DAll K H vs qs:=λe r=>dX (λe r=>v4 rp n e r) e r;have um:∀ {ds:List D} {C:List PyData->PyData},(h9 (i5 n S) ds).map C=some q->∃ qs,h9 (i5 n S) ds=some qs/\q=C qs:=λ{ds C} e=>by
   cases e1:h9 (i5 n S) ds with
   | none=>rw [e1] at e;cases e
   | some qs=>grind
  cases r with
  | non=>cases e;exact .non
  | bl b=>cases e;exact .bl b
  | int i=>cases e;exact .int i
  | str x=>cases e;exact .str x
  | tup h t=>obtain ⟨qs,e1,rfl⟩:=um e;exact .tup h.sq (all e1 t)
  | lst h t=>obtain ⟨qs,e1,rfl⟩:=um e;exact .lst h.sq (all e1 t)
  | scr h t=>obtain ⟨qs,e1,rfl⟩:=um e;exact .lst h.sq (all e1 t)
  | ref h=>
   rename_i k a;simp only [i5] at e;cases q1:S[k]? with
   | none=>rw [q1] at e;cases e
   | some o=>
    rw [q1] at e;cases o with
    | lst ds=>
     obtain ⟨qs,e1,rfl⟩:=um e;obtain ⟨xs,h1,h2⟩:=rp.ats k _ a q1 h;exact .lst (.inl (.inl h1)) (all e1 h2)
    | dct _=>cases e
    | exc _ _=>cases e
    | dcT _=>cases e
def i9 (x y:D):M D:=match x,y with
 | .int i,.int j=>ret (.int (i+j))
 | .str a,.str b=>if a.length+b.length<=sizeLine then ret (.str (a++b)) else bad
 | .tup xs,.tup ys=>if xs.length+ys.length<=sizeLine then ret (.tup (xs++ys)) else bad
 | x,y=>bind (lstOf x) λxs=>bind (lstOf y) λys=>if xs.length+ys.length<=sizeLine then ret (.lst (xs++ys)) else bad
def az (x y:D):M D:=match x,y with
 | .int i,.int j=>ret (.int (i-j))
 | _,_=>bad
instance (i j:Int):Decidable (CMul i j):=by unfold CMul;infer_instance
instance (i j:Int):Decidable (mj i j):=by unfold mj;infer_instance
instance (i j:Int):Decidable (uL i j):=by unfold uL;infer_instance
def R8 (x y:D):M D:=match x,y with
 | .int i,.int j=>if 0<j then ret (.int (i % j)) else bad
 | _,_=>bad
def I0 (x y:D):M D:=match x,y with
 | .int i,.int j=>if mj i j then ret (.int (i / j)) else bad
 | _,_=>bad
def fG (x y:D):M D:=match x,y with
 | .int i,.int j=>if uL i j then ret (.int (i ^ j.toNat)) else bad
 | _,_=>bad
def m7 (x y:D):M D:=match x,y with
 | .int i,.int j=>if CMul i j then ret (.int (i * j)) else bad
 | .tup ds,.int k=>if (ds≠[]/\1<=k/\k<2 ^ 63)/\ds.length * k.toNat<=sizeLine then ret (.tup (List.replicate k.toNat ds).flatten) else bad
 | x,.int k=>bind (lstOf x) λxs=>if (-(2 ^ 63)<=k/\k<2 ^ 63)/\xs.length * k.toNat<=sizeLine then ret (.lst (List.replicate k.toNat xs).flatten) else bad
 | _,_=>bad
section
variable {X:Cx} {cl:ClW} {xe:Addr->Hp->Prop}
theorem lJ:OpR X (binaryOp .Add) (λx y H Q=>∃ a b ys,x=.ref a/\y=.ref b/\SqT X.K H a []/\SqT X.K H b ys/\Q (.ref b) H):=by
 intro pins s σ H x y v u Q I t z h;obtain ⟨a,b,ys,rfl,rfl,B,C,q⟩:=h;cases t;cases z;obtain ⟨w,p,F,_⟩:=I.tuple B;obtain ⟨d,J,G,_⟩:=I.tuple C;cases p;obtain ⟨⟨r,E,l,D⟩,k,o,n,hd⟩:=id F;obtain ⟨⟨m,g,j,f⟩,c,i,A,e⟩:=id G;subst o hd i e;exact concat_meets ⟨_,k,rfl⟩ ⟨_,c,rfl⟩ HK HY GX GV (GK _ _)
   (tuple_addW0 a b #[] d.toArray n A E g D f rfl) ⟨k,c,⟨.ref b,H,I,rfl,q⟩⟩
theorem AB:OpR X (binaryOp .Add) (rP2 X.K cl xe i9):=by
 intro pins s σ H x y v u Q I n o ⟨μ,S,d,e,A,B,c,p⟩;have L:Post X.K cl xe μ H (bind (lstOf d) (λxs=>bind (lstOf e) λys=>if xs.length+ys.length<=sizeLine then ret (.lst (xs++ys)) else bad) S) (λr _ μ' H'=>∀ v,RD X.K μ' H' r v->Q v H')->wpAny (model X.prog X.w) X.A (binaryOp .Add v u) (EP X pins σ Q) X.xe s:=λp=>by
  obtain ⟨a,xs,ds,rfl,q,m,E⟩:=o8 A c p.bind;have p:=p.ok_bind E;obtain ⟨b,ys,es,rfl,t,h,G⟩:=o8 B c p.bind;obtain ⟨k,p⟩:=(p.ok_bind G).guard;refine vt pins s σ H _ _ v u Q I n o ⟨a,b,xs,ys,rfl,rfl,q,t,by rw [<- m.length,<- h.length];exact k,λz hz=>?_⟩;obtain ⟨l,f,g⟩:=W8 c (m.append h) hz;exact p μ _ l f _ g
 cases d <;> cases e <;> try (exact L p)
 case int.int i j=>cases A;cases B;exact xV pins s σ H _ _ v u Q I n o ⟨i,j,rfl,rfl,p μ H (Lat.refl _ _) c _ (.int _)⟩
 case str.str i j=>
  cases A;cases B;obtain ⟨k,p⟩:=Post.guard p;exact gn pins s σ H _ _ v u Q I n o ⟨i,j,rfl,rfl,k,p μ H (Lat.refl _ _) c _ (.str _)⟩
 case tup.tup ds es=>
  obtain ⟨k,p⟩:=Post.guard p;cases A with
  | tup q m=>
   cases B with
   | tup t h=>
    rename_i a xs b ys;cases ds with
    | nil=>
     cases m;exact lJ pins s σ H _ _ v u Q I n o ⟨a,b,ys,rfl,rfl,q.sq,t.sq,p μ H (Lat.refl _ _) c _ (.tup t h)⟩
    | cons d ds=>
     cases m with
     | cons D C=>
      rename_i K J;refine sf pins s σ H _ _ v u Q I n o ⟨a,b,_,ys,rfl,rfl,q.sq,t.sq,by simp,by rw [<- h.length];simpa [C.length] using k,λz=>?_,λz w F=>?_⟩
      ·subst z;cases h;rw [Fm] at p;exact p μ H (Lat.refl _ _) c _ (.tup q (.cons D C))
      ·obtain ⟨l,f,g⟩:=K3 c ((RDs.cons D C).append h) F;exact p μ _ l f _ g
theorem AO:OpR X (binaryOp .Sub) (rP2 X.K cl xe az):=by
 intro pins s σ H x y v u Q I c f ⟨μ,S,d,e,b,a,g,p⟩;cases d <;> cases e <;> try (exact False.elim p)
 case int.int i j=>cases b;cases a;exact wQ pins s σ H _ _ v u Q I c f ⟨i,j,rfl,rfl,p μ H (Lat.refl _ _) g _ (.int _)⟩
theorem BA:OpR X (binaryOp .Mod) (rP2 X.K cl xe R8):=by
 intro pins s σ H x y v u Q I f g ⟨μ,S,d,e,c,b,h,p⟩;cases d <;> cases e <;> try (exact False.elim p)
 case int.int i j=>
  cases c;cases b;obtain ⟨a,p⟩:=Post.guard p;exact yc pins s σ H _ _ v u Q I f g ⟨i,j,rfl,rfl,a,p μ H (Lat.refl _ _) h _ (.int _)⟩
theorem wz:OpR X (binaryOp .FloorDiv) (rP2 X.K cl xe I0):=by
 intro pins s σ H x y v u Q I f g ⟨μ,S,d,e,c,b,h,p⟩;cases d <;> cases e <;> try (exact False.elim p)
 case int.int i j=>
  cases c;cases b;obtain ⟨a,p⟩:=Post.guard p;exact uG pins s σ H _ _ v u Q I f g ⟨i,j,rfl,rfl,a,p μ H (Lat.refl _ _) h _ (.int _)⟩
theorem Bm:OpR X (binaryOp .Pow) (rP2 X.K cl xe fG):=by
 intro pins s σ H x y v u Q I f g ⟨μ,S,d,e,c,b,h,p⟩;cases d <;> cases e <;> try (exact False.elim p)
 case int.int i j=>
  cases c;cases b;obtain ⟨a,p⟩:=Post.guard p;exact xz pins s σ H _ _ v u Q I f g ⟨i,j,rfl,rfl,a,p μ H (Lat.refl _ _) h _ (.int _)⟩
theorem BK:OpR X (binaryOp .Mult) (rP2 X.K cl xe m7):=by
 intro pins s σ H x y v u Q I A B ⟨μ,S,d,e,t,n,h,p⟩;have L:∀ k:Int,e=.int k->Post X.K cl xe μ H (bind (lstOf d) (λxs=>if (-(2 ^ 63)<=k/\k<2 ^ 63)/\xs.length * k.toNat<=sizeLine then ret (.lst (List.replicate k.toNat xs).flatten) else bad) S) (λr _ μ' H'=>∀ v,RD X.K μ' H' r v->Q v H')->wpAny (model X.prog X.w) X.A (binaryOp .Mult v u) (EP X pins σ Q) X.xe s:=λk F q=>by
  clear p;subst F;cases n;obtain ⟨a,xs,ds,rfl,m,b,G⟩:=o8 t h q.bind;obtain ⟨⟨⟨o,k2⟩,g⟩,p⟩:=(q.ok_bind G).guard;refine yX pins s σ H _ _ v u Q I A B ⟨a,k,xs,rfl,rfl,m,o,k2,by rw [<- b.length];exact g,λz hz=>?_⟩;obtain ⟨l,c,f⟩:=W8 h (b.rep k.toNat) hz;exact p μ _ l c _ f
 cases d <;> cases e <;> try (exact False.elim p)
 case int.int i j=>
  cases t;cases n;obtain ⟨g,p⟩:=Post.guard p;exact xt pins s σ H _ _ v u Q I A B ⟨i,j,rfl,rfl,g,p μ H (Lat.refl _ _) h _ (.int _)⟩
 case tup.int ds k=>
  cases n;obtain ⟨⟨⟨D,o,k2⟩,g⟩,p⟩:=Post.guard p;cases t with
  | tup m b=>
   rename_i a xs;have C:xs≠[]:=λz=>by subst z;cases b;exact D rfl
   refine sr pins s σ H _ _ v u Q I A B ⟨a,k,xs,rfl,rfl,m.sq,C,o,k2,by rw [<- b.length];exact g,λz=>?_,λz w E=>?_⟩
   ·subst z;have e:(List.replicate (1:Int).toNat ds).flatten=ds:=by simp
    rw [e] at p;exact p μ H (Lat.refl _ _) h _ (.tup m b)
   ·obtain ⟨l,c,f⟩:=K3 h (b.rep k.toNat) E;exact p μ _ l c _ f
 all_goals exact L _ rfl p
end
def eqP (a:Bool) (x y:D):M D:=λS=>match i5 64 S x,i5 64 S y with
 | some p,some q=>(if p.canLay0=true/\q.canLay0=true/\min p.depth q.depth<=60 then ret (.bl (if a then !PyData.eqv p q else PyData.eqv p q)) else bad) S
 | _,_=>.bad
def eqD (c:Bool) (x y:D):M D:=match x,y with
 | .str a,.str b=>ret (.bl (if c then !decide (a=b) else decide (a=b)))
 | .int a,.int b=>ret (.bl (if c then !decide (a=b) else decide (a=b)))
 | x,y=>eqP c x y
def pc (f:Int->Int->Bool) (x y:D):M D:=match x,y with
 | .int i,.int j=>ret (.bl (f i j))
 | _,_=>bad
def sg (a:Bool) (d:PyData) (ps:List PyData):M D:=if d.canLay0=true/\PyData.canLayAll0 ps=true/\min (PyData.depthAll ps) d.depth<=60 then ret (.bl (if a then !(ps.any λy=>PyData.eqv y d) else ps.any λy=>PyData.eqv y d)) else bad
def inD (a:Bool) (x y:D):M D:=λS=>match i5 64 S x,i5 64 S y with
 | some d,some (.list ps)=>sg a d ps S
 | some d,some (.tuple ps)=>sg a d ps S
 | _,_=>.bad
def isD (a:Bool) (x y:D):M D:=match y with
 | .non=>ret (.bl (match x with
  | .non=>!a
  | _=>a))
 | .bl b=>ret (.bl (match x with
  | .bl c=>if a then !(c==b) else c==b
  | _=>a))
 | _=>bad
section
variable {X:Cx} {cl:ClW} {xe:Addr->Hp->Prop}
theorem Ch (q:X.A.units+64<cLine):OpR X (compareOp .Eq) (rP2 X.K cl xe (eqD false)):=by
 intro pins s σ H x y v u Q I i k ⟨μ,S,d,e,j,l,c,p⟩;have g:Post X.K cl xe μ H (eqP false d e S) (λr _ μ' H'=>∀ v,RD X.K μ' H' r v->Q v H')->wpAny (model X.prog X.w) X.A (compareOp .Eq v u) (EP X pins σ Q) X.xe s:=λp=>by
  simp only [eqP] at p;cases f:i5 64 S d with
  | none=>rw [f] at p;exact p.elim
  | some a=>
   cases h:i5 64 S e with
   | none=>rw [f,h] at p;exact p.elim
   | some b=>
    rw [f,h] at p;obtain ⟨⟨m,n,o⟩,p⟩:=Post.guard p;exact wN q pins s σ H _ _ v u Q I i k ⟨a,b,v4 c 64 f j,v4 c 64 h l,m,n,o,p μ H (Lat.refl _ _) c _ (.bl _)⟩
 cases d <;> cases e <;> try (exact g p)
 case str.str a b=>
  cases j;cases l;exact zX pins s σ H _ _ v u Q I i k ⟨rfl,by rw [show decide (V.str a=V.str b)=decide (a=b) by rw [GO];simp];exact p μ H (Lat.refl _ _) c _ (.bl _)⟩
theorem Cp (q:X.A.units+64<cLine):OpR X (compareOp .NotEq) (rP2 X.K cl xe (eqD true)):=by
 intro pins s σ H x y v u Q I i k ⟨μ,S,d,e,j,l,c,p⟩;have g:Post X.K cl xe μ H (eqP true d e S) (λr _ μ' H'=>∀ v,RD X.K μ' H' r v->Q v H')->wpAny (model X.prog X.w) X.A (compareOp .NotEq v u) (EP X pins σ Q) X.xe s:=λp=>by
  simp only [eqP] at p;cases f:i5 64 S d with
  | none=>rw [f] at p;exact p.elim
  | some a=>
   cases h:i5 64 S e with
   | none=>rw [f,h] at p;exact p.elim
   | some b=>
    rw [f,h] at p;obtain ⟨⟨m,n,o⟩,p⟩:=Post.guard p;exact yK q pins s σ H _ _ v u Q I i k ⟨a,b,v4 c 64 f j,v4 c 64 h l,m,n,o,p μ H (Lat.refl _ _) c _ (.bl _)⟩
 cases d <;> cases e <;> try (exact g p)
 case str.str a b=>
  cases j;cases l;exact CJ pins s σ H _ _ v u Q I i k ⟨rfl,by rw [show decide (V.str a=V.str b)=decide (a=b) by rw [GO];simp];exact p μ H (Lat.refl _ _) c _ (.bl _)⟩
theorem iW (h:OpR X (compareOp op) (rI0 λi j=>.bl (f i j))):OpR X (compareOp op) (rP2 X.K cl xe (pc f)):=by
 intro pins s σ H x y v u Q I b g ⟨μ,S,d,e,c,k,a,p⟩;cases d <;> cases e <;> try (exact False.elim p)
 case int.int i j=>cases c;cases k;exact h pins s σ H _ _ v u Q I b g ⟨i,j,rfl,rfl,p μ H (Lat.refl _ _) a _ (.bl _)⟩
theorem bO {a:Bool} (o:X.A.units+80<cLine) {pins:List (Addr×Obj)} {s:Shared} {σ:L2.St} {H:Hp} {x y:V} {v u:Value} {Q:VK} {d:PyData} {ps:List PyData} (I:Inv X pins σ H s) (l:RelV x v) (j:RelV y u)
  (hd:DAt X.K H x d) (f:DAt X.K H y (.list ps)\/DAt X.K H y (.tuple ps)) (c:d.canLay0=true/\PyData.canLayAll0 ps=true/\min (PyData.depthAll ps) d.depth<=60)
  (q:Q (.bl (if a then !(ps.any λy=>PyData.eqv y d) else ps.any λy=>PyData.eqv y d)) H):wpAny (model X.prog X.w) X.A (compareOp (if a then .NotIn else .In) v u) (EP X pins σ Q) X.xe s:=by
 obtain ⟨h,i,n⟩:=c;obtain ⟨m,g⟩:=hd.reads I l;have b:X.A.units+1+min (PyData.depthAll ps) d.depth<cLine:=by omega
 rcases f with f | f
 ·obtain ⟨k,e⟩:=f.reads I j;cases a with
  | false=>exact SeqAt.in_list_reads e g i h b ⟨.bl _,H,I,rfl,q⟩
  | true=>exact SeqAt.notIn_list_reads e g i h b ⟨.bl _,H,I,rfl,q⟩
 ·obtain ⟨k,e⟩:=f.reads I j;cases a with
  | false=>exact SeqAt.in_tuple_reads e g i h b ⟨.bl _,H,I,rfl,q⟩
  | true=>exact SeqAt.notIn_tuple_reads e g i h b ⟨.bl _,H,I,rfl,q⟩
theorem CM (neg:Bool) (hu:X.A.units+80<cLine):OpR X (compareOp (if neg then .NotIn else .In)) (rP2 X.K cl xe (inD neg)):=by
 intro pins s σ H x y v u Q I rx ry ⟨μ,S,d,e,rd,re,rp,p⟩;simp only [inD] at p;cases e1:i5 64 S d with
 | none=>rw [e1] at p;exact p.elim
 | some a=>
  cases e2:i5 64 S e with
  | none=>rw [e1,e2] at p;exact p.elim
  | some b=>
   rw [e1,e2] at p;have ha:=v4 rp 64 e1 rd;have hb:=v4 rp 64 e2 re;cases b with
   | list ps=>obtain ⟨c,p⟩:=Post.guard p;exact bO hu I rx ry ha (.inl hb) c (p μ H (Lat.refl _ _) rp _ (.bl _))
   | tuple ps=>obtain ⟨c,p⟩:=Post.guard p;exact bO hu I rx ry ha (.inr hb) c (p μ H (Lat.refl _ _) rp _ (.bl _))
   | _=>exact p.elim
theorem zo (f:Bool):OpR X (compareOp (if f then .IsNot else .Is)) (rP2 X.K cl xe (isD f)):=by
 intro pins s σ H x y v u Q I a i ⟨μ,S,d,e,h,k,j,p⟩;have g:∀ b:Bool,(∀ μ' H',Lat μ H μ' H'->Rep X.K cl μ' S H'->∀ v,RD X.K μ' H' (.bl b) v->Q v H')->∀ c,c=b->EP X pins σ Q (.bool c) s:=λb p c e=>⟨.bl b,H,I,by rw [e];rfl,p μ H (Lat.refl _ _) j _ (.bl _)⟩;cases k <;> try (exact False.elim p)
 case non=>
  cases i;cases f with
  | false=>
   refine is_none_gen (g _ p _ ?_);cases h <;> first
    | (cases a;rfl)
    | (obtain ⟨t,rfl⟩:=a;rfl)
  | true=>
   refine isnot_none_gen (g _ p _ ?_);cases h <;> first
    | (cases a;rfl)
    | (obtain ⟨t,rfl⟩:=a;rfl)
 case bl b=>
  cases i;cases f with
  | false=>
   refine wpAny_is_plain ?_ (g _ p _ ?_)
   ·cases h <;> first
    | (cases a;rfl)
    | (obtain ⟨t,rfl⟩:=a;rfl)
   ·cases h <;> first
    | (cases a;rfl)
    | (obtain ⟨t,rfl⟩:=a;rfl)
    | (cases a;(rename_i c;cases c <;> cases b <;> rfl))
  | true=>
   refine wpAny_isNot_plain ?_ (g _ p _ ?_)
   ·cases h <;> first
    | (cases a;rfl)
    | (obtain ⟨t,rfl⟩:=a;rfl)
   ·cases h <;> first
    | (cases a;rfl)
    | (obtain ⟨t,rfl⟩:=a;rfl)
    | (cases a;(rename_i c;cases c <;> cases b <;> rfl))
end
def B5:D->Option Key
 | .int i=>some (.inl i)
 | .str x=>some (.inr x)
 | _=>none
def Y7 {κ:Type} [DecidableEq κ] (a:List (κ×D)) (k:κ):Option D:=(a.find? λb=>decide (b.1=k)).map (·.2)
def gm {κ:Type} [DecidableEq κ] (a:List (κ×D)) (k:κ) (v:D):List (κ×D):=if a.any (λb=>decide (b.1=k)) then a.map (λb=>if b.1=k then (b.1,v) else b) else a++[(k,v)]
def dD {b:Type}:Option b->M b
 | some a=>ret a
 | none=>bad
def ixD (x y:D):M D:=match x with
 | .ref n=>λS=>match S[n]? with
  | some (.lst ds)=>(match y with
   | .int i=>dD (atI ds i)
   | _=>bad) S
  | some (.dct a)=>dD ((B5 y).bind (Y7 a)) S
  | _=>.bad
 | x=>match y with
  | .int i=>bind (V4 x) λds=>dD (atI ds i)
  | _=>bad
theorem yu {K:PySem.W.Frag} {μ:Mp} {H:Hp} {ds:List D} {xs:List V} {i:Int} {d:D} (r:RDs K μ H ds xs) (e:atI ds i=some d):∃ v,atI xs i=some v/\RD K μ H d v:=by
 unfold atI at e ⊢;rw [<- r.length];cases q:ixN ds.length i with
 | none=>rw [q] at e;cases e
 | some j=>rw [q] at e;exact r.get e
theorem jN {K:PySem.W.Frag} {cl:ClW} {xe:Addr->Hp->Prop} {μ:Mp} {H:Hp} {S:Sto} {α:Type} {o:Option α} {G:α->Sto->Mp->Hp->Prop} (p:Post K cl xe μ H (dD o S) G):∃ a,o=some a/\∀ μ' H',Lat μ H μ' H'->Rep K cl μ' S H'->G a S μ' H':=by
 cases o with
 | none=>exact p.elim
 | some a=>exact ⟨a,rfl,p⟩
theorem cr {K:PySem.W.Frag} {μ:Mp} {H:Hp} {k:Key} {d:D}:∀ {a:List (Key×D)} {f:List (Key×V)},KvsAt K μ H a f->Y7 a k=some d->∃ v,O2 f k=some v/\RD K μ H d v
 | _,_,.nil,e=>by simp [Y7] at e
 | p :: r,q :: j,.cons ⟨c,i⟩ t,e=>by
  unfold Y7 at e;rw [FB] at e;by_cases b:p.1=k
  ·simp only [b,decide_true] at e;cases e;exact ⟨q.2,O8 (c▸b),i⟩
  ·simp only [b,decide_false] at e;obtain ⟨v,g,h⟩:=cr t e;exact ⟨v,by rw [Q0 (c▸b)];exact g,h⟩
theorem Q5 {K:PySem.W.Frag} {μ:Mp} {H:Hp} {y:D} {v:V} {k:Key} (r:RD K μ H y v) (e:B5 y=some k):v=kV k:=by
 cases r <;> simp only [B5] at e <;> first | (cases e;rfl) | cases e
section
variable {X:Cx} {cl:ClW} {xe:Addr->Hp->Prop}
theorem qH (o:X.A.units+1<cLine):IxR X (λx y H Q=>∃ a v,x=.ref a/\DGet H a y (some v)/\Q v H):=by
 intro d c pins s σ H x y v u Q I m n h hs;obtain ⟨a,w,rfl,g,q⟩:=h;cases m;have k:=dh I g;have i:wpAny (model X.prog X.w) X.A (getItem (.ref a) u) (EP X pins σ Q) X.xe s:=jd o I g n λw' p l j=>⟨w,H,l,j,q⟩;refine Er ?_;rw [getitemInPython_of_ne k.not_modules];refine Er (wpAny_specialOf k PySem.F.slot_dict_getitem.lookup ?_);have e:wpAny (model X.prog X.w) X.A (subscripted c false (.ref a) u) (λr b=>wpAny (model X.prog X.w) X.A (letTemporaryGo d (.ref a) r >>= λ_=>pure r) (EP X pins σ Q) X.xe b) X.xe s:=by
  rw [hs];exact wpAny_operating (Fo i (λr b f=>Er (wpAny_letTemporaryGo (Eu f))) λ_ _ x=>x)
 first
  | exact Eu (Er e)
  | exact Er (Eu (Er e))
  | exact Er e
theorem Cy (hu:X.A.units+1<cLine):IxR X (rP2 X.K cl xe ixD):=by
 intro value slice pins s σ H x y v u Q I rx ry ⟨μ,S,d,e,rd,re,rp,p⟩ hs;have sq:∀ {a:Addr} {xs:List V} {ds:List D} {i:Int},(SqL X.K H a xs\/SqT X.K H a xs)->RDs X.K μ H ds xs->x=.ref a->e=.int i->Post X.K cl xe μ H (dD (atI ds i) S) (λr _ μ' H'=>∀ v,RD X.K μ' H' r v->Q v H') ->
   wpAny (model X.prog X.w) X.A (subscriptTail value slice v u) (EP X pins σ Q) X.xe s:=λ{a xs ds i} hq r hx he q=>by
  clear p;subst hx he;cases re;obtain ⟨z,e1,q⟩:=jN q;obtain ⟨w,e2,rw'⟩:=yu r e1;rcases hq with hq | hq
  ·exact sY value slice pins s σ H _ _ v u Q I rx ry ⟨a,xs,i,w,rfl,rfl,hq,e2,q μ H (Lat.refl _ _) rp _ rw'⟩ hs
  ·exact yO value slice pins s σ H _ _ v u Q I rx ry ⟨a,xs,i,w,rfl,rfl,hq,e2,q μ H (Lat.refl _ _) rp _ rw'⟩ hs
 cases rd with
 | tup h r=>
  cases e <;> first | exact False.elim p | exact sq (.inr h.sq) r rfl rfl p
 | lst h r=>
  cases e <;> first | exact False.elim p | exact sq (.inl h.sq) r rfl rfl p
 | scr h r=>
  cases e <;> first | exact False.elim p | exact sq (.inl h.sq) r rfl rfl p
 | ref h=>
  rename_i n a;simp only [ixD] at p;cases q1:S[n]? with
  | none=>rw [q1] at p;exact p.elim
  | some o=>
   rw [q1] at p;cases o with
   | lst ds=>
    obtain ⟨xs,h1,h2⟩:=rp.ats n _ a q1 h;cases e <;> first | exact False.elim p | exact sq (.inl (.inl (.inl h1))) h2 rfl rfl p
   | dct kvs=>
    obtain ⟨ks,h1,h2⟩:=rp.ats n _ a q1 h;obtain ⟨z,e1,p⟩:=jN p;cases e2:B5 e with
    | none=>rw [e2] at e1;cases e1
    | some k=>
     rw [e2] at e1;obtain ⟨w,e3,r3⟩:=cr h2 e1;have hy:=Q5 re e2;subst hy;exact qH hu value slice pins s σ H _ _ v u Q I rx ry ⟨a,w,rfl,by rw [<- e3];exact DGet.k h1,p μ H (Lat.refl _ _) rp _ r3⟩ hs
   | exc _ _=>exact p.elim
   | dcT _=>exact p.elim
 | _=>cases e <;> exact False.elim p
def F8 (ds:List D) (lo a:Option Int):List D:=(ds.drop (HT.sIx ds.length 0 lo)).take (HT.sIx ds.length ds.length a-HT.sIx ds.length 0 lo)
theorem ly {K:PySem.W.Frag} {μ:Mp} {H:Hp} {ds:List D} {xs:List V} (r:RDs K μ H ds xs) (lo a:Option Int):RDs K μ H (F8 ds lo a) (jn xs lo a):=by
 unfold F8 jn;rw [<- r.length];exact (r.drop _).take _
def slD (x:D) (lo a:Option Int):M D:=match x with
 | .tup ds=>ret (.tup (F8 ds lo a))
 | x=>bind (match x with
  | .scr ds=>ret ds
  | x=>lstOf x) λds=>ret (.lst (F8 ds lo a))
end
def noStar:Expr->Bool
 | .Starred ..=>false
 | _=>true
def j3:Expr->Bool
 | .ListComp ..=>false
 | .SetComp ..=>false
 | .DictComp ..=>false
 | _=>true
def v3:Expr->Bool
 | .Slice ..=>false
 | _=>true
def q5:Expr->Bool
 | .Set ..=>false
 | _=>true
def p9:Expr->Bool
 | .Call (.Name _ _) [] [] _=>false
 | _=>true
def C7:Expr->Bool
 | .UnaryOp .Not _ _=>false
 | .BoolOp ..=>false
 | .IfExp ..=>false
 | .Compare ..=>false
 | _=>true
theorem d9 (h:noStar e=true):starEach (e :: es) env=(false,eval e env) :: starEach es env:=by
 cases e <;> first | rfl | (exact absurd h (by simp [noStar]))
theorem i7:∀ {es:List Expr} {a:PySem.Env} {pos:Pos},es.all noStar=true->(backTo pos (starEach es a)).any (·.1)=false
 | [],_,_,_=>rfl
 | e :: es,a,pos,h=>by
  rw [Fv,Ey] at h;rw [d9 h.1];show (false||(backTo pos (starEach es a)).any (·.1))=false;rw [i7 h.2];rfl
theorem aL:∀ {es:List Expr} {a:PySem.Env} {pos:Pos},es.all noStar=true->(backTo pos (starEach es a)).all (λx=>!x.1)=true
 | [],_,_,_=>rfl
 | e :: es,a,pos,h=>by
  rw [Fv,Ey] at h;rw [d9 h.1];show (!false&&(backTo pos (starEach es a)).all (λx=>!x.1))=true;rw [aL h.2];rfl
theorem y3 (h:j3 e=true):swapsWith e t n env=pure false:=by
 cases e <;> first | rfl | (exact absurd h (by simp [j3]))
theorem gH (h:v3 e=true):dM e:=by
 intro o i;cases e <;> first | rfl | (exact absurd h (by simp [v3]))
theorem B6 {e:Expr} (h:q5 e=true):behindInMarks op e=false:=by
 cases e <;> first | rfl | (exact absurd h (by simp [q5]))
theorem D0 (h:q5 e=true):∀ x,foldedSetIterable e env x=pure x:=by
 intro x;cases e <;> first | rfl | (exact absurd h (by simp [q5]))
theorem D9 (h:p9 o=true):attributeBase o f env (eval o env)=eval o env:=by
 unfold attributeBase;split
 ·exact absurd h (by simp [p9])
 ·rfl
theorem test_of (h:C7 e=true):∀ a,isTrue e env a=(do let v <- a;standAt e.pos;holding [v] (truthy v)):=by
 intro a;cases e <;> first
  | rfl
  | (rename_i op _ _;cases op <;> first | rfl | (exact absurd h (by simp [C7])))
  | (exact absurd h (by simp [C7]))
section
variable {X:Cx} {cl:ClW} {xe:Addr->Hp->Prop} {e:Expr} {es:List Expr} {pos:Pos} {f:Env->M D} {fs:Env->M (List D)}
theorem rV:PA X [] (tDs X.K cl xe λ_=>ret []):=PA.imp y4 λσ H Q ⟨μ,S,ρ,b,a,p⟩=>p.ret μ H (Lat.refl _ _) a [] .nil
theorem pi (h:PE X e (tD X.K cl xe f)) (hs:PA X es (tDs X.K cl xe fs)) (m:noStar e=true):PA X (e :: es) (tDs X.K cl xe λρ=>bind (f ρ) λd=>bind (fs ρ) λds=>ret (d :: ds)):=
 PA.imp (f8 h hs (d9 m)) λσ H Q ⟨μ,S,ρ,c,l,p⟩=>
  ⟨μ,S,ρ,c,l,p.bind.imp λd S1 b s q r i v g=>⟨b,S1,ρ,c.later q,r,i.bind.imp λds S2 μ2 j o n k vs a=>k.ret μ2 j (Lat.refl _ _) n _ (.cons (g.later o) a)⟩⟩
def yI (ds:List D):M D:=if ds.length<=sizeLine then ret (.tup ds) else bad
def xu (ds:List D):M D:=if ds.length<=sizeLine then ret (.lst ds) else bad
theorem wO (h:PA X es (tDs X.K cl xe fs)):PE X (.Tuple es k pos) (tD X.K cl xe λρ=>bind (fs ρ) yI):=PE.imp (pX h) λσ H Q ⟨μ,S,ρ,i,g,p⟩=>
 ⟨μ,S,ρ,i,g,p.bind.imp λds S1 e m n j c vs a=>by
  obtain ⟨f,c⟩:=Post.guard c;refine ⟨by rw [<- a.length];exact f,λz hz=>?_⟩;obtain ⟨l,b,d⟩:=K3 j a hz;exact c e _ l b _ d⟩
theorem xG (h:PA X es (tDs X.K cl xe fs)):PE X (.List es pos) (tD X.K cl xe λρ=>bind (fs ρ) xu):=PE.imp (pF h) λσ H Q ⟨μ,S,ρ,i,g,p⟩=>
 ⟨μ,S,ρ,i,g,p.bind.imp λds S1 e k m j c vs a=>by
  obtain ⟨f,c⟩:=Post.guard c;refine ⟨by rw [<- a.length];exact f,λz hz=>?_⟩;obtain ⟨l,b,d⟩:=W8 j a hz;exact c e _ l b _ d⟩
def newL (ds:List D):M D:=λS=>if ds.length<=sizeLine then .ok (.ref S.length) (S++[.lst ds]) else .bad
theorem tN (h:PA X es (tDs X.K cl xe fs)):PE X (.List es pos) (tD X.K cl xe λρ=>bind (fs ρ) newL):=PE.imp (pF h) λσ H Q ⟨μ,S,ρ,i,g,p⟩=>
 ⟨μ,S,ρ,i,g,p.bind.imp λds S1 f k m j a vs b=>by
  unfold newL at a;by_cases e:ds.length<=sizeLine
  ·rw [if_pos e] at a;refine ⟨by rw [<- b.length];exact e,λz hz=>?_⟩;obtain ⟨l,c,d⟩:=kX j b hz;exact a _ _ l c _ d
  ·rw [if_neg e] at a;exact a.elim⟩
def gT (E:XK):Addr->Hp->Prop:=λa H=>E (.ref a) none H
def spD (K:PySem.W.Frag) (cl:ClW) (n:Nat) (run:List D->M D):Sp:=λvs H Q E=>vs.length=n/\∃ μ S ds,RDs K μ H ds vs/\Rep K cl μ S H/\Post K cl (gT E0) μ H (run ds S) λd _ μ' H'=>∀ v,RD K μ' H' d v->Q v H'
theorem uD {k n:Nat} {a:Addr} {fd:FuncData} {ps:List Str} {E:XK} {x:Str} {p:Pos} {c:List D->M D} (w:ps.length=n) (F:FnOk X.prog X.w X.K X.mg X.base CX k a fd ps (spD X.K cl n c)) (o:Room CX.q k X.A) (j:Gl X x) (r:X.mg x=some (.ref a)) (m:PySem.W.keepIn X.K (.ref a)=true) (q:Binds X.K fd ps []) (s:u7 CX X E)
  (t:PA X (e :: es) (tDs X.K cl (gT E0) fs)) (f:(x==("__debug__" : Str))=false) (hs:(e :: es).all noStar=true) (u:(e :: es).length=n) :
  PE X (.Call (.Name x p) (e :: es) [] pos) (tD X.K cl (gT E0) λρ=>bind (fs ρ) λds=>if ds.length=n then c ds else bad):=by
 rw [Fv,Ey] at hs;exact PE.imp (iw F o j r m q .nil s t f (d9 hs.1) (i7 hs.2)) λσ H Q ⟨μ,S,ρ,h,l,p⟩=>
  ⟨μ,S,ρ,h,l,p.bind.imp λds S1 g v y i d vs b=>by
   by_cases hd:ds.length=n
   ·rw [if_pos hd] at d;exact ⟨by rw [Fm,<- b.length];exact hd,g,S1,ds,by rw [Fm];exact b,i,d⟩
   ·rw [if_neg hd] at d;exact d.elim⟩
theorem ls {id:String} {x:Str} {p:Pos} (d:j8 X (.builtin id) (rPs X.K cl xe g)) (o:Gl X x) (k:X.mg x=none) (h:bootBuiltins x=some (.builtin id)) (m:PA X (e :: es) (tDs X.K cl xe fs)) (j:x ≠ "__name__") (c:(x==("__debug__" : Str))=false) (hs:(e :: es).all noStar=true) :
  PE X (.Call (.Name x p) (e :: es) [] pos) (tD X.K cl xe λρ=>bind (fs ρ) g):=by
 rw [Fv,Ey] at hs;exact PE.imp (Q8 d o k h m j c (d9 hs.1) (i7 hs.2)) λσ H Q ⟨μ,S,ρ,l,i,p⟩=>⟨μ,S,ρ,l,i,p.bind.imp λds S1 b q r n f vs a=>⟨b,S1,ds,a,n,f⟩⟩
theorem qA {T:String} {x:Str} {p:Pos} (d:j8 X (.type T) (rPs X.K cl xe g)) (o:Gl X x) (k:X.mg x=none) (h:bootBuiltins x=some (.type T)) (m:PA X (e :: es) (tDs X.K cl xe fs)) (j:x ≠ "__name__") (c:(x==("__debug__" : Str))=false) (hs:(e :: es).all noStar=true) :
  PE X (.Call (.Name x p) (e :: es) [] pos) (tD X.K cl xe λρ=>bind (fs ρ) g):=by
 rw [Fv,Ey] at hs;exact PE.imp (kY d o k h m j c (d9 hs.1) (i7 hs.2)) λσ H Q ⟨μ,S,ρ,l,i,p⟩=>⟨μ,S,ρ,l,i,p.bind.imp λds S1 b q r n f vs a=>⟨b,S1,ds,a,n,f⟩⟩
end
def one (g:D->M D) (ds:List D):M D:=match ds with
 | [d]=>g d
 | _=>bad
def k8 (d:D):M D:=match d with
 | .str x=>if x.length<=sizeLine then ret (.int x.length) else bad
 | .ref n=>λS=>match S[n]? with
  | some (.lst ds)=>.ok (.int ds.length) S
  | some (.dct a)=>.ok (.int a.length) S
  | _=>.bad
 | d=>bind (V4 d) λds=>ret (.int ds.length)
def O1 (d:D):M D:=match d with
 | .tup ds=>ret (.tup ds)
 | d=>bind (V4 d) λds=>ret (.tup ds)
instance (p:PyData):Decidable (Shows p):=decidable_of_iff (p.showable=true/\p.hasDict=false/\p.depth<=60/\p.shown.length<=sizeLine) ⟨λ⟨a,b,c,d⟩=>⟨a,b,c,d⟩,λ⟨a,b,c,d⟩=>⟨a,b,c,d⟩⟩
def u8 (d:D):M D:=λS=>match i5 64 S d with
 | some p=>(if Shows p then ret (.str p.shown) else bad) S
 | none=>.bad
theorem pd {K:PySem.W.Frag} {μ:Mp} {H:Hp} {d:D} {vs:List V} (r:RDs K μ H [d] vs):∃ v,vs=[v]/\RD K μ H d v:=by
 cases r with
 | cons h t=>cases t;exact ⟨_,rfl,h⟩
section
variable {X:Cx} {cl:ClW} {xe:Addr->Hp->Prop}
theorem cH (h:∀ (pins:List (Addr×Obj)) (s:Shared) (σ:L2.St) (H:Hp) (μ:Mp) (S:Sto) (d:D) (v:V) (us:List Value) (Q:VK),L2.Inv X pins σ H s->Vals [v] us->RD X.K μ H d v->Rep X.K cl μ S H->Post X.K cl xe μ H (g d S) (λr _ μ' H'=>∀ v,RD X.K μ' H' r v->Q v H') ->
  wpAny (model X.prog X.w) X.A (call f us) (EP X pins σ Q) X.xe s):j8 X f (rPs X.K cl xe (one g)):=by
 intro pins s σ H xs us Q I r ⟨μ,S,ds,a,c,p⟩
 match ds,p with
 | [d],p=>
  obtain ⟨v,rfl,b⟩:=pd a;exact h pins s σ H μ S d v us Q I r b c p
 | [],p=>exact p.elim
 | _ :: _ :: _,p=>exact p.elim
theorem BL:j8 X (.builtin "len") (rPs X.K cl xe (one k8)):=cH λpins s σ H μ S d v us Q I r rd rp p=>by
 have sq:∀ {a:Addr} {xs:List V} {ds:List D},(SqL X.K H a xs\/SqT X.K H a xs)->RDs X.K μ H ds xs->v=.ref a->(∀ μ' H',Lat μ H μ' H'->Rep X.K cl μ' S H'->∀ w,RD X.K μ' H' (.int ds.length) w->Q w H')->wpAny (model X.prog X.w) X.A (call (.builtin "len") us) (EP X pins σ Q) X.xe s:=λ{a xs ds} hq r2 hv q=>by
  subst hv;exact dB pins s σ H _ us Q I r ⟨a,xs,rfl,hq,by rw [<- r2.length];exact q μ H (Lat.refl _ _) rp _ (.int _)⟩
 cases rd with
 | str x=>
  obtain ⟨hl,p⟩:=Post.guard p;exact cb pins s σ H _ us Q I r ⟨x,rfl,hl,p μ H (Lat.refl _ _) rp _ (.int _)⟩
 | tup h r2=>exact sq (.inr h.sq) r2 rfl p
 | lst h r2=>exact sq (.inl h.sq) r2 rfl p
 | scr h r2=>exact sq (.inl h.sq) r2 rfl p
 | ref h=>
  rename_i n a;simp only [k8] at p;cases q1:S[n]? with
  | none=>rw [q1] at p;exact p.elim
  | some o=>
   rw [q1] at p;cases o with
   | lst ds=>
    obtain ⟨xs,h1,h2⟩:=rp.ats n _ a q1 h;exact sq (.inl (.inl (.inl h1))) h2 rfl p
   | dct kvs=>
    obtain ⟨ks,h1,h2⟩:=rp.ats n _ a q1 h;have hl:=Paired.length h2;exact km pins s σ H _ us Q I r ⟨a,ks,rfl,h1,by rw [<- hl];exact p μ H (Lat.refl _ _) rp _ (.int _)⟩
   | exc _ _=>exact p.elim
   | dcT _=>exact p.elim
 | _=>exact False.elim p
theorem tu:j8 X (.type "tuple") (rPs X.K cl xe (one O1)):=cH λpins s σ H μ S d v us Q I r rd rp p=>by
 have sq:∀ {a:Addr} {xs:List V} {ds:List D},SqL X.K H a xs->RDs X.K μ H ds xs->v=.ref a->(∀ μ' H',Lat μ H μ' H'->Rep X.K cl μ' S H'->∀ w,RD X.K μ' H' (.tup ds) w->Q w H')->wpAny (model X.prog X.w) X.A (call (.type "tuple") us) (EP X pins σ Q) X.xe s:=λ{a xs ds} hq r2 hv q=>by
  subst hv;refine M2 pins s σ H _ us Q I r ⟨a,xs,rfl,.inl ⟨hq,λz hz=>?_⟩⟩;obtain ⟨l,rp2,rd2⟩:=K3 rp r2 hz;exact q μ _ l rp2 _ rd2
 cases rd with
 | tup h r2=>exact M2 pins s σ H _ us Q I r ⟨_,_,rfl,.inr ⟨h.sq,p μ H (Lat.refl _ _) rp _ (.tup h r2)⟩⟩
 | lst h r2=>exact sq h.sq r2 rfl p
 | scr h r2=>exact sq h.sq r2 rfl p
 | ref h=>
  rename_i n a0;have p2:=p;obtain ⟨a,xs,ds,e1,h1,h2,e2⟩:=o8 (.ref h) rp p2.bind;exact sq (.inl (.inl h1)) h2 e1 (p2.ok_bind e2)
 | _=>exact False.elim p
theorem zE (e:X.A.guards=some []) (f:X.A.units+64<cLine):j8 X (.builtin "repr") (rPs X.K cl xe (one u8)):=cH λpins s σ H μ S d v us Q I r c b p=>by
 simp only [u8] at p;cases a:i5 64 S d with
 | none=>rw [a] at p;exact p.elim
 | some q=>
  rw [a] at p;obtain ⟨hs,p⟩:=Post.guard p;exact kT e f pins s σ H _ us Q I r ⟨v,q,rfl,v4 b 64 a c,hs,p μ H (Lat.refl _ _) b _ (.str _)⟩
end
def Mp.free (μ:Mp):Mp:=⟨μ.pl,μ.rs.tail⟩
section
variable {K:PySem.W.Frag} {cl:ClW} {xe:Addr->Hp->Prop} {μ μ2:Mp} {S S2:Sto} {H H2:Hp} {p:Addr} {o:HO}
theorem qP (i:Rep K cl μ S H) (h:H p=none):(∀ {d:D} {v:V},RD K μ H d v->RD K (μ.hold p) (upd H p o) d v)/\∀ {ds:List D} {vs:List V},RDs K μ H ds vs->RDs K (μ.hold p) (upd H p o) ds vs:=by
 have c:∀ a u,H a=some u->a∉μ.pl->a∉μ.rs->upd H p o a=some u/\a∉(μ.hold p).pl/\a∉(μ.hold p).rs:=λa u e f g=>by
  have b:=b9 e h;exact ⟨by rw [a7 b];exact e,f,λz=>(EU.mp z).elim b g⟩
 exact ⟨λr=>r.move (μ:=μ) (μ':=μ.hold p) (λ_ _ e=>e) c,λr=>r.move (μ:=μ) (μ':=μ.hold p) (λ_ _ e=>e) c⟩
theorem J1 (c:Rep K cl μ S H) (b:H p=none):Rep K cl (μ.hold p) S (upd H p o):=by
 have j:∀ a u,H a=some u->a∉μ.pl->a∉μ.rs->upd H p o a=some u/\a∉(μ.hold p).pl/\a∉(μ.hold p).rs:=λa u e g h=>by
  have d:=b9 e b;exact ⟨by rw [a7 d];exact e,g,λz=>(EU.mp z).elim d h⟩
 refine c.move (λa m=>?_) rfl (λa m=>a7 λz=>c.notin b (z▸m)) (λa u e=>by rw [a7 (b9 e b)];exact e) j;rcases EU.mp (m) with rfl | m
 ·exact ⟨c.notin b,o,b6⟩
 ·obtain ⟨i,u,f⟩:=c.res a m;exact ⟨i,u,by rw [a7 (b9 f b)];exact f⟩
theorem J0 (b:Rep K cl μ S H) (c:H p=none) (a:EnvOk K μ H ρ σ):EnvOk K (μ.hold p) (upd H p o) ρ σ:=⟨a.1,λi d e=>let ⟨v,q,r⟩:=a.2 i d e;⟨v,q,(qP b c).1 r⟩⟩
theorem eK (r:RDs K μ H ds vs):RDs K μ.free H ds vs:=r.move (μ:=μ) (μ':=μ.free) (λ_ _ e=>e) λa u e b c=>⟨e,b,λz=>c (Hr z)⟩
theorem aH (b:Rep K cl μ S H):Rep K cl μ.free S H:=b.move (λa m=>b.res a (Hr m)) rfl (λ_ _=>rfl) (λ_ _ e=>e) λa u e c d=>⟨e,c,λz=>d (Hr z)⟩
theorem T6 (e:μ.rs=p :: rs) (r:RDs K μ H ds vs):RDs K μ (upd H p o) ds vs:=r.move (λ_ _ e=>e) λa u q c b=>⟨by rw [a7 (λz=>b (by rw [e,z];exact EL))];exact q,c,b⟩
theorem aq (e:μ.rs=p :: rs) (r:RD K μ H d v):RD K μ (upd H p o) d v:=r.move (λ_ _ e=>e) λa u q c b=>⟨by rw [a7 (λz=>b (by rw [e,z];exact EL))];exact q,c,b⟩
theorem R3 (e:μ.rs=p :: rs) (h:H p=some (.lst xs)) (b:Rep K cl μ S H):Rep K cl μ S (upd H p o):=by
 have g:=(b.res p (by rw [e];exact EL)).1;refine b.move (λa m=>?_) rfl (λa m=>a7 λz=>g (z▸m)) (λa u q=>by rw [a7 (jD q h (by intro z;cases z))];exact q) λa u q f c=>⟨by rw [a7 (λz=>c (by rw [e,z];exact EL))];exact q,f,c⟩;obtain ⟨d,u,i⟩:=b.res a m;by_cases z:a=p
 ·subst z;exact ⟨d,o,b6⟩
 ·exact ⟨d,u,by rw [a7 z];exact i⟩
end
inductive Fl where
 | nx (ρ:Env) | rt (d:D) | bk (ρ:Env) | ct (ρ:Env)
def FlOk (K:PySem.W.Frag) (D:Ends) (a:Fl) (μ:Mp) (H:Hp):Prop:=match a with
 | .nx ρ=>∀ σ,EnvOk K μ H ρ σ->D.nx σ H
 | .rt d=>∀ v,RD K μ H d v->D.rt v H
 | .bk ρ=>∀ σ,EnvOk K μ H ρ σ->D.bk σ H
 | .ct ρ=>∀ σ,EnvOk K μ H ρ σ->D.ct σ H
def sD (K:PySem.W.Frag) (cl:ClW) (xe:Addr->Hp->Prop) (f:Env->M Fl):TS:=λD σ H=>∃ μ S ρ,EnvOk K μ H ρ σ/\Rep K cl μ S H/\Post K cl xe μ H (f ρ S) λfl _ μ' H'=>FlOk K D fl μ' H'
def AG (f g:Env->M Fl) (ρ:Env):M Fl:=bind (f ρ) λa=>match a with
 | .nx b=>g b
 | a=>ret a
section
variable {X:Cx} {cl:ClW} {xe:Addr->Hp->Prop} {e:Expr} {st:Stmt} {sts:List Stmt} {pos:Pos} {f:Env->M D} {g h:Env->M Fl}
theorem N6:PS X st (sD X.K cl xe λ_=>bad):=λ_ _ _ _ _ _ ⟨_,_,_,_,_,p⟩=>p.elim
theorem lG:PSs X [] (sD X.K cl xe λρ=>ret (.nx ρ)):=PSs.imp uQ λD σ H ⟨μ,S,ρ,b,a,p⟩=>p.ret μ H (Lat.refl _ _) a σ b
theorem sS (h1:PS X st (sD X.K cl xe g)) (h2:PSs X sts (sD X.K cl xe h)):PSs X (st :: sts) (sD X.K cl xe (AG g h)):=PSs.imp (u4 h1 h2) λD σ H ⟨μ,S,ρ,eo,rp,p⟩=>
 ⟨μ,S,ρ,eo,rp,p.bind.imp λfl S1 μ1 H1 l1 r1 p1=>by
  cases fl with
  | nx ρ1=>exact λσ1 eo1=>⟨μ1,S1,ρ1,eo1,r1,p1⟩
  | rt d=>exact p1.ret μ1 H1 (Lat.refl _ _) r1
  | bk ρ1=>exact p1.ret μ1 H1 (Lat.refl _ _) r1
  | ct ρ1=>exact p1.ret μ1 H1 (Lat.refl _ _) r1⟩
theorem nF (c:PE X e (tD X.K cl xe f)) (k:j3 e=true):PS X (.Expr e pos) (sD X.K cl xe λρ=>bind (f ρ) λ_=>ret (.nx ρ)):=PS.imp (E2 c (y3 k)) λD σ H ⟨μ,S,ρ,b,l,p⟩=>
 ⟨μ,S,ρ,b,l,p.bind.imp λd S1 a i h j g v m=>g.ret a i (Lat.refl _ _) j σ (b.later h)⟩
theorem hB (c:PE X e (tD X.K cl xe f)):PS X (.Return (some e) pos) (sD X.K cl xe λρ=>bind (f ρ) λd=>ret (.rt d)):=PS.imp (xP c) λD σ H ⟨μ,S,ρ,i,k,p⟩=>
 ⟨μ,S,ρ,i,k,p.bind.imp λd S1 a h l j g v b=>g.ret a h (Lat.refl _ _) j v b⟩
theorem yn (k:PT X c (tBo X.K cl xe t)) (m:PSs X a (sD X.K cl xe g)) (l:PSs X b (sD X.K cl xe h)):PS X (.If c a b pos) (sD X.K cl xe λρ=>bind (t ρ) λq=>if q=true then g ρ else h ρ):=PS.imp (L2.ps_if k m l) λD σ H ⟨μ,S,ρ,e,n,p⟩=>
 ⟨μ,S,ρ,e,n,p.bind.imp λq S1 d o i j f=>by
  cases q with
  | true=>exact ⟨d,S1,ρ,e.later i,j,f⟩
  | false=>exact ⟨d,S1,ρ,e.later i,j,f⟩⟩
theorem rX (q:X.N.Nodup) (g:X.N[i]?=some x) (n:Loc X.env.scope x) (j:PE X e (tD X.K cl xe f)) (o:j3 e=true) (s:X.fn x=true\/X.env.scope.names.lookup x=some .local) :
  PS X (.Assign [.Name x pos'] e pos) (sD X.K cl xe λρ=>bind (f ρ) λd=>ret (.nx (ρ.set i (some d)))):=PS.imp (kq q g n j (y3 o) s) λD σ H ⟨μ,S,ρ,b,r,p⟩=>
 ⟨μ,S,ρ,b,r,p.bind.imp λd S1 a l k m h v c=>h.ret a l (Lat.refl _ _) m _ ((b.later k).set c i)⟩
def uU (K:PySem.W.Frag) (cl:ClW) (tg:D->Env->Option Env):TG:=λv σ H Q=>∃ μ S ρ d ρ',EnvOk K μ H ρ σ/\Rep K cl μ S H/\RD K μ H d v/\tg d ρ=some ρ'/\∀ σ',EnvOk K μ H ρ' σ'->Q σ' H
theorem PG.imp (h:PG X t u) (k:∀ v σ H Q,u' v σ H Q->u v σ H Q):PG X t u':=λpins s σ H v w Q I r q=>h pins s σ H v w Q I r (k v σ H Q q)
theorem ni (h:X.N.Nodup) (a:X.N[i]?=some x) (f:Loc X.env.scope x) (j:X.fn x=true\/X.env.scope.names.lookup x=some .local):PG X (.Name x pos') (uU X.K cl λd ρ=>some (ρ.set i (some d))):=
 PG.imp (L1 h a f j) λv σ H Q ⟨μ,S,ρ,d,g,c,k,b,e,q⟩=>by
  cases e;exact q _ (c.set b i)
def aI:List Nat->List D->Env->Option Env
 | [],[],ρ=>some ρ
 | i :: a,d :: ds,ρ=>aI a ds (ρ.set i (some d))
 | _,_,_=>none
def n4 (a:List Nat) (d:D) (ρ:Env):Option Env:=match d with
 | .tup ds=>aI a ds ρ
 | _=>none
inductive NamesAt (X:Cx):List Expr->List Nat->Prop where
 | nil:NamesAt X [] []
 | cons {x:Str} {p:Pos} {i:Nat} {ts:List Expr} {is:List Nat}:X.N[i]?=some x->Loc X.env.scope x->(X.fn x=true\/X.env.scope.names.lookup x=some .local)->NamesAt X ts is->NamesAt X (.Name x p :: ts) (i :: is)
theorem jx (hN:X.N.Nodup)  {ts:List Expr} {is:List Nat} (h:NamesAt X ts is):PGs X ts (λvs σ H Q=>∃ μ ds ρ ρ',EnvOk X.K μ H ρ σ/\RDs X.K μ H ds vs/\aI is ds ρ=some ρ'/\∀ σ',EnvOk X.K μ H ρ' σ'->Q σ' H):=by
 induction h with
 | nil=>
  intro pins s σ H vs us Q I r ⟨μ,ds,ρ,ρ',eo,rd,e,q⟩;cases ds with
  | nil=>
   cases rd;cases e;exact ia pins s σ H [] us Q I r ⟨rfl,q σ eo⟩
  | cons d ds=>cases e
 | @cons x p i ts is h1 h2 h3 h4 ih=>
  intro pins s σ H vs us Q I r ⟨μ,ds,ρ,ρ',eo,rd,e,q⟩;cases ds with
  | nil=>cases e
  | cons d ds=>
   cases rd with
   | cons r1 r2=>exact aF (L1 (i:=i) hN h1 h2 h3) ih rfl pins s σ H _ us Q I r ⟨_,_,rfl,μ,ds,_,ρ',eo.set r1 i,r2,e,q⟩
theorem P6 {ts:List Expr} {is:List Nat} (h:NamesAt X ts is):(assignEach ts X.env).length=is.length/\(assignEach ts X.env).findIdx? (·.1)=none:=by
 induction h with
 | nil=>exact ⟨rfl,rfl⟩
 | @cons x p i ts is h1 h2 h3 h4 ih=>
  refine ⟨by show (assignEach ts X.env).length+1=_;rw [ih.1];rfl,?_⟩;show ((false,assign (.Name x p) X.env) :: assignEach ts X.env).findIdx? (·.1)=none;rw [List.findIdx?_cons];simp [ih.2]
theorem aX:∀ {b:List Nat} {ds:List D} {ρ a:Env},aI b ds ρ=some a->ds.length=b.length
 | [],[],_,_,_=>rfl
 | _ :: _,_ :: _,_,_,e=>by simp [aX (by simpa [aI] using e)]
 | [],_ :: _,_,_,e=>by cases e
 | _ :: _,[],_,_,e=>by cases e
theorem hQ (hc:X.calm=true) (hN:X.N.Nodup) (h:NamesAt X ts is):PG X (.Tuple ts k pos') (uU X.K cl (n4 is)):=
 PG.imp (nV hc (jx hN h) (P6 h).1 (P6 h).2) λv σ H Q ⟨μ,S,ρ,d,ρ',eo,rp,rd,e,q⟩=>by
  cases rd with
  | tup h1 h2=>exact ⟨_,_,rfl,h1.sq,by rw [<- h2.length];exact aX e,μ,_,ρ,ρ',eo,h2,e,q⟩
  | _=>cases e
def oT:Expr->Bool
 | .Tuple ..=>false
 | _=>true
def C8 (tg:D->Env->Option Env) (d:D) (ρ:Env):M Fl:=match tg d ρ with
 | some a=>ret (.nx a)
 | none=>bad
theorem qT (n:X.calm=true) (t:X.N.Nodup) (h:NamesAt X ts is) (o:PE X e (tD X.K cl xe f)) (s:j3 e=true) (i:oT e=true):PS X (.Assign [.Tuple ts k pos'] e pos) (sD X.K cl xe λρ=>bind (f ρ) λd=>C8 (n4 is) d ρ):=
 PS.imp (fT o (hQ n t h) (by unfold swapsWithSole;exact y3 s) (by cases e <;> first | rfl | (exact absurd i (by simp [oT]))) rfl) λD σ H ⟨μ,S,ρ,j,u,p⟩=>
  ⟨μ,S,ρ,j,u,p.bind.imp λd S1 a r q l b v m=>by
   cases c:n4 is d ρ with
   | none=>simp only [C8,c] at b;exact b.elim
   | some g=>simp only [C8,c] at b;exact ⟨a,S1,ρ,d,g,j.later q,l,m,c,b.ret a r (Lat.refl _ _) l⟩⟩
end
structure LatR (μ:Mp) (H:Hp) (μ':Mp) (H':Hp):Prop where
 pre:∀ (n:Nat) (a:Addr),μ.pl[n]?=some a->μ'.pl[n]?=some a
 oth:∀ a o,H a=some o->a∉μ.pl->H' a=some o
 new:∀ a,a∈μ'.pl->a∈μ.pl\/H a=none
 rsw:∀ a,a∈μ'.rs->a∈μ.rs\/H a=none
theorem Lat.r {H H':Hp} (l:Lat μ H μ' H'):LatR μ H μ' H':=⟨l.pre,l.oth,l.new,λa m=>.inl (by rw [l.rsv] at m;exact m)⟩
structure LatU (μ:Mp) (H:Hp) (μ':Mp) (H':Hp):Prop where
 pre:∀ (n:Nat) (a:Addr),μ.pl[n]?=some a->μ'.pl[n]?=some a
 oth:∀ a o,H a=some o->a∉μ.pl->a∉μ.rs->H' a=some o
 new:∀ a,a∈μ'.pl->a∈μ.pl\/H a=none
 rsw:∀ a,a∈μ'.rs->a∈μ.rs\/H a=none
theorem LatR.u {H H':Hp} (l:LatR μ H μ' H'):LatU μ H μ' H':=⟨l.pre,λa o e n _=>l.oth a o e n,l.new,l.rsw⟩
theorem LatU.out {H H':Hp} (l:LatU μ H μ' H') (a:Addr) (u:HO) (e:H a=some u) (c:a∉μ.pl) (b:a∉μ.rs):H' a=some u/\a∉μ'.pl/\a∉μ'.rs:=by
 refine ⟨l.oth a u e c b,λz=>?_,λz=>?_⟩
 ·rcases l.new a z with q | q
  ·exact c q
  ·rw [e] at q;cases q
 ·rcases l.rsw a z with q | q
  ·exact b q
  ·rw [e] at q;cases q
theorem RDs.laterU {K:PySem.W.Frag} {μ μ':Mp} {H H':Hp} (l:LatU μ H μ' H') {ds:List D} {vs:List V} (r:RDs K μ H ds vs):RDs K μ' H' ds vs:=r.move l.pre l.out
abbrev Src:=Nat->Sto->Option (Option D)
def af (K:PySem.W.Frag) (cl:ClW) (J:It) (i:Nat) (μ2:Mp) (H2:Hp) (S2:Sto) (o:Option (Option D)):Prop:=match o with
 | some (some d)=>J.go i H2/\∀ x H3,J.yld i H2 x H3->Lat μ2 H2 μ2 H3/\Rep K cl μ2 S2 H3/\RD K μ2 H3 d x
 | some none=>J.stop i H2
 | none=>True
def Yl (K:PySem.W.Frag) (cl:ClW) (J:It) (μ:Mp) (H:Hp) (src:Src):Prop:=∀ (i:Nat) (μ2:Mp) (H2:Hp) (S2:Sto),LatU μ H μ2 H2->Rep K cl μ2 S2 H2->af K cl J i μ2 H2 S2 (src i S2)
def tIt (K:PySem.W.Frag) (cl:ClW) (xe:Addr->Hp->Prop) (f:Env->M (Src×Nat)):TI:=λσ H R=>∃ μ S ρ,EnvOk K μ H ρ σ/\Rep K cl μ S H/\Post K cl xe μ H (f ρ S) λp _ μ' H'=>∀ J,Yl K cl J μ' H' p.1->R J H'
theorem PI.imp (h:PI X tg it t) (k:∀ σ H R,t' σ H R->t σ H R):PI X tg it t':=λpins s σ H R I q=>h pins s σ H R I (k σ H R q)
theorem zC {tg l:Expr} {m:TE} (r:PE X l m):PI X tg l (λσ H R=>m σ H λx d=>∃ a,x=.ref a/\(((∃ xs,SqL X.K d a xs)/\R (Itl X.K a) d)\/((∃ xs,SqT X.K d a xs)/\R (Itt X.K a) d))):=by
 intro pins s σ H R I h;refine thn (r pins s σ H _ I h) λv f ⟨x,d,c,n,j⟩=>?_;obtain ⟨a,e,j⟩:=j;subst e;cases n;rcases j with ⟨⟨xs,g⟩,q⟩ | ⟨⟨xs,g⟩,q⟩
 ·obtain ⟨k,t,p,hz⟩:=c.list g;refine wpAny_pyIter_list p.isList ?_;refine ⟨f.heap.objs.size,[f.heap.objs.size],_,_,d,rfl,c.kept λb o e=>Ew _ e,kH a _,⟨_,ET _ rfl,rfl,rfl⟩,λb i=>?_,q⟩;have e:b=f.heap.objs.size:=by simpa using i
  subst e;exact c.fpOk (EI _) (c.hok.fresh (EI _))
 ·obtain ⟨k,t,p,hz⟩:=c.tuple g;refine Gn (p) ?_;refine ⟨f.heap.objs.size,[f.heap.objs.size],_,_,d,rfl,c.kept λb o e=>Ew _ e,fg a _,⟨_,ET _ rfl,rfl,rfl⟩,λb i=>?_,q⟩;have e:b=f.heap.objs.size:=by simpa using i
  subst e;exact c.fpOk (EI _) (c.hok.fresh (EI _))
def F9 (ds:List D):Src:=λi _=>some ds[i]?
def gA (n:Nat):Src:=λi S=>match S[n]? with
 | some (.lst es)=>some es[i]?
 | _=>none
def gF (lo:Int) (n:Nat):Src:=λi _=>some (if i<n then some (.int (lo+i)) else none)
section
variable {K:PySem.W.Frag} {cl:ClW} {μ:Mp} {H:Hp}
theorem wD (h:TupAt K μ H a xs) (r:RDs K μ H ds xs):Yl K cl (Itt K a) μ H (F9 ds):=λi μ2 g S2 l y=>by
 have b:SqT K g a xs:=by
  rcases h with ⟨q,n1,n2⟩ | q
  ·rcases q with q | ⟨o,q⟩
   ·exact .inl (.inl (l.oth _ _ q n1 n2))
   ·exact .inl (.inr ⟨o,l.oth _ _ q n1 n2⟩)
  ·obtain ⟨o,c,n,u,j,w,m,t,_⟩:=q;exact .inr ⟨o,c,n,u,j,w,m,t⟩
 have k:=r.laterU l;show af K cl (Itt K a) i μ2 g S2 (some ds[i]?);cases e:ds[i]? with
 | none=>exact ⟨xs,b,by rw [<- r.length];exact Gb.mp e⟩
 | some d=>
  obtain ⟨v,f,p⟩:=k.get e;exact ⟨⟨xs,v,b,f⟩,λx z ⟨s,q⟩=>by subst s;have:=q xs b;rw [f] at this;cases this;exact ⟨Lat.refl _ _,y,p⟩⟩
theorem oH (h:LstAt μ H a xs\/ScrAt K μ H a xs) (r:RDs K μ H ds xs):Yl K cl (Itl K a) μ H (F9 ds):=λi μ2 f S2 l m=>by
 have b:SqL K f a xs:=by
  rcases h with ⟨q,n1,n2⟩ | ⟨q,n1,n2⟩ | q
  ·exact .inl (.inl (l.oth _ _ q n1 n2))
  ·rcases q with q | ⟨o,q⟩
   ·exact .inl (.inl (l.oth _ _ q n1 n2))
   ·exact .inl (.inr ⟨o,l.oth _ _ q n1 n2⟩)
  ·exact .inr q
 have g:=r.laterU l;show af K cl (Itl K a) i μ2 f S2 (some ds[i]?);cases e:ds[i]? with
 | none=>exact ⟨xs,b,by rw [<- r.length];exact Gb.mp e⟩
 | some d=>
  obtain ⟨v,c,j⟩:=g.get e;exact ⟨⟨xs,v,b,c⟩,λx n ⟨k,q⟩=>by subst k;have:=q xs b;rw [c] at this;cases this;exact ⟨Lat.refl _ _,m,j⟩⟩
theorem xk {n:Nat} (h:μ.pl[n]?=some a):Yl K cl (Itl K a) μ H (gA n):=λi μ2 H2 S2 l rp=>by
 show af K cl (Itl K a) i μ2 H2 S2 (match S2[n]? with
  | some (.lst es)=>some es[i]?
  | _=>none)
 cases q1:S2[n]? with
 | none=>exact True.intro
 | some o=>
  cases o with
  | dcT _=>exact True.intro
  | dct _=>exact True.intro
  | exc _ _=>exact True.intro
  | lst es=>
   obtain ⟨xs,h1,h2⟩:=rp.ats n _ a q1 (l.pre _ _ h);have hq:SqL K H2 a xs:=.inl (.inl h1);show af K cl (Itl K a) i μ2 H2 S2 (some es[i]?);cases e:es[i]? with
   | none=>exact ⟨xs,hq,by rw [<- h2.length];exact Gb.mp e⟩
   | some d=>
    obtain ⟨v,e1,r1⟩:=h2.get e;exact ⟨⟨xs,v,hq,e1⟩,λx H3 ⟨e3,q⟩=>by subst e3;have:=q xs hq;rw [e1] at this;cases this;exact ⟨Lat.refl _ _,rp,r1⟩⟩
theorem nB {lo:Int} {n:Nat}:Yl K cl (Itr lo n) μ H (gF lo n):=λi μ2 d S2 l e=>by
 show af K cl (Itr lo n) i μ2 d S2 (some (if i<n then some (.int (lo+i)) else none));by_cases a:i<n
 ·rw [if_pos a];exact ⟨a,λx f ⟨c,b⟩=>by subst c b;exact ⟨Lat.refl _ _,e,.int _⟩⟩
 ·rw [if_neg a];exact FE a
end
def N5 (d:D):M (Src×Nat):=match d with
 | .tup ds=>ret (F9 ds,ds.length+1)
 | .lst ds=>ret (F9 ds,ds.length+1)
 | .scr ds=>ret (F9 ds,ds.length+1)
 | .ref n=>λS=>match S[n]? with
  | some (.lst ds)=>.ok (gA n,ds.length+1) S
  | _=>.bad
 | _=>bad
def J7 (ds:List D):M (Src×Nat):=match ds with
 | [.int j]=>if -(2 ^ 62)<=j/\j<2 ^ 62 then ret (gF 0 j.toNat,j.toNat+1) else bad
 | [.int i,.int j]=>if -(2 ^ 62)<=i/\i<2 ^ 62/\-(2 ^ 62)<=j/\j<2 ^ 62 then ret (gF i (j-i).toNat,(j-i).toNat+1) else bad
 | _=>bad
section
variable {X:Cx} {cl:ClW} {xe:Addr->Hp->Prop} {e:Expr} {tg:Expr} {pos:Pos} {f:Env->M D}
theorem iF {tg e:Expr}:PI X tg e (tIt X.K cl xe λ_=>bad):=λ_ _ _ _ _ _ ⟨_,_,_,_,_,p⟩=>p.elim
theorem rm (h:PE X e (tD X.K cl xe f)):PI X tg e (tIt X.K cl xe λρ=>bind (f ρ) N5):=PI.imp (zC h) λσ H R ⟨μ,S,ρ,eo,rp,p⟩=>
 ⟨μ,S,ρ,eo,rp,p.bind.imp λd S1 μ1 H1 l1 r1 p1 v rv=>by
  cases rv with
  | tup h r=>exact ⟨_,rfl,.inr ⟨⟨_,h.sq⟩,p1.ret μ1 H1 (Lat.refl _ _) r1 _ (wD h r)⟩⟩
  | lst h r=>exact ⟨_,rfl,.inl ⟨⟨_,h.sq⟩,p1.ret μ1 H1 (Lat.refl _ _) r1 _ (oH (.inl h) r)⟩⟩
  | scr h r=>exact ⟨_,rfl,.inl ⟨⟨_,h.sq⟩,p1.ret μ1 H1 (Lat.refl _ _) r1 _ (oH (.inr h) r)⟩⟩
  | ref h=>
   rename_i n a;simp only [N5] at p1;cases q1:S1[n]? with
   | none=>rw [q1] at p1;exact p1.elim
   | some o=>
    rw [q1] at p1;cases o with
    | lst ds=>
     obtain ⟨xs,h1,h2⟩:=r1.ats n _ a q1 h;exact ⟨_,rfl,.inl ⟨⟨xs,.inl (.inl h1)⟩,p1 μ1 H1 (Lat.refl _ _) r1 _ (xk h)⟩⟩
    | dct _=>exact p1.elim
    | exc _ _=>exact p1.elim
    | dcT _=>exact p1.elim
  | _=>exact False.elim p1⟩
theorem fZ (hg:Gl X "range") (hm:X.mg "range" = none) (ha:PA X [a] (tDs X.K cl xe fs)) (hs:noStar a=true):PI X tg (.Call (.Name "range" p) [a] [] pos) (tIt X.K cl xe λρ=>bind (fs ρ) λds=>if ds.length=1 then J7 ds else bad):=
 PI.imp (kD hg hm ha (d9 hs)) λσ H R ⟨μ,S,ρ,eo,rp,p⟩=>⟨μ,S,ρ,eo,rp,p.bind.imp λds S1 μ1 H1 l1 r1 p1 vs rvs=>by
  cases rvs with
  | nil=>exact False.elim p1
  | cons h t=>
   cases t with
   | cons _ t=>rw [if_neg (by simp)] at p1;exact p1.elim
   | nil=>
    rename_i d0 v0;rw [if_pos (show ([d0]:List D).length=1 from rfl)] at p1;cases h with
    | int j=>
     obtain ⟨⟨h1,h2⟩,p1⟩:=Post.guard p1;exact ⟨j,rfl,h1,h2,p1 μ1 H1 (Lat.refl _ _) r1 _ nB⟩
    | _=>exact False.elim p1⟩
end
def z0 (src:Src) (tg:D->Env->Option Env) (body:Env->M Fl):Nat->Nat->Env->M Fl
 | 0,_,_=>bad
 | m+1,i,ρ=>λS=>match src i S with
  | none=>.bad
  | some none=>.ok (.nx ρ) S
  | some (some d)=>match tg d ρ with
   | none=>.bad
   | some b=>bind (body b) (λc=>match c with
    | .nx a=>z0 src tg body m (i+1) a
    | .ct a=>z0 src tg body m (i+1) a
    | .bk a=>ret (.nx a)
    | .rt d=>ret (.rt d)) S
section
variable {X:Cx} {cl:ClW} {xe:Addr->Hp->Prop} {iter tgt:Expr} {pos:Pos} {fi:Env->M (Src×Nat)} {tg:D->Env->Option Env} {g:Env->M Fl} {body:List Stmt}
theorem sK (Y:PassesOwn (model X.prog X.w) X.A X.env X.xe) (hc:X.calm=true) (hi:PI X tgt iter (tIt X.K cl xe fi)) (hg:PG X tgt (uU X.K cl tg)) (hb:PSs X body (sD X.K cl xe g)) (hn:q5 iter=true) :
  PS X (.For tgt iter body [] pos) (sD X.K cl xe λρ=>bind (fi ρ) λp=>z0 p.1 tg g p.2 0 ρ):=PS.imp (xm Y hc hi hg hb (D0 hn)) λD σ H ⟨μ,S,ρ,T,rp,p⟩=>by
 refine ⟨μ,S,ρ,T,rp,p.bind.imp λsm S1 f A l1 r1 p1 J yl=>?_⟩;obtain ⟨src,m⟩:=sm;refine ⟨λi m σ H=>∃ μ2 S2 h,LatR f A μ2 H/\EnvOk X.K μ2 H h σ/\Rep X.K cl μ2 S2 H/\Post X.K cl xe μ2 H (z0 src tg g m i h S2) (λw _ μ' H'=>FlOk X.K D w μ' H'),⟨m,f,S1,ρ,(Lat.refl _ _).r,T.later l1,r1,p1⟩,?_⟩;rintro i m F I ⟨μ2,S2,h,s,u,U,j⟩;cases m with
 | zero=>exact j.elim
 | succ m=>
  have y:af X.K cl J i μ2 I S2 (src i S2):=yl i μ2 I S2 s.u U;simp only [z0] at j;cases O:src i S2 with
  | none=>rw [O] at j;exact j.elim
  | some o=>
   rw [O] at j y;cases o with
   | none=>exact .inl ⟨y,j μ2 I (Lat.refl _ _) U F u⟩
   | some d=>
    obtain ⟨y1,Z⟩:=y;cases L:tg d h with
    | none=>simp only [L] at j;exact j.elim
    | some t=>
     simp only [L] at j;refine .inr ⟨y1,λv H'=>∃ l P b,LatR f A l H'/\EnvOk X.K l H' b v/\Rep X.K cl l P H'/\Post X.K cl xe l H' (z0 src tg g m (i+1) b P) (λw _ μ' H'=>FlOk X.K D w μ' H'),λv H' q=>⟨m,Fn _,q⟩,λx H3 hy=>?_⟩;obtain ⟨M,V,E⟩:=Z x H3 hy;refine ⟨μ2,S2,h,d,t,u.later M,V,E,L,λσ3 K=>?_⟩;refine ⟨μ2,S2,t,K,V,(Post.later j M).bind.imp λw W c N l4 B C=>?_⟩;have R:LatR f A c N:=by
      have k:=M.trans l4;refine ⟨λn a e=>k.pre n a (s.pre n a e),λa o e n=>k.oth a o (s.oth a o e n) (λz=>(s.new a z).elim n (λq=>by rw [e] at q;cases q)),λa m=>(k.new a m).elim (λz=>s.new a z) (λz=>?_),λa m=>s.rsw a (by rw [<- k.rsv];exact m)⟩;by_cases Q:a∈f.pl
      ·exact .inl Q
      ·right
       cases e:A a with
       | none=>rfl
       | some o=>rw [s.oth a o e Q] at z;cases z
     cases w with
     | nx b=>exact λG r=>⟨c,W,b,R,r,B,C⟩
     | ct b=>exact λG r=>⟨c,W,b,R,r,B,C⟩
     | bk b=>exact C.ret c N (Lat.refl _ _) B
     | rt d=>exact C.ret c N (Lat.refl _ _) B
end
structure HLat (μ:Mp) (H:Hp) (p:Addr) (μ2:Mp) (H2:Hp):Prop where
 r:LatR μ H μ2 H2
 rs:μ2.rs=p :: μ.rs
theorem HLat.lat {H c H':Hp} {p:Addr} (h:HLat μ H p μ2 c) (l:Lat μ2 c μ' H'):Lat μ H μ'.free H':=by
 refine ⟨λn a e=>l.pre n a (h.r.pre n a e),λa o e n=>?_,λa m=>?_,by show μ'.rs.tail=μ.rs;rw [l.rsv,h.rs];rfl⟩
 ·have d:=λz=>(h.r.new a z).elim n λq=>by rw [e] at q;cases q
  exact l.oth a o (h.r.oth a o e n) d
 ·rcases l.new a m with q | q
  ·exact h.r.new a q
  ·by_cases b:a∈μ.pl
   ·exact .inl b
   ·right
    cases e:H a with
    | none=>rfl
    | some o=>rw [h.r.oth a o e b] at q;cases q
theorem HLat.step {H c b:Hp} {p:Addr} (h:HLat μ H p μ2 c) (l:Lat μ2 c μ3 b):HLat μ H p μ3 b:=by
 have k:=h.lat l;refine ⟨⟨k.pre,k.oth,k.new,λa m=>h.r.rsw a (by rw [<- l.rsv];exact m)⟩,by rw [l.rsv];exact h.rs⟩
section
variable {K:PySem.W.Frag} {cl:ClW} {xe:Addr->Hp->Prop} {α β:Type} {μ μ2:Mp} {H H2:Hp} {p:Addr} {S:Sto}
theorem Post.at {k:α->M β} {G:β->Sto->Mp->Hp->Prop} (h:Post K cl xe μ H (L3.bind m k S) G) (l:HLat μ H p μ2 H2):Post K cl xe μ2 H2 (m S) (λa S' _ _=>Post K cl xe μ H (k a S') G):=by
 unfold L3.bind at h;cases e:m S with
 | ok a S1=>rw [e] at h;exact λ_ _ _ _=>h
 | exn n S1=>rw [e] at h;exact λμ' H' a k r q=>h μ'.free H' a (l.lat k) (aH r) q
 | bad=>rw [e] at h;exact h
end
def m9 (src:Src) (t:Env->M Bool) (f:Env->M D) (mk:D->Env):Nat->Nat->List D->M (List D)
 | 0,_,_=>bad
 | m+1,i,es=>λS=>match src i S with
  | none=>.bad
  | some none=>.ok es S
  | some (some d)=>bind (t (mk d)) (λb=>if b=true then bind (f (mk d)) (λy=>if es.length<sizeLine then m9 src t f mk m (i+1) (es++[y]) else bad) else m9 src t f mk m (i+1) es) S
def A0 (caps:List Nat) (ρ:Env):Env:=caps.map λi=>(ρ[i]?).join
theorem P1 {K:PySem.W.Frag} {μ:Mp} {H:Hp} {ρ:Env} {σ:L2.St} {caps:List Nat} {d:D} {x:V} (eo:EnvOk K μ H ρ σ) (r:RD K μ H d x):EnvOk K μ H (some d :: A0 caps ρ) (some x :: w6 caps σ):=by
 refine ⟨by simp [A0,w6],λi e he=>?_⟩;cases i with
 | zero=>simp at he;subst he;exact ⟨x,rfl,r⟩
 | succ j=>
  have he:(A0 caps ρ)[j]?=some (some e):=he;unfold A0 at he;rw [Fq] at he;cases q:caps[j]? with
  | none=>rw [q] at he;cases he
  | some i=>
   rw [q] at he;have h':(ρ[i]?).join=some e:=Fc he;have h2:ρ[i]?=some (some e):=by
    cases q2:ρ[i]? with
    | none=>rw [q2] at h';cases h'
    | some o=>rw [q2] at h';exact congrArg some h'
   obtain ⟨v,e1,r1⟩:=eo.2 i e h2;refine ⟨v,?_,r1⟩;show (w6 caps σ)[j]?=_;unfold w6;rw [Fq,q];show some (σ[i]?).join=_;rw [e1];rfl
def hZ (caps:List Nat) (b:Env->M (Src×Nat)) (t:Env->M Bool) (f:Env->M D) (ρ:Env):M (List D):=bind (b ρ) λa=>m9 a.1 t f (λd=>some d :: A0 caps ρ) a.2 0 []
theorem aG {K:PySem.W.Frag} {cl:ClW} {xe:Addr->Hp->Prop} {caps:List Nat} {fi:Env->M (Src×Nat)} {t:Env->M Bool} {f:Env->M D} {σ:L2.St} {H:Hp} {μ:Mp} {S:Sto} {ρ:Env} {Q:VK} (eo:EnvOk K μ H ρ σ) (rp:Rep K cl μ S H)
  (p:Post K cl xe μ H (hZ caps fi t f ρ S) λds _ μ' H'=>∀ acc ys,LstAt μ' H' acc ys->RDs K μ' H' ds ys->Q (.ref acc) H'):iR caps (tIt K cl xe fi) (tBo K cl xe t) (tD K cl xe f) σ H Q:=by
 refine ⟨μ,S,ρ,eo,rp,p.bind.imp λsm S1 μ1 H1 l1 r1 p1 J yl acc hacc=>?_⟩;obtain ⟨src,m0⟩:=sm;have nrs:=r1.notrs hacc;refine ⟨λi m ys H2=>∃ μ2 S2 es,HLat μ1 H1 acc μ2 H2/\acc∉μ2.pl/\H2 acc=some (.lst ys)/\EnvOk K μ2 H2 ρ σ/\Rep K cl μ2 S2 H2/\RDs K μ2 H2 es ys/\Post K cl xe μ1 H1 (m9 src t f (λd=>some d :: A0 caps ρ) m i es S2) (λds _ μ' H'=>∀ acc ys,LstAt μ' H' acc ys->RDs K μ' H' ds ys->Q (.ref acc) H'),⟨m0,μ1.hold acc,S1,[],?_,r1.notin hacc,b6,J0 r1 hacc (eo.later l1),J1 r1 hacc,.nil,p1⟩,?_⟩
 ·refine ⟨⟨λ_ _ e=>e,λa o e _=>by rw [a7 (b9 e hacc)];exact e,λa m=>.inl m,λa m=>?_⟩,rfl⟩;rcases EU.mp (m) with rfl | m
  ·exact .inr hacc
  ·exact .inl m
 rintro i m ys H2 ⟨μ2,S2,es,hl,npl,e2,eo2,r2,rds2,p2⟩;refine ⟨e2,?_⟩;cases m with
 | zero=>exact p2.elim
 | succ m=>
  have y:af K cl J i μ2 H2 S2 (src i S2):=yl i μ2 H2 S2 hl.r.u r2;simp only [m9] at p2;cases e1:src i S2 with
  | none=>rw [e1] at p2;exact p2.elim
  | some o=>
   rw [e1] at p2 y;cases o with
   | none=>
    refine .inl ⟨y,p2 μ2.free H2 (hl.lat (Lat.refl _ _)) (aH r2) acc ys ⟨e2,npl,?_⟩ (eK rds2)⟩;show acc∉μ2.rs.tail;rw [hl.rs];exact nrs
   | some d=>
    obtain ⟨y1,y2⟩:=y;refine .inr ⟨y1,λx H3 hy=>?_⟩;obtain ⟨l3,r3,rd3⟩:=y2 x H3 hy;have h3:=hl.step l3;refine ⟨μ2,S2,_,P1 (eo2.later l3) rd3,r3,(Post.at p2 h3).imp λb S5 μ5 H5 l5 r5 p5=>?_⟩;have h5:=h3.step l5;have l35:=l3.trans l5;have a5:=l35.oth _ _ e2 npl;have n5:=l35.out e2 npl;cases b with
    | false=>exact ⟨m,Fn _,μ5,S5,es,h5,n5,a5,eo2.later l35,r5,rds2.later l35,p5⟩
    | true=>
     refine rq ?_;rw [if_pos rfl] at p5;refine ⟨μ5,S5,_,(P1 (eo2.later l3) rd3).later l5,r5,(Post.at p5 h5).imp λyv S6 μ6 H6 l6 r6 p6 v rv=>?_⟩;have h6:=h5.step l6;have l36:=l35.trans l6;have a6:=l6.oth _ _ a5 n5;have n6:=l6.out a5 n5;by_cases hz:es.length<sizeLine
     ·rw [if_pos hz] at p6;have er:=h6.rs;refine ⟨a6,by rw [<- rds2.length];exact hz,m,Fn _,μ6,S6,es++[yv],?_,n6,b6,?_,R3 er a6 r6,T6 er ((rds2.later l36).append (.cons rv .nil)),p6⟩
      ·refine ⟨⟨h6.r.pre,λa o e n=>?_,h6.r.new,h6.r.rsw⟩,er⟩;rw [a7 (b9 e hacc)];exact h6.r.oth a o e n
      ·have eo6:=eo2.later l36;exact ⟨eo6.1,λj e he=>let ⟨w,q,r⟩:=eo6.2 j e he;⟨w,q,aq er r⟩⟩
     ·rw [if_neg hz] at p6;exact p6.elim
section
variable {X:Cx} {cl:ClW} {xe:Addr->Hp->Prop} {elt iter:Expr} {x:Str} {px pos:Pos} {ifs:List Expr} {scope:Scope} {N':List Str} {caps:List Nat} {fi:Env->M (Src×Nat)} {t:Env->M Bool} {f:Env->M D}
theorem jf {X:Cx}:PTL X [] (tBo X.K cl xe λ_=>ret true):=λpins s σ H Q I ⟨μ,S,ρ,b,a,p⟩=>tW pins s σ H Q I (p μ H (Lat.refl _ _) a)
theorem dO (T:CompText X.N X.env N' 1 caps scope) (k:X.calm=true) (i:N'.Nodup) (b:N'[0]?=some x) (d:scope.names.lookup x=some .local) (h:PI X (.Name x px) iter (tIt X.K cl xe fi))
  (l:∀ pins C c s H,PTL (c9 X pins N' scope C c s H) ifs (tBo X.K cl xe t)) (e:∀ pins C c s H,PE (c9 X pins N' scope C c s H) elt (tD X.K cl xe f)) (g:q5 iter=true) :
  PE X (.ListComp elt [⟨.Name x px,iter,ifs,0⟩] scope pos) (λσ H Q=>∃ μ S ρ,EnvOk X.K μ H ρ σ/\Rep X.K cl μ S H/\Post X.K cl xe μ H (hZ caps fi t f ρ S) λds _ μ' H'=>∀ a ys,LstAt μ' H' a ys->RDs X.K μ' H' ds ys->Q (.ref a) H'):=
 PE.imp (hI T k i b d h l e (D0 g)) λσ H Q ⟨μ,S,ρ,m,j,p⟩=>aG m j p
end
def nW (K:PySem.W.Frag) (cl:ClW) (xe:Addr->Hp->Prop) (fs:Env->M (List D)):TE:=λσ H Q=>∃ μ S ρ,EnvOk K μ H ρ σ/\Rep K cl μ S H/\Post K cl xe μ H (fs ρ S) λds _ μ' H'=>∀ acc ys,LstAt μ' H' acc ys->RDs K μ' H' ds ys->Q (.ref acc) H'
end L3
namespace L2
open PySem PySem.Spec PyProof.Rows
section
variable {prog:Program} {w:World} {A:Around} {E:Value->Shared->Prop} {s:Shared}
theorem O6 {items} {x:Value} {Q:Value->Shared->Prop} (a:s.heap.IsTupleIter it l i)
  (h:s.heap.IsTuple l items) (e:items[i]?=some x)
  (g:∀ h',h'.IsTupleIter it l (i+1)->Heap.SameBut it s.heap h'->Q x { s with heap:=h' }) :
  wpAny (model prog w) A (Builtin.SmallTypes.nextOf (.ref it)) Q E s:=by
 obtain ⟨o,b,f,hd⟩:=id a;obtain ⟨j,c,_,k,d⟩:=h;refine Er (Gh a.typeIs F.slot_tuple_iterator_next
  (Hi F.slot_tuple_iterator_next a.typeIs F.entry_tuple_iterator_next ?_ (F.args_tuple_iterator_next_1 _)))
 show wpAny _ _ (field (.ref it) 0 >>= _) _ _ s;refine Er (FJ b hd (x:=.ref l) rfl ?_);rw [if_neg (show ¬ ((Value.ref l==Value.none)=true) from EH)];refine Er (FJ b hd rfl ?_);refine Er (wpAny_seqItems c d ?_);simp only [HE,e];refine Er (Ha b hd (by simp) (Eu ⟨x,rfl,Eu (g _ ?_ (Heap.SameBut.update ..))⟩));exact ⟨_,Fz _ b (Obj.isFreed_of_fields (Obj.data_mapFields hd _)),(Obj.cls_mapFields ..).trans f,by
  rw [Obj.data_mapFields hd];simp [rawInt]⟩
theorem T8 {items} {Q:Value->Shared->Prop} (f:A.handled=none)
  (a:s.heap.IsTupleIter it l i) (j:s.heap.IsTuple l items) (g:items[i]?=none)
  (h:∀ h' e,Heap.ExtBut it s.heap h'->(∃ o,h'.get? e=some o/\o.cls=.type "StopIteration")->E (.ref e) { s with heap:=h' }) :
  wpAny (model prog w) A (Builtin.SmallTypes.nextOf (.ref it)) Q E s:=by
 obtain ⟨o,c,k,hd⟩:=id a;obtain ⟨m,b,_,n,d⟩:=j;refine Er (Gh a.typeIs F.slot_tuple_iterator_next
  (Hi F.slot_tuple_iterator_next a.typeIs F.entry_tuple_iterator_next ?_ (F.args_tuple_iterator_next_1 _)))
 show wpAny _ _ (field (.ref it) 0 >>= _) _ _ s;refine Er (FJ c hd (x:=.ref l) rfl ?_);rw [if_neg (show ¬ ((Value.ref l==Value.none)=true) from EH)];refine Er (FJ c hd rfl ?_);refine Er (wpAny_seqItems b d ?_);simp only [HE,g];refine Er (wpAny_rule (Er (Ha c hd (by simp) ?_)));refine Er ?_;refine Er (Fs ?_ (by size_fits));refine Er (wpAny_of_eq (by first | rfl | (simp;rfl)) ?_);refine Fs ?_ (by size_fits);refine Er (wpAny_handled ?_);first | rw [f] | rw [f]
 refine Er (Eu (wpAny_throw ?_));exact h _ _ (((Heap.SameBut.update ..).extBut.push _).push _) ⟨_,ET _ rfl,rfl⟩
end
theorem pZ {h h':Heap} {a:Addr} {items:Array Value} (x:h.IsTuple a items) (k:∀ o,h.get? a=some o->h'.get? a=some o):h'.IsTuple a items:=let ⟨o,b,r⟩:=x;⟨o,k o b,r⟩
theorem mM (k:A.handled=none) (it l:Addr) (c:l≠it) (items:Array Value) :
  Draws prog w A it [it,l] items.size (λi v=>items[i]?=some v) (λi h=>h.IsTupleIter it l i/\h.IsTuple l items) where
 live:=λ_ _ st=>let ⟨o,b,_⟩:=st.1;⟨o,b⟩
 frame:=λ_ _ _ st f=>⟨(let ⟨o,b,r⟩:=st.1;⟨o,f it (by simp) o b,r⟩),pZ st.2 λo e=>f l (by simp) o e⟩
 item:=λi s Q E d st g=>by
  refine O6 st.1 st.2 (x:=items[i]) (by simp [d]) λh' a hs'=>?_;exact g _ h' s.toks (by simp [d]) ⟨a,st.2.extBut hs'.extBut c⟩ hs'
 done:=λs Q E st j=>T8 k st.1 st.2 (by simp) j
theorem dS (l:Addr) (items:Array Value) (n:Nat) (b:Option Addr) (i:Array (Option Value)) :
  Meets (Builtin.«enumerate.__new__» ⟨[.type "enumerate",.ref l],[]⟩) (λ_ R s=>s.heap.get? l=some { cls:=.type "tuple",dict:=b,data:=.seq items n,slots:=i } /\
   R (.ok (.ret (.ref (s.heap.push { cls:=.type "tuple_iterator",data:=.fields #[.ref l,.int 0 0] }).objs.size)))
    { s with heap:=(s.heap.push { cls:=.type "tuple_iterator",data:=.fields #[.ref l,.int 0 0] }).push { cls:=.type "enumerate",data:=.fields #[.none,.bool false,.ref s.heap.objs.size,rawInt 0,.none,.none] } }):=
 .of_wp λprog w A R s h=>by
  obtain ⟨j,g,d,k,m⟩:=s;obtain ⟨a,h⟩:=h;have f:=sub_enumerate;have e:Heap.IsTuple (Shared.heap ⟨j,g,d,k,m⟩) l items:=⟨_,a,rfl,n,rfl⟩
  wp_walk using AutoSeq1.wpAny_loadPart' a
  refine wpAny_stack_any λst=>Eu ?_;split
  ·rename_i c _ _ _ _ _;cases (c==Value.type "enumerate")
   ·wp_walk using AutoSeq1.wpAny_loadPart' a,Gn e
    exact ⟨_,rfl,h⟩
   ·wp_walk using AutoSeq1.wpAny_loadPart' a,Gn e
    exact ⟨_,rfl,h⟩
  ·wp_walk using AutoSeq1.wpAny_loadPart' a,Gn e
   exact ⟨_,rfl,h⟩
section
variable {prog:Program} {w:World} {A:Around} {E:Value->Shared->Prop} {s:Shared}
theorem fh (i:s.heap.IsTuple l items)
  (h:∀ h',IsEnum h' (s.heap.objs.size+1) s.heap.objs.size 0 .none->h'.IsTupleIter s.heap.objs.size l 0->h'.objs.size=s.heap.objs.size+2 ->
   (∀ b o,s.heap.get? b=some o->h'.get? b=some o)->Q (.ref (s.heap.objs.size+1)) { s with heap:=h' }) :
  wpAny (model prog w) A (call (.type "enumerate") [.ref l]) Q E s:=by
 obtain ⟨⟨c,d,j,g⟩,k,a,n,hd⟩:=i
 replace a:c=.type "tuple":=a
 replace hd:j=.seq items n:=hd
 subst a hd;refine callType_new F.called_enumerate (by decide) (F.typeCall_enumerate_1 _) (F.newCall_enumerate_1 _) (λe=>F.args_object_init_2 e _) F.entry_enumerate_new
  (dS l items n d g) ⟨k,?_⟩
 have hz:(s.heap.push { cls:=.type "tuple_iterator",data:=.fields #[.ref l,.int 0 0] }).objs.size=s.heap.objs.size+1:=Gj ..;rw [hz];have f:IsEnum ((s.heap.push { cls:=.type "tuple_iterator",data:=.fields #[.ref l,.int 0 0] }).push
   { cls:=.type "enumerate",data:=.fields #[.none,.bool false,.ref s.heap.objs.size,rawInt 0,.none,.none] }) (s.heap.objs.size+1) s.heap.objs.size 0 .none:=by
  have:=ET (s.heap.push { cls:=.type "tuple_iterator",data:=.fields #[.ref l,.int 0 0] })
   (o:={ cls:=.type "enumerate",data:=.fields #[.none,.bool false,.ref s.heap.objs.size,rawInt 0,.none,.none] }) rfl
  rw [hz] at this;exact this
 refine ⟨⟨_,f,rfl⟩,h _ f ⟨_,Ew _ (ET _ rfl),rfl,rfl⟩ (by rw [Gj,hz]) λb o x=>Ew _ (Ew _ x)⟩
end
section
variable {X:Cx} {pins:List (Addr×Obj)} {σ:St} {H:Hp} {s:Shared} {h':Heap}
theorem Inv.turned2 {t':Nat} {e it:Addr} (I:Inv X pins σ H s) (k:∀ b o,b≠e->b≠it->s.heap.get? b=some o->h'.get? b=some o) (f:J9 X pins H e) (g:J9 X pins H it):Inv X pins σ H { s with heap:=h',toks:=t' }:=by
 obtain ⟨a0,a1,a2,a3,a4,a5⟩:=f;obtain ⟨b0,b1,b2,b3,b4,b5⟩:=g;have nit:∀ b u,H b=some u->b≠e/\b≠it:=λb u q=>⟨λz=>(by rw [z,a0] at q;cases q),λz=>(by rw [z,b0] at q;cases q)⟩;have kk:∀ b o,b∉[e,it]->s.heap.get? b=some o->h'.get? b=some o:=λb o hb q=>k b o (λz=>hb (by simp [z])) (λz=>hb (by simp [z])) q;refine I.step (g':=s.gens) (d':=s.drawn) (ch:=[e,it]) (λb hb=>?_) (λb o _ _ hc q _=>kk b o hc q) (λb o _ _ hc q _=>⟨o.slots,kk b o hc q⟩) (λ_ _ _ _ n=>n)
  (λb o hc q=>⟨o,kk b o hc q⟩) (λ_ _ q=>q) (λ_ _ _ q=>q) (λb ps q=>⟨#[],by rw [q];simp⟩) (λm hm=>?_) (λb u q=>?_) I.bare
 ·have z:b=e\/b=it:=by simpa using hb
  rcases z with rfl | rfl
  ·exact ⟨a3,a1,a4,a5⟩
  ·exact ⟨b3,b1,b4,b5⟩
 ·obtain ⟨o,es,ep,ho,r⟩:=hm;exact ⟨o,es,ep,k _ o (Ne.symm a1) (Ne.symm b1) ho,r⟩
 ·refine (I.hok b u q).stay (λc v hc r=>?_) (λ_ r=>r) λ_ _ r=>r;rcases hc with z | z
  ·rw [z] at r ⊢;exact k b v (nit b u q).1 (nit b u q).2 r
  ·exact k c v (nit c _ z).1 (nit c _ z).2 r
end
def M1 (a:Hp->List V->Prop):It:=
 ⟨λi H=>∃ xs x,a H xs/\xs[i]?=some x,λi H x H'=>∃ p y,x=.ref p/\H p=none/\H'=upd H p (.tup [.int (i:Int),y])/\∀ xs,a H xs->xs[i]?=some y,λi H=>∃ xs,a H xs/\xs.length=i⟩
section
variable {P:Program} {w:World} {K:PySem.W.Frag} {elts:List Expr} {x1:Nat} {tp:Pos}
theorem bq {σ:St} {H:Hp} {s:Shared} {E:Value->Shared->Prop} {e it:Addr} {G:List Addr} {n i:Nat} {A:Nat->Value->Prop} {m:Nat->Heap->Prop} {j:Value} {y:V} {J:It} {tn:Nat->Heap->Prop}
  (I:Inv X pins σ H s) (g:∀ b∈[e,it],J9 X pins H b) (D:Draws X.prog X.w X.A.in1 it G n A m) (B:IsEnum s.heap e it i j) (c:m i s.heap) (k:i<n) (v:e≠it) (f:e∉G)
  (R:∀ u,A i u->RelV y u) (S:∀ h',(∃ o,IsEnum h' e it ((i:Int)+1) o)->m (i+1) h'->tn (i+1) h') (M:∀ p,H p=none->J.yld i H (.ref p) (upd H p (.tup [.int (i:Int),y]))) :
  wpAny (model X.prog X.w) X.A (pyNext (.ref e)) (λr Z=>∃ u,r=some u /\
   wpAny (model X.prog X.w) X.A (letOwnedTupleGo (.Tuple elts x1 tp) (.ref e) u) (λ_ F=>∃ x H',Inv X pins σ H' F/\RelV x u/\J.yld i H x H'/\tn (i+1) F.heap/\∀ b∈[e,it],H' b=none) E Z) E s:=by
 refine wpAny_pyNext_enum_itemD D B c k v f λu h' d O T hs' Q hsz hk=>?_;have C:=EK B;have w:it<s.heap.objs.size:=by obtain ⟨_,z⟩:=D.live _ _ c;exact EK z
 refine ⟨_,rfl,wpAny_letOwnedTupleGo_enum T λh2 t a=>?_⟩;have fr:=I.hok.fresh (EI _);have I1:Inv X pins σ (upd H s.heap.objs.size (.tup [.int (i:Int),y])) { s with heap:=s.heap.push { cls:=.type "tuple",data:=.seq #[.int i d,u] },toks:=d }:=
  I.laid (λb q z=>Ew _ z) (EI _) ⟨by rw [Fj];show 2<=16777216;omega,[.int i d,u],.cons ⟨d,rfl⟩ (.cons (R u O) .nil),⟨_,ET _ rfl,rfl,_,rfl,rfl⟩⟩
 have K:∀ b,J9 X pins H b->b<s.heap.objs.size->J9 X pins (upd H s.heap.objs.size (.tup [.int (i:Int),y])) b:=λb ⟨c0,Y,W,c3,U,c5⟩ N=>⟨by rw [a7 (EQ N)];exact c0,Y,W,c3,U,c5⟩;have P:=I1.turned2 (t':=d+1) (λb o h L z=>by
  have:=Heap.get?_push_cases z;rcases this with ⟨rfl,rfl⟩ | z1
  ·exact (a.2 _ h).trans Q
  ·exact (a.2 b h).trans (hk b o h L z1)) (K e (g e (by simp)) C) (K it (g it (by simp)) w)
 refine ⟨.ref s.heap.objs.size,_,P,rfl,M _ fr,S _ ⟨_,t⟩ (D.frame _ _ _ hs' λb l o z=>(a.2 b λq=>f (q▸l)).trans z),λb l=>?_⟩;have z:b=e\/b=it:=by simpa using l
 rcases z with rfl | rfl
 ·rw [a7 (EQ C)];exact (g _ (by simp)).1
 ·rw [a7 (EQ w)];exact (g _ (by simp)).1
end
section
variable {P:Program} {w:World} {K:PySem.W.Frag} {elts:List Expr} {x1:Nat} {tp:Pos}
theorem kS {h:Heap} {e it:Addr} {i:Int} {a:Value} (z:IsEnum h e it i a):∃ o,h.get? e=some o/\∀ v,o.data≠.cell v:=by grind
theorem iH {H:Hp} {p:Addr} {y:V} (h:H p=none) (k:∀ xs,Sq H xs->xs[i]?=some y):(M1 Sq).yld i H (.ref p) (upd H p (.tup [.int (i:Int),y])):=by
 show ∃ a b,V.ref p=.ref a/\H a=none/\upd H p (.tup [.int (i:Int),y])=upd H a (.tup [.int (i:Int),b])/\∀ xs,Sq H xs->xs[i]?=some b;grind
theorem gV (a e it:Addr) (hne:e≠it):Turn P w K (.Tuple elts x1 tp) (M1 λH xs=>SqL K H a xs) [e,it] e (λi h=>(∃ old,IsEnum h e it ((i:Nat):Int) old)/\h.IsListIter it a i) where
 mem:=by simp
 obj:=λi h st b hb=>by
  have z:b=e\/b=it:=by simpa using hb
  rcases z with rfl | rfl
  ·obtain ⟨old,q⟩:=st.1;exact kS q
  ·obtain ⟨o,q,c,d⟩:=st.2;exact ⟨o,q,λv z=>by rw [d] at z;cases z⟩
 keep:=λi h h' st k=>⟨(let ⟨old,q⟩:=st.1;⟨old,k e (by simp) _ q⟩),st.2.at λo q=>k it (by simp) o q⟩
 item:=by
  intro X hP hw hK hc i pins s σ H E I hf st hg;subst hP hw hK;obtain ⟨xs,x,hq,hx⟩:=hg;obtain ⟨its,rv,p,hz⟩:=I.list hq;obtain ⟨u,hu,ru⟩:=rv.get hx;obtain ⟨⟨old,he⟩,hit⟩:=st;have nit:a≠it:=λz=>by
   obtain ⟨o,q,c,_⟩:=hit;obtain ⟨o2,q2,c2,_⟩:=p.isList;rw [z,q] at q2;cases q2;rw [c] at c2;exact absurd c2 (by decide)
  have nea:e≠a:=λz=>by
   obtain ⟨o2,q2,c2,_⟩:=p.isList;rw [<- z,he] at q2;cases q2;exact absurd (show Value.type "enumerate" = Value.type "list" from c2) (by decide)
  have hlt:i<its.toArray.size:=by
   have:=(Et.mp hu).1;simpa using this
  refine bq (y:=x) (J:=M1 λH xs=>SqL X.K H a xs) (tn:=λi h=>(∃ old,IsEnum h e it ((i:Nat):Int) old)/\h.IsListIter it a i) I hf (Draws.list (show X.A.in1.handled=none from I.ok.hd hc) it a nit its.toArray) he ⟨hit,p.isList⟩ hlt hne (by simp [hne,nea]) (λv hv=>?_) (λh' ho hs=>⟨?_,hs.1⟩) λq hq2=>iH hq2 (λys hy=>by rw [I.list_inj hy hq];exact hx)
  ·have hv':its[i]?=some v:=by simpa using hv
   rw [hu] at hv';cases hv';exact ru
  ·obtain ⟨o,q⟩:=ho;exact ⟨o,by rw [show ((i+1:Nat):Int)=(i:Int)+1 from rfl];exact q⟩
 done:=by
  intro X hP hw hK hc i pins s σ H E I hf st hg;subst hP hw hK;obtain ⟨xs,hq,hx⟩:=hg;obtain ⟨its,rv,p,hz⟩:=I.list hq;obtain ⟨⟨old,he⟩,hit⟩:=st;have hl:=rv.length;have nit:a≠it:=λz=>by
   obtain ⟨o,q,c,_⟩:=hit;obtain ⟨o2,q2,c2,_⟩:=p.isList;rw [z,q] at q2;cases q2;rw [c] at c2;exact absurd c2 (by decide)
  have en:i=its.toArray.size:=by simp;omega
  obtain ⟨f0,f1,f2,f3,f4,f5⟩:=hf it (by simp);exact wpAny_pyNext_enum_endD (Draws.list (show X.A.in1.handled=none from I.ok.hd hc) it a nit its.toArray) he ⟨en▸hit,p.isList⟩ λh' eb=>⟨rfl,I.turned (t':=s.toks) (λb o hb q=>eb b o hb q) f0 f1 f3 f4 f5⟩
 self:=λ_ _ _ _ _ st h=>by
  obtain ⟨⟨old,he⟩,_⟩:=st;exact Hc he h
theorem fy (a e it:Addr) (t:e≠it):Turn P w K (.Tuple elts x1 tp) (M1 λH xs=>SqT K H a xs) [e,it] e (λi h=>(∃ f,IsEnum h e it ((i:Nat):Int) f)/\h.IsTupleIter it a i) where
 mem:=by simp
 obj:=λi h st b J=>by
  have z:b=e\/b=it:=by simpa using J
  rcases z with rfl | rfl
  ·grind
  ·obtain ⟨o,q,c,d⟩:=st.2;exact ⟨o,q,λv z=>by rw [d] at z;cases z⟩
 keep:=λi h h' st k=>⟨(let ⟨f,q⟩:=st.1;⟨f,k e (by simp) _ q⟩),st.2.at λo q=>k it (by simp) o q⟩
 item:=by
  intro X L F O N i pins s σ H E I C st B;subst L F O;obtain ⟨xs,x,y,D⟩:=B;obtain ⟨j,G,p,hz⟩:=I.tuple y;have pt:=p;obtain ⟨u,Y,ru⟩:=G.get D;obtain ⟨⟨f,r⟩,g⟩:=st;have n:a≠it:=λz=>by
   obtain ⟨o,q,c,_⟩:=g;obtain ⟨R,l,m,_⟩:=pt;rw [z,q] at l;cases l;rw [c] at m;exact absurd m (by decide)
  have Q:e≠a:=λz=>by
   obtain ⟨R,l,m,_⟩:=pt;rw [<- z,r] at l;cases l;exact absurd (show Value.type "enumerate" = Value.type "tuple" from m) (by decide)
  have M:i<j.toArray.size:=by
   have:=(Et.mp Y).1;simpa using this
  refine bq (tn:=λi h=>(∃ f,IsEnum h e it ((i:Nat):Int) f)/\h.IsTupleIter it a i) I C (mM (show X.A.in1.handled=none from I.ok.hd N) it a n j.toArray) r ⟨g,pt⟩ M t (by simp [t,Q]) (λv hv=>?_) (λh' ho hs=>⟨?_,hs.1⟩) λq A=>iH A (λys V=>by rw [I.tuple_inj V y];exact D)
  ·grind
  ·grind
 done:=by
  intro X L F O N i pins s σ H E I C st B;subst L F O;obtain ⟨xs,y,D⟩:=B;obtain ⟨j,G,p,hz⟩:=I.tuple y;have pt:=p;obtain ⟨⟨f,r⟩,g⟩:=st;have hl:=G.length;have n:a≠it:=λz=>by
   obtain ⟨o,q,c,_⟩:=g;obtain ⟨R,l,m,_⟩:=pt;rw [z,q] at l;cases l;rw [c] at m;exact absurd m (by decide)
  have S:i=j.toArray.size:=by simp;omega
  obtain ⟨T,U,f2,f3,f4,W⟩:=C it (by simp);exact wpAny_pyNext_enum_endD (mM (show X.A.in1.handled=none from I.ok.hd N) it a n j.toArray) r ⟨S▸g,pt⟩ λh' Z=>⟨rfl,I.turned (λb o J q=>Z b o J q) T U f3 f4 W⟩
 self:=λ_ _ _ _ _ st h=>by
  obtain ⟨⟨f,r⟩,_⟩:=st;exact Hc r h
end
section
variable {X:Cx} {elts:List Expr} {x1:Nat} {tp:Pos}
theorem ki:bootBuiltins "enumerate" = some (.type "enumerate"):=by decide +kernel
theorem sI (u:Gl X "enumerate") (x:X.mg "enumerate" = none) (w:PA X [l] ta) (hs:starEach [l] X.env=[(false,eval l X.env)]) :
  PI X (.Tuple elts x1 tp) (.Call (.Name "enumerate" p) [l] [] pos) (λσ H R=>ta σ H λvs f=>∃ a,vs=[.ref a]/\(((∃ xs,SqL X.K f a xs)/\R (M1 λH xs=>SqL X.K H a xs) f)\/((∃ xs,SqT X.K f a xs)/\R (M1 λH xs=>SqT X.K H a xs) f))):=by
 intro pins s σ H R I h;refine Call_ (T0 I u x ki (Gs (thn (w pos pins s σ H _ I h) λus c ⟨vs,f,d,A,n⟩=>?_) hs rfl));obtain ⟨a,e,n⟩:=n;subst e;cases A with
 | cons r y=>
  cases y;cases r;have o:∀ h':Heap,h'.objs.size=c.heap.objs.size+2->∀ b∈[c.heap.objs.size+1,c.heap.objs.size],J9 X pins f b:=λh' _ b v=>by
   have z:b=c.heap.objs.size+1\/b=c.heap.objs.size:=by simpa using v
   rcases z with rfl | rfl
   ·exact d.fpOk (FV _) (d.hok.fresh (FV _))
   ·exact d.fpOk (EI _) (d.hok.fresh (EI _))
  rcases n with ⟨⟨xs,k⟩,q⟩ | ⟨⟨xs,k⟩,q⟩
  ·obtain ⟨m,t,p,hz⟩:=d.list k;refine call_enumerate_list p.isList λh' g j hsz i=>?_;exact Hc g ⟨_,[c.heap.objs.size+1,c.heap.objs.size],_,_,f,rfl,d.kept i,gV a _ _ (HL _),⟨⟨_,g⟩,j⟩,o h' hsz,q⟩
  ·obtain ⟨m,t,p,hz⟩:=d.tuple k;refine fh (p) λh' g j hsz i=>?_;exact Hc g ⟨_,[c.heap.objs.size+1,c.heap.objs.size],_,_,f,rfl,d.kept i,fy a _ _ (HL _),⟨⟨_,g⟩,j⟩,o h' hsz,q⟩
end
end L2
namespace L3
open PySem PySem.Spec PyProof.Rows L2
def O4 (ds:List D):Src:=λi _=>match ds[i]? with
 | some d=>some (some (.tup [.int (i:Int),d]))
 | none=>if i=ds.length then some none else none
def eA (d:D):M (Src×Nat):=match d with
 | .tup ds=>ret (O4 ds,ds.length+1)
 | .lst ds=>ret (O4 ds,ds.length+1)
 | .scr ds=>ret (O4 ds,ds.length+1)
 | _=>bad
section
variable {K:PySem.W.Frag} {cl:ClW} {μ:Mp} {H:Hp}
theorem vZ {ds:List D} (j:∀ μ2 a S2,LatU μ H μ2 a->Rep K cl μ2 S2 a->Sq a xs) (r:RDs K μ H ds xs):Yl K cl (M1 Sq) μ H (O4 ds):=λi μ2 a S2 l f=>by
 have b:=j μ2 a S2 l f;have h:=r.laterU l;show af K cl (M1 Sq) i μ2 a S2 (match ds[i]? with
  | some d=>some (some (.tup [.int (i:Int),d]))
  | none=>if i=ds.length then some none else none)
 cases e:ds[i]? with
 | none=>
  by_cases q:i=ds.length
  ·rw [if_pos q];exact ⟨xs,b,by rw [<- r.length];exact q.symm⟩
  ·rw [if_neg q];exact trivial
 | some d=>
  obtain ⟨v,c,k⟩:=h.get e;refine ⟨⟨xs,v,b,c⟩,λx m z=>?_⟩;obtain ⟨p,y,rfl,g,rfl,q⟩:=z;have:=q xs b;rw [c] at this;cases this;exact K3 f (.cons (.int _) (.cons k .nil)) g
theorem xW (h:TupAt K μ H a xs) (r:RDs K μ H ds xs):Yl K cl (M1 λH xs=>SqT K H a xs) μ H (O4 ds):=vZ (λμ2 i S2 l j=>by
 rcases h with ⟨q,n1,n2⟩ | q
 ·rcases q with q | ⟨o,q⟩
  ·exact .inl (.inl (l.oth _ _ q n1 n2))
  ·exact .inl (.inr ⟨o,l.oth _ _ q n1 n2⟩)
 ·obtain ⟨o,b,n,f,g,c,d,e,_⟩:=q;exact .inr ⟨o,b,n,f,g,c,d,e⟩) r
theorem mT (h:LstAt μ H a xs\/ScrAt K μ H a xs) (r:RDs K μ H ds xs):Yl K cl (M1 λH xs=>SqL K H a xs) μ H (O4 ds):=vZ (λμ2 c S2 l b=>by
 rcases h with ⟨q,n1,n2⟩ | ⟨q,n1,n2⟩ | q
 ·exact .inl (.inl (l.oth _ _ q n1 n2))
 ·rcases q with q | ⟨o,q⟩
  ·exact .inl (.inl (l.oth _ _ q n1 n2))
  ·exact .inl (.inr ⟨o,l.oth _ _ q n1 n2⟩)
 ·exact .inr q) r
end
section
variable {X:Cx} {cl:ClW} {xe:Addr->Hp->Prop} {elts:List Expr} {x1:Nat} {tp p pos:Pos}
theorem oX (hg:Gl X "enumerate") (hm:X.mg "enumerate" = none) (ha:PA X [a] (tDs X.K cl xe fs)) (hs:noStar a=true) :
  PI X (.Tuple elts x1 tp) (.Call (.Name "enumerate" p) [a] [] pos) (tIt X.K cl xe λρ=>bind (fs ρ) λds=>match ds with
   | [d]=>eA d
   | _=>bad):=
 PI.imp (sI hg hm ha (d9 hs)) λσ H R ⟨μ,S,ρ,eo,rp,P⟩=>⟨μ,S,ρ,eo,rp,P.bind.imp λds S1 μ1 H1 l1 r1 p1 vs rvs=>by
  cases rvs with
  | nil=>exact False.elim p1
  | cons h t=>
   cases t with
   | cons _ _=>exact False.elim p1
   | nil=>
    cases h with
    | tup h r=>exact ⟨_,rfl,.inr ⟨⟨_,h.sq⟩,p1.ret μ1 H1 (Lat.refl _ _) r1 _ (xW h r)⟩⟩
    | lst h r=>exact ⟨_,rfl,.inl ⟨⟨_,h.sq⟩,p1.ret μ1 H1 (Lat.refl _ _) r1 _ (mT (.inl h) r)⟩⟩
    | scr h r=>exact ⟨_,rfl,.inl ⟨⟨_,h.sq⟩,p1.ret μ1 H1 (Lat.refl _ _) r1 _ (mT (.inr h) r)⟩⟩
    | _=>exact False.elim p1⟩
end
end L3
namespace L2
open PySem PySem.Spec PyProof.Rows
section
variable {prog:Program} {w:World} {A:Around} {s:Shared} {R:Result->Shared->Prop}
theorem dI {B b y:Expr} {ifs:List Expr} {p:Scope} {pos:Pos} {it C:Value} {a:PySem.Env} (I:Nat->Shared->Prop)
  (D:∀ n s,I n s->wpAny (model prog w) A (pyNext it) (λr f=>match r with
   | none=>R (.ok .next) f
   | some v=>wpAny (model prog w) A (letOwnedTupleGo b it v) (λ_ g=>wpAny (model prog w) A (assign b a v) (λ_ j=>
     wpAny (model prog w) A (forIn ifs true λc r=>if r=true then do let t <- isTrue c a (eval c a);pure (ForInStep.yield t) else pure (ForInStep.yield r)) (λt d=>
      if t=true then wpAny (model prog w) A (eval B a) (λx i=>
       wpAny (model prog w) A (call (.builtin "list.append") [C,x]) (λ_ l=>∃ m,m<n/\I m l) (notedBy (model prog w) A a λe s'=>R (.error e) s') i) (notedBy (model prog w) A a λe s'=>R (.error e) s') d
      else ∃ m,m<n/\I m d) (notedBy (model prog w) A a λe s'=>R (.error e) s') j) (notedBy (model prog w) A a λe s'=>R (.error e) s') g) (notedBy (model prog w) A a λe s'=>R (.error e) s') f) (notedBy (model prog w) A a λe s'=>R (.error e) s') s)
  (n:Nat) (h:I n s):codeAny (model prog w) A (.compLoop (.ListComp B [⟨b,y,ifs,0⟩] p pos) 0 it C a) R s:=by
 refine codeAny_loop rfl I (λn s E=>?_) n h;refine wpAny_noted ?_;rw [compTurn_list];refine Er (GJ (Er (Fo (D n s E) (λr f o=>?_) λ_ _ h'=>h')));cases r with
 | none=>exact Eu o
 | some v=>
  refine Er (Fo o (λ_ g h₀=>?_) λ_ _ h'=>h');refine Er (Fo h₀ (λ_ j u=>Er (Fo u (λt d k=>?_) λ_ _ h'=>h')) λ_ _ h'=>h');cases t with
  | false=>exact Eu ⟨rfl,k⟩
  | true=>
   exact Er (Er (Fo k (λx i q=>Er (Fo q (λ_ l z=>Eu (Eu ⟨rfl,z⟩)) λ_ _ h'=>h')) λ_ _ h'=>h'))
end
def me (k:Nat) (caps:List Nat) (n:TI) (f:TG) (p:TT) (te:TE):TE:=λσ H Q=>n σ H λJ g=>∀ a,g a=none->∃ W:Nat->Nat->List V->Hp->Prop,(∃ m,W 0 m [] (upd g a (.lst []))) /\
 ∀ i m ys e,W i m ys e->e a=some (.lst ys)/\((J.stop i e/\Q (.ref a) e)\/(J.go i e/\∀ x l,J.yld i e x l->f x (List.replicate k none++w6 caps σ) l λd o=>∃ c:List (Option V),c.length=k/\d=c++w6 caps σ/\p d o λb h=>
  if b=true then te d h λy j=>j a=some (.lst ys)/\ys.length<sizeLine/\∃ m',m'<m/\W (i+1) m' (ys++[y]) (upd j a (.lst (ys++[y])))
  else ∃ m',m'<m/\W (i+1) m' ys h))
theorem lE {X:Cx} {elt iter tg:Expr} {k:Nat} {tgp:TG} {ifs:List Expr} {scope:Scope} {pos:Pos} {N':List Str} {caps:List Nat} {wi:TI} {tc:TT} {te:TE}
  (T:CompText X.N X.env N' k caps scope) (hc:X.calm=true) (hg:∀ pins C fp s H,PG (c9 X pins N' scope C fp s H) tg tgp) (hi:PI X tg iter wi)
  (ht:∀ pins C fp s H,PTL (c9 X pins N' scope C fp s H) ifs tc) (he:∀ pins C fp s H,PE (c9 X pins N' scope C fp s H) elt te)
  (hs:∀ x,foldedSetIterable iter X.env x=pure x:=by intro _;rfl):PE X (.ListComp elt [⟨tg,iter,ifs,0⟩] scope pos) (me k caps wi tgp tc te):=by
 intro pins s σ H Q I h;have fr:∀ x∈scope.names,x.2=NameKind.free->∃ c,X.env.cells.lookup x.1=some c:=λx hx hk=>I.ok.has x.1 (T.free x hx hk).2;rw [eval_ListComp];refine GM (use:=none) rfl hs (B2 fr) T.kind T.loc ?_;refine thn (hi pins s σ H _ I h) λv s1 h1=>thn h1 λitv s2 h2=>?_;obtain ⟨it,fp,tn,J,H2,rfl,I2,Tn,st2,f2,h2⟩:=h2;obtain ⟨W,⟨m0,w0⟩,turn⟩:=h2 s2.heap.objs.size (I2.hok.fresh (EI _));have hlt:∀ b∈fp,b<s2.heap.objs.size:=λb hb=>let ⟨o,e,_⟩:=Tn.obj _ _ st2 b hb;EK e
 refine Fs (Ho T.cell (by intro y hy;simp at hy) (λh₁ hns₁ hsb₁=>?_) T.kind);dsimp only at hns₁ hsb₁ ⊢;have hC:(s2.heap.push { cls:=.type "list",dict:=none,data:=.seq ([]:List Value).toArray }).objs.size=s2.heap.objs.size+1:=Gj ..;rw [hC] at hns₁ hsb₁;have old:∀ b o,s2.heap.get? b=some o->h₁.get? b=some o:=λb o e=>hsb₁.extBut b o (EQ (FM (EK e))) (Ew _ (Ew _ e));have hacc:h₁.get? s2.heap.objs.size=some { cls:=.type "list",data:=.seq #[] }:=hsb₁.extBut _ _ (EQ (Fn _)) (Ew _ (ET _ rfl));have hst₁:tn 0 h₁:=Tn.keep _ _ _ st2 λb _ o e=>old b o e;have I3:=O3 (t:=s2.toks+([]:List (Str×Value)).length) T I2 f2 hlt hns₁ old hacc;have stat:∀ {H':Hp},(∀ b∈fp,H' b=none)->∀ b∈fp,J9 (c9 X pins N' scope (s2.heap.objs.size+1) fp s2 H2) [] H' b:=λhn b hb=>by
  refine ⟨hn b hb,(I3.ok.exf b hb).1,I3.ok.exfs b hb,.inl hb,(I3.ok.exf b hb).2,λp hp=>?_⟩;have hp':p∈X.pn++pins:=by
   have:p∈(X.pn++pins)++[]:=hp;rwa [Fm] at this
  exact (f2 b hb).2.2.2.2.2 p hp'
 have loop:∀ s3:Shared,s3={ s2 with heap:=h₁,toks:=s2.toks+([]:List (Str×Value)).length } ->
   codeAny (model X.prog X.w) X.A (.compLoop (.ListComp elt [⟨tg,iter,ifs,0⟩] scope pos) 0 (.ref it) (.ref s2.heap.objs.size) (compEnvC scope (R5 X.env.cells scope.names) (s2.heap.objs.size+1) X.env))
    (compPost (model X.prog X.w) X.A X.xe none (EP X pins σ Q) (.ref s2.heap.objs.size) (s2.heap.objs.size+1)) s3:=by
  rintro s3 rfl;refine dI (λn s'=>∃ i ys H',Inv (c9 X pins N' scope (s2.heap.objs.size+1) fp s2 H2) [] (List.replicate k none++w6 caps σ) H' s'/\tn i s'.heap/\(∀ b∈fp,H' b=none)/\W i n ys H') ?_ m0
   ⟨0,[],_,I3,hst₁,λb hb=>by rw [a7 (EQ (hlt b hb))];exact (f2 b hb).1,w0⟩
  rintro n s4 ⟨i,ys,H4,I4,st4,fr4,w4⟩;obtain ⟨hacc4,turn4⟩:=turn i n ys H4 w4;refine f6 ?_;rcases turn4 with ⟨stop,q⟩ | ⟨go,step⟩
  ·refine thn (Tn.done (c9 X pins N' scope (s2.heap.objs.size+1) fp s2 H2) rfl rfl rfl hc i [] s4 _ H4 (λ_ _=>False) I4 (stat fr4) st4 stop) λr s5 ⟨hr,I5⟩=>?_;subst hr;obtain ⟨m5,hn5,_⟩:=id I5.loc;refine ⟨m5,hn5,λh' hs'=>?_⟩;refine ⟨.ref s2.heap.objs.size,H4,?_,rfl,q⟩;refine I2.call' (ch:=fp) (s':={ s5 with heap:=h' }) I5.os (Un.sameBut I5.base hs' (FV _)) (I5.hok.sameBut I5.free hs') I5.bare λb hb=>?_;have:=f2 b hb;exact ⟨this.2.2.2.1,this.2.1,this.2.2.2.2.1,this.2.2.2.2.2⟩
  ·refine thn (Tn.item (c9 X pins N' scope (s2.heap.objs.size+1) fp s2 H2) rfl rfl rfl hc i [] s4 _ H4 (λ_ _=>False) I4 (stat fr4) st4 go) λr s5 ⟨u,hr,h5⟩=>?_;subst hr;dsimp only;refine f6 (thn h5 λ_ s6 ⟨xv,H6,I6,r6,y6,st6,fr6⟩=>?_);have I6':=I6.pinned (stat fr6) (Tn.obj _ _ st6);refine f6 (thn (hg pins _ fp s2 H2 _ s6 _ H6 xv u _ I6' r6 (step xv _ y6)) λ_ s7 ⟨σ7,H7,I7,vals,hv,e7,q7⟩=>?_);subst e7;have back:∀ {σ8:St} {H8:Hp} {s8:Shared},Inv (c9 X pins N' scope (s2.heap.objs.size+1) fp s2 H2) ([]++B3 fp s6.heap) σ8 H8 s8->tn (i+1) s8.heap/\∀ b∈fp,H8 b=none:=λ{σ8 H8 s8} I8=>by
    refine ⟨Tn.keep _ _ _ st6 λb hb o e=>(I8.pin (b,o) (ES _ (ES _ (l9 hb e)))).1,λb hb=>?_⟩;obtain ⟨o,e,d⟩:=Tn.obj _ _ st6 b hb;exact (I8.pin (b,o) (ES _ (ES _ (l9 hb e)))).2.1
   refine f6 (thn (ht pins _ fp s2 H2 _ s7 _ _ _ I7 q7) λb s8 ⟨H8,I8,q8⟩=>?_);have wk:∀ {H9:Hp} {s9:Shared},Inv (c9 X pins N' scope (s2.heap.objs.size+1) fp s2 H2) ([]++B3 fp s6.heap) (vals++w6 caps σ) H9 s9->Inv (c9 X pins N' scope (s2.heap.objs.size+1) fp s2 H2) [] (List.replicate k none++w6 caps σ) H9 s9:=λ{H9 s9} I9=>
    I9.unpinned.weak (by simp [hv]) λj v e=>by
     by_cases hj:j<k
     ·rw [EJ (by simpa using hj),FK,if_pos hj] at e;cases e
     ·rw [Fp (by simpa using hj)] at e;rw [Fp (by omega),hv];simpa using e
   cases b with
   | false=>
    obtain ⟨m',hm,w'⟩:=q8;exact ⟨m',hm,i+1,ys,H8,wk I8,(back I8).1,(back I8).2,w'⟩
   | true=>
    refine f6 (thn (he pins _ fp s2 H2 _ s8 _ H8 _ I8 q8) λz s9 ⟨y,H9,I9,r9,hacc9,hl9,m',hm,w'⟩=>?_);refine f6 (thn (K2 (X:=c9 X pins N' scope (s2.heap.objs.size+1) fp s2 H2) _ s9 _ H9 (.ref s2.heap.objs.size) [y] (.ref s2.heap.objs.size) [z] (λ_ H'=>H'=upd H9 s2.heap.objs.size (.lst (ys++[y]))) I9 rfl (.cons r9 .nil) ⟨_,ys,y,rfl,rfl,hacc9,hl9,rfl⟩) λ_ s10 ⟨_,H10,I10,_,e10⟩=>?_);subst e10;exact ⟨m',hm,i+1,ys++[y],_,wk I10,(back I10).1,(back I10).2,w'⟩
 have fin:=GY (loop _ rfl) (Tn.self _ 0 _ _ _ hst₁ (loop _ rfl));rw [<- hC] at fin;exact fin
end L2
namespace L3
open PySem PySem.Spec PyProof.Rows L2
def mk2 (c:Env) (d:D):Env:=match d with
 | .tup [a,b]=>some a :: some b :: c
 | _=>[]
def qZ (t:Env->M Bool) (ρ:Env):M Bool:=match ρ with
 | []=>bad
 | o :: ρ=>t (o :: ρ)
def cQ (caps:List Nat) (b:Env->M (Src×Nat)) (t:Env->M Bool) (f:Env->M D) (ρ:Env):M (List D):=bind (b ρ) λa=>m9 a.1 (qZ t) f (mk2 (A0 caps ρ)) a.2 0 []
theorem oA {K:PySem.W.Frag} {μ:Mp} {H:Hp} {ρ:Env} {σ:L2.St} {d:D} {x:V} (a:EnvOk K μ H ρ σ) (r:RD K μ H d x):EnvOk K μ H (some d :: ρ) (some x :: σ):=by
 refine ⟨by simp [a.1],λi e b=>?_⟩;cases i with
 | zero=>grind
 | succ j=>exact a.2 j e b
def Dx:TGs:=pW (bM 0) (pW (bM 1) gNil)
theorem fI {K:PySem.W.Frag} {cl:ClW} {xe:Addr->Hp->Prop} {caps:List Nat} {fi:Env->M (Src×Nat)} {t:Env->M Bool} {f:Env->M D} {σ:L2.St} {H:Hp} {μ:Mp} {S:Sto} {ρ:Env} {Q:VK} (eo:EnvOk K μ H ρ σ) (rp:Rep K cl μ S H)
  (p:Post K cl xe μ H (cQ caps fi t f ρ S) λds _ μ' H'=>∀ acc ys,LstAt μ' H' acc ys->RDs K μ' H' ds ys->Q (.ref acc) H'):me 2 caps (tIt K cl xe fi) (AD K 2 Dx) (tBo K cl xe t) (tD K cl xe f) σ H Q:=by
 refine ⟨μ,S,ρ,eo,rp,p.bind.imp λsm S1 μ1 H1 l1 r1 p1 J yl acc hacc=>?_⟩;obtain ⟨src,m0⟩:=sm;have nrs:=r1.notrs hacc;refine ⟨λi m ys H2=>∃ μ2 S2 es,HLat μ1 H1 acc μ2 H2/\acc∉μ2.pl/\H2 acc=some (.lst ys)/\EnvOk K μ2 H2 ρ σ/\Rep K cl μ2 S2 H2/\RDs K μ2 H2 es ys/\Post K cl xe μ1 H1 (m9 src (qZ t) f (mk2 (A0 caps ρ)) m i es S2) (λds _ μ' H'=>∀ acc ys,LstAt μ' H' acc ys->RDs K μ' H' ds ys->Q (.ref acc) H'),⟨m0,μ1.hold acc,S1,[],?_,r1.notin hacc,b6,J0 r1 hacc (eo.later l1),J1 r1 hacc,.nil,p1⟩,?_⟩
 ·refine ⟨⟨λ_ _ e=>e,λa o e _=>by rw [a7 (b9 e hacc)];exact e,λa m=>.inl m,λa m=>?_⟩,rfl⟩;rcases EU.mp (m) with rfl | m
  ·exact .inr hacc
  ·exact .inl m
 rintro i m ys H2 ⟨μ2,S2,es,hl,npl,e2,eo2,r2,rds2,p2⟩;refine ⟨e2,?_⟩;cases m with
 | zero=>exact p2.elim
 | succ m=>
  have y:af K cl J i μ2 H2 S2 (src i S2):=yl i μ2 H2 S2 hl.r.u r2;simp only [m9] at p2;cases e1:src i S2 with
  | none=>rw [e1] at p2;exact p2.elim
  | some o=>
   rw [e1] at p2 y;cases o with
   | none=>
    refine .inl ⟨y,p2 μ2.free H2 (hl.lat (Lat.refl _ _)) (aH r2) acc ys ⟨e2,npl,?_⟩ (eK rds2)⟩;show acc∉μ2.rs.tail;rw [hl.rs];exact nrs
   | some d=>
    obtain ⟨y1,y2⟩:=y;refine .inr ⟨y1,λx H3 hy=>?_⟩;obtain ⟨l3,r3,rd3⟩:=y2 x H3 hy;have h3:=hl.step l3;cases rd3 with
    | tup ht rs=>
     cases rs with
     | nil=>exact False.elim p2
     | cons ra rs=>
      cases rs with
      | nil=>exact False.elim p2
      | cons rb rs=>
       cases rs with
       | cons _ _=>exact False.elim p2
       | nil=>
        rename_i da va db vb;refine ⟨_,_,rfl,ht.sq,rfl,va,[vb],rfl,vb,[],rfl,rfl,[some va,some vb],rfl,rfl,?_⟩;have ev:=oA (P1 (caps:=caps) (eo2.later l3) rb) ra;refine ⟨μ2,S2,some da :: some db :: A0 caps ρ,ev,r3,(Post.at p2 h3).imp λb S5 μ5 H5 l5 r5 p5=>?_⟩;have h5:=h3.step l5;have l35:=l3.trans l5;have a5:=l35.oth _ _ e2 npl;have n5:=l35.out e2 npl;cases b with
        | false=>exact ⟨m,Fn _,μ5,S5,es,h5,n5,a5,eo2.later l35,r5,rds2.later l35,p5⟩
        | true=>
         refine rq ?_;rw [if_pos rfl] at p5;refine ⟨μ5,S5,some da :: some db :: A0 caps ρ,ev.later l5,r5,(Post.at p5 h5).imp λyv S6 μ6 H6 l6 r6 p6 v rv=>?_⟩;have h6:=h5.step l6;have l36:=l35.trans l6;have a6:=l6.oth _ _ a5 n5;have n6:=l6.out a5 n5;by_cases hz:es.length<sizeLine
         ·rw [if_pos hz] at p6;have er:=h6.rs;refine ⟨a6,by rw [<- rds2.length];exact hz,m,Fn _,μ6,S6,es++[yv],?_,n6,b6,?_,R3 er a6 r6,T6 er ((rds2.later l36).append (.cons rv .nil)),p6⟩
          ·refine ⟨⟨h6.r.pre,λa o e n=>?_,h6.r.new,h6.r.rsw⟩,er⟩;rw [a7 (b9 e hacc)];exact h6.r.oth a o e n
          ·have eo6:=eo2.later l36;exact ⟨eo6.1,λj e he=>let ⟨w,q,r⟩:=eo6.2 j e he;⟨w,q,aq er r⟩⟩
         ·rw [if_neg hz] at p6;exact p6.elim
    | _=>exact False.elim p2
section
variable {X:Cx} {cl:ClW} {xe:Addr->Hp->Prop} {elt iter:Expr} {x y:Str} {px py tp pos:Pos} {kk:Nat} {ifs:List Expr} {scope:Scope} {N':List Str} {caps:List Nat} {fi:Env->M (Src×Nat)} {t:Env->M Bool} {f:Env->M D}
theorem kL (T:CompText X.N X.env N' 2 caps scope) (h:X.calm=true) (g:N'.Nodup) (d:N'[0]?=some x) (e:N'[1]?=some y) (c:scope.names.lookup x=some .local) (a:scope.names.lookup y=some .local) (j:PI X (.Tuple [.Name x px,.Name y py] kk tp) iter (tIt X.K cl xe fi))
  (n:∀ pins C b s H,PTL (c9 X pins N' scope C b s H) ifs (tBo X.K cl xe t)) (m:∀ pins C b s H,PE (c9 X pins N' scope C b s H) elt (tD X.K cl xe f)) (i:q5 iter=true) :
  PE X (.ListComp elt [⟨.Tuple [.Name x px,.Name y py] kk tp,iter,ifs,0⟩] scope pos) (nW X.K cl xe (cQ caps fi t f)):=
 PE.imp (lE T h (λpins C b s H=>nV (X:=c9 X pins N' scope C b s H) h (aF (L1 g d (.inl (Fu c)) (.inr (Fu c))) (aF (L1 g e (.inl (Fu a)) (.inr (Fu a))) ia))) j n m (D0 i)) λσ H Q ⟨μ,S,ρ,l,k,p⟩=>fI l k p
end
def v1 (d:D):M Bool:=match d with
 | .non=>ret false
 | .bl b=>ret b
 | .int i=>ret (i != 0)
 | .str x=>if x.length<=sizeLine then ret ((x.length:Int) != 0) else bad
 | .ref n=>λS=>match S[n]? with
  | some (.lst ds)=>.ok (!ds.isEmpty) S
  | some (.dct a)=>.ok (!a.isEmpty) S
  | _=>.bad
 | d=>bind (V4 d) λds=>ret (!ds.isEmpty)
section
variable {K:PySem.W.Frag} {cl:ClW} {xe:Addr->Hp->Prop} {μ:Mp} {H:Hp} {S:Sto}
theorem L4 (r:RDs K μ H ds vs):ds.isEmpty=vs.isEmpty:=by cases r <;> rfl
theorem cS (rd:RD K μ H d v) (rp:Rep K cl μ S H) (p:Post K cl xe μ H (v1 d S) G):∃ k,oB K v H k/\G k S μ H:=by
 cases rd with
 | non=>exact ⟨_,rfl,p μ H (Lat.refl _ _) rp⟩
 | bl b=>exact ⟨_,rfl,p μ H (Lat.refl _ _) rp⟩
 | int i=>exact ⟨_,rfl,p μ H (Lat.refl _ _) rp⟩
 | str x=>
  obtain ⟨hl,p⟩:=Post.guard p;exact ⟨_,⟨hl,rfl⟩,p μ H (Lat.refl _ _) rp⟩
 | tup h r=>exact ⟨_,.inr (.inl ⟨_,h.sq,by rw [<- L4 r]⟩),p μ H (Lat.refl _ _) rp⟩
 | lst h r=>exact ⟨_,.inl ⟨_,h.sq,by rw [<- L4 r]⟩,p μ H (Lat.refl _ _) rp⟩
 | scr h r=>exact ⟨_,.inl ⟨_,h.sq,by rw [<- L4 r]⟩,p μ H (Lat.refl _ _) rp⟩
 | ref h=>
  rename_i n a;simp only [v1] at p;cases q1:S[n]? with
  | none=>rw [q1] at p;exact p.elim
  | some o=>
   rw [q1] at p;cases o with
   | lst ds=>
    obtain ⟨xs,h1,h2⟩:=rp.ats n _ a q1 h;exact ⟨_,.inl ⟨xs,.inl (.inl h1),by rw [<- L4 h2]⟩,p μ H (Lat.refl _ _) rp⟩
   | dct kvs=>
    obtain ⟨ks,h1,h2⟩:=rp.ats n _ a q1 h;refine ⟨_,.inr (.inr ⟨ks,h1,rfl⟩),?_⟩;have e:kvs.isEmpty=ks.isEmpty:=by cases h2 <;> rfl
    rw [<- e];exact p μ H (Lat.refl _ _) rp
   | exc _ _=>exact p.elim
   | dcT _=>exact p.elim
end
section
variable {X:Cx} {cl:ClW} {xe:Addr->Hp->Prop} {a b e:Expr} {es rest:List Expr} {pos:Pos} {f g:Env->M D}
theorem kx (h:PE X a (tD X.K cl xe f)) (i:C7 a=true):PT X a (tBo X.K cl xe λρ=>bind (f ρ) v1):=PT.imp (nY h (test_of i)) λσ H Q ⟨μ,S,ρ,b,k,p⟩=>
 ⟨μ,S,ρ,b,k,p.bind.imp λd S1 j l m e g v c=>cS c e g⟩
theorem oY (h:PE X a (tD X.K cl xe f)):PE X (.BoolOp op [a] pos) (tD X.K cl xe f):=wA h
theorem wI (h:PE X a (tD X.K cl xe f)) (k:PE X (.BoolOp .And (b :: rest) pos) (tD X.K cl xe g)):PE X (.BoolOp .And (a :: b :: rest) pos) (tD X.K cl xe λρ=>bind (f ρ) λd=>bind (v1 d) λq=>if q=true then g ρ else ret d):=by
 intro pins s σ H Q I ⟨μ,S,ρ,m,A,p⟩;refine BoolOp_and (thn (h pins s σ H (λv e=>∃ c,oB X.K v e c/\if c=true then tD X.K cl xe g σ e Q else Q v e) I ⟨μ,S,ρ,m,A,p.bind.imp λd S1 i e F j w v n=>?_⟩) λv z ⟨x,e,E,t,c,l,q⟩=>?_)
 ·obtain ⟨c,l,q⟩:=cS n j w.bind;refine ⟨c,l,?_⟩;cases c with
  | true=>exact ⟨i,S1,ρ,m.later F,j,q⟩
  | false=>exact q i e (Lat.refl _ _) j _ n
 ·refine thn (gB pins z σ e x v (λB H'=>B=c/\H'=e) E t ⟨c,l,rfl,rfl⟩) λC D ⟨r,o,y,u⟩=>?_;subst y u;cases C with
  | true=>exact k pins D σ r Q o q
  | false=>exact ⟨x,r,o,t,q⟩
theorem zd (h:PE X a (tD X.K cl xe f)) (k:PE X (.BoolOp .Or (b :: rest) pos) (tD X.K cl xe g)):PE X (.BoolOp .Or (a :: b :: rest) pos) (tD X.K cl xe λρ=>bind (f ρ) λd=>bind (v1 d) λq=>if q=true then ret d else g ρ):=by
 intro pins s σ H Q I ⟨μ,S,ρ,m,A,p⟩;refine BoolOp_or (thn (h pins s σ H (λv e=>∃ c,oB X.K v e c/\if c=true then Q v e else tD X.K cl xe g σ e Q) I ⟨μ,S,ρ,m,A,p.bind.imp λd S1 i e F j w v n=>?_⟩) λv z ⟨x,e,E,t,c,l,q⟩=>?_)
 ·obtain ⟨c,l,q⟩:=cS n j w.bind;refine ⟨c,l,?_⟩;cases c with
  | true=>exact q i e (Lat.refl _ _) j _ n
  | false=>exact ⟨i,S1,ρ,m.later F,j,q⟩
 ·refine thn (gB pins z σ e x v (λB H'=>B=c/\H'=e) E t ⟨c,l,rfl,rfl⟩) λC D ⟨r,o,y,u⟩=>?_;subst y u;cases C with
  | true=>exact ⟨x,r,o,t,q⟩
  | false=>exact k pins D σ r Q o q
def tPt (K:PySem.W.Frag) (cl:ClW) (xe:Addr->Hp->Prop) (fp:Env->M (Option Int)):TO:=λσ H Q=>∃ μ S ρ,EnvOk K μ H ρ σ/\Rep K cl μ S H/\Post K cl xe μ H (fp ρ S) λo _ _ H'=>Q o H'
def bG (d:D):M (Option Int):=match d with
 | .int i=>ret (some i)
 | _=>bad
theorem PO.imp {e:Option Expr} {t t':TO} (h:PO X e t) (k:∀ σ H Q,t' σ H Q->t σ H Q):PO X e t':=λpins s σ H Q I q=>h pins s σ H Q I (k σ H Q q)
theorem rL:PO X none (tPt X.K cl xe λ_=>ret none):=PO.imp sJ λσ H Q ⟨μ,S,ρ,b,a,p⟩=>p μ H (Lat.refl _ _) a
theorem sF (h:PE X e (tD X.K cl xe f)):PO X (some e) (tPt X.K cl xe λρ=>bind (f ρ) bG):=PO.imp (rc h) λσ H Q ⟨μ,S,ρ,eo,rp,p⟩=>
 ⟨μ,S,ρ,eo,rp,p.bind.imp λd S1 μ1 H1 l1 r1 p1 v rv=>by
  cases rv with
  | int i=>exact ⟨i,rfl,p1 μ1 H1 (Lat.refl _ _) r1⟩
  | _=>exact False.elim p1⟩
theorem L8 {s:Shared} {t e:Addr} {items:Array Value} {k i:Value} {lo c:Option Int} {Q:Value->Shared->Prop} (a:IsTup s.heap t items) (hs:s.heap.IsSliceOf e k i .none) (pl:IsPart k lo) (l:IsPart i c)
  (j:HT.sIx items.size 0 lo=0/\HT.sIx items.size items.size c=items.size) (h:Q (.ref t) s):wpAny (model prog w) A (getItem (.ref t) (.ref e)) Q E s:=by
 obtain ⟨m,g,d,hds⟩:=id hs;have f:s.TypeIs (.ref e) "slice":=⟨m,g,d⟩;unfold getItem;try with_reducible refine FT ?_
 first | refine Er (Eu ?_) | skip
 refine Er (wpAny_sequenceKey a.typeIs (by decide) ?_);refine Er (Gh a.typeIs FG
  (Hi FG a.typeIs entry_tuple_getitem ?_ (args_tuple_getitem _ _)))
 show wpAny _ _ (Builtin.Tuple.tupleItemsOf (.ref t) >>= _) _ _ s;refine Er (tupleItemsOf_ a ?_);refine Er (wpAny_typeOf f ?_);rw [if_pos (by decide)];refine Er (HT.sliceApplied_gen hs pl l ?_);have b:(((HT.sIx items.size 0 lo:Nat):Int)==0&&(1:Int)==1&&(HT.sIx items.size items.size c-HT.sIx items.size 0 lo)==items.size)=true:=by
  rw [j.1,j.2];simp
 show wpAny _ _ (if (((HT.sIx items.size 0 lo:Nat):Int)==0&&(1:Int)==1&&(HT.sIx items.size items.size c-HT.sIx items.size 0 lo)==items.size)=true then _ else _) _ _ s;rw [if_pos b];refine Er ?_;refine Er (wpAny_typeOf a.typeIs (Eu ?_));rw [if_pos (by decide)];refine Er (wpAny_rule ?_);exact Eu ⟨_,rfl,Eu h⟩
theorem se:SlR X (λx lo e H Q=>∃ a xs,x=.ref a/\SqT X.K H a xs/\(HT.sIx xs.length 0 lo=0/\HT.sIx xs.length xs.length e=xs.length)/\Q (.ref a) H):=by
 intro pins s σ H x v m k lo e l Q I f hs pl j h;obtain ⟨a,xs,rfl,g,i,q⟩:=h;cases f;obtain ⟨c,r,d,hz⟩:=I.tuple g;have b:c.toArray.size=xs.length:=by rw [EN];exact r.length.symm
 exact ⟨"tuple",_,PyProof.Rows.slot_tuple_getitem.lookup,d.typeIs,L8 d hs pl j (by rw [b];exact i) ⟨.ref a,H,I,rfl,q⟩⟩
theorem Df:SlR X (λx lo hi H Q=>∃ μ S d,RD X.K μ H d x/\Rep X.K cl μ S H/\Post X.K cl xe μ H (slD d lo hi S) λr _ μ' H'=>∀ v,RD X.K μ' H' r v->Q v H'):=by
 intro pins s σ H x v vl vu lo hi sl Q I rx hs pl pu ⟨μ,S,d,rd,rp,p⟩;have sq:∀ {a:Addr} {xs:List V} {ds:List D},SqL X.K H a xs->RDs X.K μ H ds xs->x=.ref a->(∀ μ' H',Lat μ H μ' H'->Rep X.K cl μ' S H'->∀ w,RD X.K μ' H' (.lst (F8 ds lo hi)) w->Q w H') ->
   ∃ T id,typeLookup (.type T) "__getitem__" = pure (some (.builtin id))/\s.TypeIs v T/\wpAny (model X.prog X.w) X.A (getItem v (.ref sl)) (EP X pins σ Q) X.xe s:=λ{a xs ds} hq r2 hv q=>by
  subst hv;refine sA pins s σ H _ v vl vu lo hi sl Q I rx hs pl pu ⟨a,xs,rfl,hq,λz hz=>?_⟩;obtain ⟨l,rp2,rd2⟩:=W8 rp (ly r2 lo hi) hz;exact q μ _ l rp2 _ rd2
 cases rd with
 | tup h r=>
  rename_i a xs ds;by_cases hw:HT.sIx xs.length 0 lo=0/\HT.sIx xs.length xs.length hi=xs.length
  ·refine se pins s σ H _ v vl vu lo hi sl Q I rx hs pl pu ⟨a,xs,rfl,h.sq,hw,?_⟩;have e:F8 ds lo hi=ds:=by
    unfold F8;rw [r.length,hw.1,hw.2,List.drop_zero,Nat.sub_zero];exact List.take_of_length_le (by rw [r.length];exact EI _)
   exact p μ H (Lat.refl _ _) rp _ (by rw [e];exact .tup h r)
  ·refine xp pins s σ H _ v vl vu lo hi sl Q I rx hs pl pu ⟨a,xs,rfl,h.sq,hw,λz hz=>?_⟩;obtain ⟨l,rp2,rd2⟩:=K3 rp (ly r lo hi) hz;exact p μ _ l rp2 _ rd2
 | lst h r=>exact sq h.sq r rfl p
 | scr h r=>exact sq h.sq r rfl p
 | ref h=>
  rename_i n a0;have p2:=p;obtain ⟨a,xs,ds,e1,h1,h2,e2⟩:=o8 (.ref h) rp p2.bind;exact sq (.inl (.inl h1)) h2 e1 (p2.ok_bind e2)
 | _=>exact False.elim p
theorem Am {lo k:Option Expr} {c:Pos} {j m:Env->M (Option Int)} (h:PE X e (tD X.K cl xe f)) (t:PO X lo (tPt X.K cl xe j)) (B:PO X k (tPt X.K cl xe m)) :
  PE X (.Subscript e (.Slice lo k none c) pos) (tD X.K cl xe λρ=>bind (f ρ) λd=>bind (j ρ) λl=>bind (m ρ) λu=>slD d l u):=PE.imp (nZ Df h t B) λσ H Q ⟨μ,S,ρ,a,s,p⟩=>
 ⟨μ,S,ρ,a,s,p.bind.imp λd S1 g C n o q v x=>⟨g,S1,ρ,a.later n,o,q.bind.imp λl S2 μ2 E i A c=>⟨μ2,S2,ρ,(a.later n).later i,A,c.bind.imp λu z b D y r w=>⟨b,z,d,(x.later i).later y,r,w⟩⟩⟩⟩
end
def B7 (x k v:D):M D:=match x with
 | .ref n=>λS=>match S[n]? with
  | some (.lst ds)=>match k with
   | .int i=>match ixN ds.length i with
    | some j=>.ok .non (S.set n (.lst (ds.set j v)))
    | none=>.bad
   | _=>.bad
  | some (.dct a)=>match B5 k with
   | some b=>if a.length<sizeLine then .ok .non (S.set n (.dct (gm a b v))) else .bad
   | none=>.bad
  | _=>.bad
 | _=>bad
theorem jF {K:PySem.W.Frag} {μ:Mp} {H:Hp} {k:Key}:∀ {a:List (Key×D)} {c:List (Key×V)},KvsAt K μ H a c->(a.any λb=>decide (b.1=k))=c.any λb=>decide (b.1=k)
 | _,_,.nil=>rfl
 | _,_,.cons ⟨d,e⟩ t=>by simp only [GL,d,jF t]
theorem iP {K:PySem.W.Frag} {μ:Mp} {H:Hp} {k:Key} {d:D} {v:V} (r:RD K μ H d v):∀ {c:List (Key×D)} {e:List (Key×V)},KvsAt K μ H c e->KvsAt K μ H (c.map λa=>if a.1=k then (a.1,d) else a) (e.map λa=>if a.1=k then (a.1,v) else a)
 | _,_,.nil=>.nil
 | _,_,.cons (b:=b) ⟨h1,h2⟩ t=>by
  refine .cons ?_ (iP r t);by_cases f:b.1=k
  ·grind
  ·grind
theorem Paired.app:∀ {xs a:List α} {ys b:List β},Paired P xs ys->Paired P a b->Paired P (xs++a) (ys++b)
 | _,_,_,_,.nil,s=>s
 | _,_,_,_,.cons r t,s=>.cons r (Paired.app t s)
theorem jJ {K:PySem.W.Frag} {μ:Mp} {H:Hp} {k:Key} {d:D} {v:V} {a:List (Key×D)} {b:List (Key×V)} (h:KvsAt K μ H a b) (r:RD K μ H d v):KvsAt K μ H (gm a k d) (v5 b k v):=by
 unfold gm v5;rw [jF h];split
 ·exact iP r h
 ·exact Paired.app h (.cons ⟨rfl,r⟩ .nil)
theorem KvsAt.later {K:PySem.W.Frag} {μ μ':Mp} {H H':Hp} {a:List (Key×D)} {b:List (Key×V)} (h:KvsAt K μ H a b) (l:Lat μ H μ' H'):KvsAt K μ' H' a b:=Paired.mono (λ_ _ ⟨z,w⟩=>⟨z,w.later l⟩) h
section
variable {X:Cx} {cl:ClW} {xe:Addr->Hp->Prop} {a b e:Expr} {es rest:List Expr} {pos:Pos} {f g k:Env->M D}
theorem BZ (hu:X.A.units+1<cLine):qN X (λo i v H Q=>∃ μ S x y z,RD X.K μ H x o/\RD X.K μ H y i/\RD X.K μ H z v/\Rep X.K cl μ S H/\Post X.K cl xe μ H (B7 x y z S) λ_ _ _ H'=>Q H'):=by
 intro pins s σ H o i v ov iv u Q I ro ri rv ⟨μ,S,x,y,z,rx,ry,rz,rp,p⟩;cases rx with
 | ref h=>
  rename_i n a;have m:=EY h;simp only [B7] at p;cases q1:S[n]? with
  | none=>rw [q1] at p;exact p.elim
  | some ob=>
   rw [q1] at p;cases ob with
   | lst ds=>
    obtain ⟨xs,h1,h2⟩:=rp.ats n _ a q1 h;cases ry with
    | int j=>
     simp only at p;cases q2:ixN ds.length j with
     | none=>rw [q2] at p;exact p.elim
     | some t=>
      rw [q2] at p;refine mq pins s σ H _ _ v ov iv u Q I ro ri rv ⟨a,xs,j,t,rfl,rfl,h1,by rw [<- h2.length];exact q2,?_⟩;exact p μ _ (Lat.wrote m) (rp.wrote h ⟨_,b6,(h2.set rz t).later (Lat.wrote m)⟩)
    | _=>exact False.elim p
   | dct kvs=>
    obtain ⟨ks,h1,h2⟩:=rp.ats n _ a q1 h;cases q2:B5 y with
    | none=>rw [q2] at p;exact p.elim
    | some key=>
     rw [q2] at p;by_cases hl:kvs.length<sizeLine
     ·simp only [if_pos hl] at p;have hy:=Q5 ry q2;subst hy;cases ro;have hl2:ks.length<sizeLine:=by rw [<- Paired.length h2];exact hl
      refine ko hu I (DPut.k h1 hl2) ri rv λs' I'=>⟨_,I',?_⟩;exact p μ _ (Lat.wrote m) (rp.wrote h ⟨_,b6,(jJ h2 rz).later (Lat.wrote m)⟩)
     ·simp only [if_neg hl] at p;exact p.elim
   | exc _ _=>exact p.elim
   | dcT _=>exact p.elim
 | _=>exact False.elim p
theorem bV (h:v3 b=true):∀ v,assign (.Subscript a b p2) env v=(do
   let c <- holding [v] (eval a env)
   let d <- holding [v,c] (eval b env)
   standAt p2
   holding [v,c,d] (setItem c d v)
   release [v,c,d] []):=by
 intro v;cases b <;> first | rfl | (exact absurd h (by simp [v3]))
theorem oZ (o:X.A.units+1<cLine) (L:PE X e (tD X.K cl xe f)) (J:PE X a (tD X.K cl xe g)) (I:PE X b (tD X.K cl xe k)) (s:j3 e=true) (u:v3 b=true) :
  PS X (.Assign [.Subscript a b n] e pos) (sD X.K cl xe λρ=>bind (f ρ) λv=>bind (g ρ) λx=>bind (k ρ) λy=>bind (B7 x y v) λ_=>ret (.nx ρ)):=
 PS.imp (fT L (mP J I (BZ o) (bV u)) (by unfold swapsWithSole;exact y3 s) rfl rfl) λD σ H ⟨μ,S,ρ,c,z,p⟩=>
  ⟨μ,S,ρ,c,z,p.bind.imp λv S1 j P m r t vv F=>⟨j,S1,ρ,c.later m,r,t.bind.imp λx S2 μ2 T d N n R K=>⟨μ2,S2,ρ,(c.later m).later d,N,n.bind.imp λy M i Q l w E O q=>
   ⟨i,M,x,y,v,K.later l,q,(F.later d).later l,w,E.bind.imp λ_ U h B G C A=>A.ret h B (Lat.refl _ _) C σ ((((c.later m).later d).later l).later G)⟩⟩⟩⟩
def Q9 (x:D) (ds:List D):M D:=match x,ds with
 | .ref n,[d]=>λS=>match S[n]? with
  | some (.lst es)=>if es.length<sizeLine then .ok .non (S.set n (.lst (es++[d]))) else .bad
  | _=>.bad
 | _,_=>bad
def K9 (es:List Expr):Bool:=decide (es.length<30)
theorem nT (b:es.all noStar=true) (a:K9 es=true):((backTo cpos (starEach es X.env)).all (λx=>!x.1)&&(backToKw cpos (keywordEach [] X.env)).all (λx=>x.1.isSome)&&decide (es.length+([]:List Keyword).length+(if ([]:List Keyword).isEmpty then 0 else 1)<30))=true:=by
 rw [aL b];simpa [keywordEach,backToKw] using Ge a
theorem kl (ho:PE X a (tD X.K cl xe f)) (ha:PA X (e :: es) (tDs X.K cl xe fs)) (hb:p9 a=true) (hs:(e :: es).all noStar=true) (hf:K9 (e :: es)=true) (hl:(apos.endLine==cpos.line)=true) :
  PE X (.Call (.Attribute a "append" apos) (e :: es) [] cpos) (tD X.K cl xe λρ=>bind (f ρ) λx=>bind (lstOf x) λ_=>bind (fs ρ) λds=>Q9 x ds):=by
 have hs2:=hs;rw [Fv,Ey] at hs2;refine PE.imp (vM HM PySem.F.slot_list_append PySem.F.type_list_append K2 ho ha (D9 hb) (nT hs hf) hl (d9 hs2.1) (i7 hs2.2)) λσ H Q ⟨μ,S,ρ,eo,rp,p⟩=>?_;refine ⟨μ,S,ρ,eo,rp,p.bind.imp λx S1 μ1 H1 l1 r1 p1 xv rx=>?_⟩;obtain ⟨a0,xs0,ds0,e0,h0,r0,q0⟩:=o8 rx r1 p1.bind;have p1:=p1.ok_bind q0;subst e0;refine ⟨.inl ⟨rfl,_,.inl (.inl h0)⟩,μ1,S1,ρ,eo.later l1,r1,p1.bind.imp λds S2 μ2 H2 l2 r2 p2 vs rvs=>?_⟩;have rx2:=rx.later l2;clear p1;cases rx2 with
 | ref h=>
  rename_i n
  match ds,rvs with
  | [],_=>exact False.elim p2
  | _ :: _ :: _,_=>exact False.elim p2
  | [d],rvs=>
   obtain ⟨v,rfl,rv⟩:=pd rvs;simp only [Q9] at p2;cases q1:S2[n]? with
   | none=>rw [q1] at p2;exact p2.elim
   | some o=>
    rw [q1] at p2;cases o with
    | lst es=>
     obtain ⟨xs,h1,h2⟩:=r2.ats n _ _ q1 h;by_cases hl:es.length<sizeLine
     ·simp only [if_pos hl] at p2;have m:=EY h;refine ⟨_,xs,v,rfl,rfl,h1,by rw [<- h2.length];exact hl,?_⟩;exact p2 μ2 _ (Lat.wrote m) (r2.wrote h ⟨_,b6,(h2.append (.cons rv .nil)).later (Lat.wrote m)⟩) _ .non
     ·simp only [if_neg hl] at p2;exact p2.elim
    | dct _=>exact p2.elim
    | exc _ _=>exact p2.elim
    | dcT _=>exact p2.elim
 | _=>exact False.elim p2
end
def t7:List ((Env->M D)×(Env->M D))->Env->M (List (D×D))
 | [],_=>ret []
 | (f,g) :: r,ρ=>bind (f ρ) λx=>bind (g ρ) λy=>bind (t7 r ρ) λps=>ret ((x,y) :: ps)
def gE (c a:List (Key×D)):List (Key×D):=a.foldl (λb d=>gm b d.1 d.2) c
def bZ (p:D×D):Option (Key×D):=(B5 p.1).map λk=>(k,p.2)
def jU (ps:List (D×D)):M D:=λS=>match h9 bZ ps with
 | some a=>if a.length<=15 then .ok (.ref S.length) (S++[.dct (gE [] a)]) else .bad
 | none=>.bad
section
variable {K:PySem.W.Frag} {cl:ClW} {xe:Addr->Hp->Prop} {μ:Mp} {H:Hp} {S:Sto} {β:Type}
theorem bT:∀ {d:List (Key×D)} {ms:List (Key×V)} {c:List (Key×D)} {e:List (Key×V)},KvsAt K μ H d ms->KvsAt K μ H c e->KvsAt K μ H (gE c d) (N2 e ms)
 | _,_,_,_,.nil,h=>h
 | _,_,c,e,.cons (a:=a) (b:=b) ⟨h1,h2⟩ t,h=>by
  show KvsAt K μ H (gE (gm c a.1 a.2) _) (N2 (v5 e b.1 b.2) _);rw [h1];exact bT t (jJ h h2)
abbrev RPs (K:PySem.W.Frag) (μ:Mp) (H:Hp):List (D×D)->List (V×V)->Prop:=Paired λx y=>RD K μ H x.1 y.1/\RD K μ H x.2 y.2
theorem bind_assoc (m:M α) (k:α->M β) (j:β->M γ):bind (bind m k) j=bind m λa=>bind (k a) j:=by
 funext S;unfold bind;grind
theorem h7 (a:α) (k:α->M β):bind (ret a) k=k a:=rfl
theorem J6 {ρ:Env} {σ:L2.St}:∀ {fks:List ((Env->M D)×(Env->M D))} {k:List (D×D)->M β} {G:β->Sto->Mp->Hp->Prop} {R:List (V×V)->Hp->Prop} {μ2:Mp} {c:Hp} {S2:Sto},Post K cl xe μ H (bind (t7 fks ρ) k S2) G->HLat μ H p μ2 c->p∉μ2.pl->c p=some o->EnvOk K μ2 c ρ σ->Rep K cl μ2 S2 c ->
  (∀ ps d a j ds,HLat μ H p a d->p∉a.pl->d p=some o->Rep K cl a j d->Lat μ2 c a d->RPs K a d ds ps->Post K cl xe μ H (k ds j) G->R ps d)->au (fks.map λz=>(tD K cl xe z.1,tD K cl xe z.2)) σ c R
 | [],k,G,R,μ2,c,S2,h,l,n,e,i,s,q=>q [] c μ2 S2 [] l n e s (Lat.refl _ _) .nil h
 | (f,g) :: r,k,G,R,μ2,c,S2,h,l,n,e,i,s,q=>by
  have S:Post K cl xe μ H (bind (f ρ) (λx=>bind (g ρ) λy=>bind (t7 r ρ) λps=>k ((x,y) :: ps)) S2) G:=by
   have:bind (t7 ((f,g) :: r) ρ) k=bind (f ρ) (λx=>bind (g ρ) λy=>bind (t7 r ρ) λps=>k ((x,y) :: ps)):=by
    show bind (bind (f ρ) λx=>bind (g ρ) λy=>bind (t7 r ρ) λps=>ret ((x,y) :: ps)) k=_;simp only [bind_assoc,h7]
   rw [<- this];exact h
  refine ⟨μ2,S2,ρ,i,s,(S.at l).imp λx j a d t T C N I=>?_⟩;refine ⟨a,j,ρ,i.later t,T,(C.at (l.step t)).imp λy S4 Y Z A P L U F=>?_⟩;have b:=t.trans A;have O:=b.oth _ _ e n;refine J6 L (l.step b) (b.out e n) O (i.later b) P λps E m B ds w W X J u v Q=>?_;exact q ((N,U) :: ps) E m B ((x,y) :: ds) w W X J (b.trans u) (.cons ⟨(I.later A).later u,F.later u⟩ v) Q
theorem Z8 {p:Addr} {u:HO} {ob:O} {rs:List Addr} {kz:List (Key×V)} (er:μ.rs=p :: rs) (nr:p∉rs) (hp:H p=some (.dK kz)) (rp:Rep K cl μ S H) (ho:OAt K cl ⟨μ.pl++[p],rs⟩ (upd H p u) p ob):Rep K cl ⟨μ.pl++[p],rs⟩ (S++[ob]) (upd H p u):=by
 have np:p∉μ.pl:=(rp.res p (by rw [er];exact EL)).1;have hp':∀ (n:Nat) (a:Addr),μ.pl[n]?=some a->(μ.pl++[p])[n]?=some a:=λn a e=>by rw [EJ (Et.mp e).1];exact e
 have ho':∀ a w,H a=some w->a∉μ.pl->a∉μ.rs->upd H p u a=some w/\a∉(⟨μ.pl++[p],rs⟩:Mp).pl/\a∉(⟨μ.pl++[p],rs⟩:Mp).rs:=λa w e n1 n2=>by
  have ne:a≠p:=λz=>n2 (by rw [er,z];exact EL);refine ⟨by rw [a7 ne];exact e,λz=>?_,λz=>n2 (by rw [er];exact EM _ z)⟩;rcases Ff.mp z with z | z
  ·exact n1 z
  ·exact ne (EZ.mp z)
 refine ⟨by simp [rp.len],?_,λn o a e1 e2=>?_,λa m=>?_⟩
 ·show (μ.pl++[p]).Nodup;rw [Gw];exact ⟨rp.nd,by simp,λa m b m2=>by rw [EZ.mp m2];rintro rfl;exact np m⟩
 ·have e2:(μ.pl++[p])[n]?=some a:=e2;by_cases hn:n<S.length
  ·rw [EJ hn] at e1;rw [EJ (by rw [rp.len];exact hn)] at e2;have h:=rp.ats n o a e1 e2;have ka:upd H p u a=H a:=a7 λz=>np (z▸EY e2);cases o with
   | lst ds=>obtain ⟨xs,e,q⟩:=h;exact ⟨xs,by rw [ka];exact e,q.move hp' ho'⟩
   | dct kvs=>obtain ⟨xs,e,q⟩:=h;exact ⟨xs,by rw [ka];exact e,Paired.mono (λ_ _ ⟨z,w⟩=>⟨z,w.move hp' ho'⟩) q⟩
   | dcT kvs=>obtain ⟨es,e,h1,h2,q⟩:=h;exact ⟨es,by rw [ka];exact e,h1,h2,Paired.mono (λ_ _ ⟨b,v,z,a1,a2,a3,a4,a5,a6⟩=>⟨b,v,z,a1,a2.move hp' ho',a3,a4,a5,a6.move hp' ho'⟩) q⟩
   | exc c fs=>
    obtain ⟨xc,gs,q,fr,h⟩:=h;refine ⟨xc,gs,Paired.mono (λ_ _ ⟨z,w⟩=>⟨z,w.move hp' ho'⟩) q,fr,?_⟩;rcases h with ⟨z,e⟩ | ⟨d,h1,h2,e,e3⟩
    ·exact .inl ⟨z,by rw [ka];exact e⟩
    ·have ne:d≠p:=jD e3 hp (by intro z;cases z);refine .inr ⟨d,h1,λz=>?_,by rw [ka];exact e,by rw [a7 ne];exact e3⟩;rcases Ff.mp z with z | z
     ·exact h2 z
     ·exact ne (EZ.mp z)
  ·have hn2:n=S.length:=by
    have:=(Et.mp e1).1;simp at this;omega
   subst hn2;rw [<- rp.len] at e2;simp at e1 e2;subst e1;subst e2;exact ho
 ·have m:a∈rs:=m;obtain ⟨h1,w,h2⟩:=rp.res a (by rw [er];exact EM _ m);have ne:a≠p:=λz=>nr (z▸m);refine ⟨λz=>?_,w,by rw [a7 ne];exact h2⟩;rcases Ff.mp z with z | z
  ·exact h1 z
  ·exact ne (EZ.mp z)
theorem ae:∀ {ds:List (D×D)} {ps:List (V×V)} {c:List (Key×D)},RPs K μ H ds ps->h9 bZ ds=some c->∃ f:List (Key×V),KvsAt K μ H c f/\ps=f.map (λg=>(kV g.1,g.2))
 | _,_,c,.nil,e=>by cases e;exact ⟨[],.nil,rfl⟩
 | _,_,c,.cons (a:=a) (b:=b) ⟨h1,h2⟩ t,e=>by
  simp only [h9] at e;cases d:bZ a with
  | none=>rw [d] at e;cases e
  | some g=>
   rename_i m q;cases h:h9 bZ m with
   | none=>rw [d,h] at e;cases e
   | some j=>
    rw [d,h] at e;cases e;obtain ⟨f,o,n⟩:=ae t h;unfold bZ at d;cases i:B5 a.1 with
    | none=>grind
    | some k=>
     rw [i] at d;cases d;have:=Q5 h1 i;obtain ⟨p,l⟩:=b;subst this;exact ⟨(k,l) :: f,.cons ⟨rfl,h2⟩ o,by rw [n];rfl⟩
end
section
variable {X:Cx} {cl:ClW} {xe:Addr->Hp->Prop} {pos:Pos}
theorem qL (h:PPs X pos keys values (fks.map λy=>(tD X.K cl xe y.1,tD X.K cl xe y.2))) (j:keys.all (·.isSome)=true) (I:keys.length=values.length) (O:keys≠[]) (f:keys.length<=15) :
  PE X (.Dict keys values pos) (tD X.K cl xe λρ=>bind (t7 fks ρ) jU):=PE.imp (sU h j I O f) λσ H Q ⟨μ,S,ρ,M,l,P⟩=>by
 intro p i;have q:=l.notrs i;refine J6 (μ2:=μ.hold p) P ?_ (l.notin i) b6 (J0 l i M) (J1 l i) λps A c R ds b L C E U t g=>?_
 ·refine ⟨⟨λ_ _ e=>e,λa o e _=>by rw [a7 (b9 e i)];exact e,λa m=>.inl m,λa m=>?_⟩,rfl⟩;rcases EU.mp (m) with rfl | m
  ·exact .inr i
  ·exact .inl m
 ·simp only [jU] at g;cases s:h9 bZ ds with
  | none=>rw [s] at g;exact g.elim
  | some x=>
   rw [s] at g;by_cases f:x.length<=15
   ·simp only [if_pos f] at g;obtain ⟨K,B,G⟩:=ae t s;refine ⟨C,K,G,by rw [<- Paired.length B];exact f,?_⟩;have W:=L;have k:∀ (n:Nat) (a:Addr),c.pl[n]?=some a->(c.pl++[p])[n]?=some a:=λn a e=>by rw [EJ (Et.mp e).1];exact e
    have N:∀ {u:HO} {d:D} {v:V},RD X.K c A d v->RD X.K ⟨c.pl++[p],μ.rs⟩ (upd A p u) d v:=λr=>r.move k λa w e J F=>by
     have T:a≠p:=λz=>F (by rw [b.rs,z];exact EL);refine ⟨by rw [a7 T];exact e,λz=>?_,λz=>F (by rw [b.rs];exact EM _ z)⟩;rcases Ff.mp z with z | z
     ·exact J z
     ·grind
    refine g ⟨c.pl++[p],μ.rs⟩ _ ?_ (Z8 b.rs q C E ⟨_,b6,bT (Paired.mono (λ_ _ ⟨z,w⟩=>⟨z,N w⟩) B) .nil⟩) _ (.ref ?_)
    ·refine ⟨λn a e=>k n a (b.r.pre n a e),λa o e n=>?_,λa m=>?_,rfl⟩
     ·rw [a7 (b9 e i)];exact b.r.oth a o e n
     ·rcases Ff.mp (m) with m | m
      ·exact b.r.new a m
      ·grind
    ·show (c.pl++[p])[R.length]?=some p;rw [<- E.len];simp
   ·simp only [if_neg f] at g;exact g.elim
end
def B0 (S:Sto) (d:D):Bool:=match i5 64 S d with
 | some p=>decide (Shows p)&&decide (p.shown.length<=4000)&&(match d with
  | .str x=>decide (x.length<=4000)
  | _=>true)
 | none=>false
def L7 (c:Nat) (fs:List Str) (ds:List D):M D:=λS=>if ds.length=fs.length/\ds.all (B0 S)=true then .ok (.ref S.length) (S++[.exc c (fs.zip ds)]) else .bad
def nP (c:Nat) (ds:List D):M D:=λS=>match ds with
 | [_]=>.ok (.ref S.length) (S++[.exc c []])
 | _=>.bad
theorem fS {K:PySem.W.Frag} {cl:ClW} {μ:Mp} {H:Hp} {S:Sto} {d:D} {v:V} (rp:Rep K cl μ S H) (r:RD K μ H d v) (h:B0 S d=true):∃ p,Hn.Fmt K H v p:=by
 unfold B0 at h;cases e:i5 64 S d with
 | none=>rw [e] at h;cases h
 | some p=>
  rw [e] at h;simp at h;refine ⟨p,v4 rp 64 e r,h.1.1,h.1.2,λx ex=>?_⟩;subst ex;cases r with
  | str _=>grind
def CD (K:PySem.W.Frag) (H:Hp) (v:V):Prop:=∃ x C d,v=.ref x/\XC K C/\H x=some (N9 x C d)
def tDf (K:PySem.W.Frag) (cl:ClW) (xe:Addr->Hp->Prop) (f:Env->M D):TE:=λσ H Q=>∃ μ S ρ,EnvOk K μ H ρ σ/\Rep K cl μ S H/\Post K cl xe μ H (f ρ S) λd _ μ' H'=>∀ v,RD K μ' H' d v->CD K H' v->Q v H'
theorem PE.unf {X:Cx} {cl:ClW} {xe:Addr->Hp->Prop} {e:Expr} {f:Env->M D} (h:PE X e (tDf X.K cl xe f)):PE X e (tD X.K cl xe f):=PE.imp h λσ H Q ⟨μ,S,ρ,eo,rp,P⟩=>⟨μ,S,ρ,eo,rp,P.imp λd S1 μ1 H1 l1 r1 p1 v rv _=>p1 v rv⟩
section
variable {X:Cx} {cl:ClW} {xe:Addr->Hp->Prop} {e:Expr} {es:List Expr} {pos:Pos} {fs:Env->M (List D)}
theorem jE {K:PySem.W.Frag} {μ:Mp} {H H':Hp} {S:Sto} {c:Nat} {x:Addr} {gs:List (Str×V)} {ds:List (Str×D)} (b:Rep K cl μ S H) (f:H x=none) (M:XC K (cl c)) (g:Hn.Got (upd H x (N9 x (cl c) none)) x (cl c) gs H') (r:∀ {μ':Mp} {H':Hp},Lat μ H μ' H'->gj K μ' H' ds gs) :
  Lat μ H (μ.push x) H'/\Rep K cl (μ.push x) (S++[.exc c ds]) H'/\RD K (μ.push x) H' (.ref S.length) (.ref x):=by
 obtain ⟨d,hd,h,n,j,m⟩:=g;rw [a7 h] at hd;have k:∀ a u,H a=some u->H' a=some u:=λa u e=>by
  have i:=b9 e f;have o:=b9 e hd;rw [m a i o,a7 i];exact e
 have l:=Lat.pushed (μ:=μ) f k;refine ⟨l,b.pushed f k ⟨M,gs,r l,none,.inr ⟨d,h,λz=>?_,n,j⟩⟩,.ref ?_⟩
 ·rcases Ff.mp (z) with z | z
  ·exact b.notin hd z
  ·grind
 ·show (μ.pl++[x])[S.length]?=some x;rw [<- b.len];simp
theorem lL {k:Nat} {f:Addr} {fd:FuncData} {ps:List Str} {E:XK} {CX:CXT} {nm g:Str} {p:Pos} {c:Nat} (M:XC X.K (cl c)) (na:t9 X.K (cl c) g) (hi:PySem.W.findIn X.K (.ref (cl c)) "__init__" = some (some (.ref f))) (hf:PySem.W.isFn X.K (.ref f)=true) (F:FnOk X.prog X.w X.K X.mg X.base CX k f fd ps (Hn.sp1 X.K g)) (hr:Room CX.q (k+1) X.A) (hg:Gl X nm) (hm:X.mg nm=some (.ref (cl c))) (hb:Binds X.K fd ps []) (hx:u7 CX X E)
  (ha:PA X (e :: es) (tDs X.K cl xe fs)) (hdb:(nm==("__debug__" : Str))=false) (hs:(e :: es).all noStar=true):PE X (.Call (.Name nm p) (e :: es) [] pos) (tDf X.K cl xe λρ=>bind (fs ρ) (L7 c [g])):=by
 rw [Fv,Ey] at hs;refine PE.imp (Y0 M hi hf F hr hg hm hb hx ha hdb (d9 hs.1) (i7 hs.2)) λσ H Q ⟨μ,S,ρ,eo,rp,P⟩=>?_;refine ⟨μ,S,ρ,eo,rp,P.bind.imp λds S1 μ1 H1 l1 r1 p1 vs rvs=>?_⟩;unfold L7 at p1;by_cases hc:ds.length=[g].length/\ds.all (B0 S1)=true
 ·rw [if_pos hc] at p1
  match ds,hc,rvs,p1 with
  | [d],hc,rvs,p1=>
   obtain ⟨v,rfl,rv⟩:=pd rvs;obtain ⟨q,ft⟩:=fS r1 rv (by simpa using hc.2);refine ⟨by show 1<=1000;decide,λx hx=>⟨x,v,cl c,q,rfl,M,na,b6,ft.laid hx,λH' got=>⟨rfl,?_⟩⟩⟩;obtain ⟨l2,r2,rd2⟩:=jE (c:=c) (ds:=[(g,d)]) r1 hx M got λl=>.cons ⟨rfl,rv.later l⟩ .nil;obtain ⟨d0,_,_,g1,_⟩:=id got;exact p1 _ _ l2 r2 _ rd2 ⟨x,cl c,_,rfl,M,g1⟩
  | [],hc,_,_=>exact absurd hc.1 (by simp)
  | _ :: _ :: _,hc,_,_=>exact absurd hc.1 (by simp)
 ·rw [if_neg hc] at p1;exact p1.elim
theorem ow {k:Nat} {f:Addr} {fd:FuncData} {ps:List Str} {E:XK} {CX:CXT} {nm g g2:Str} {p:Pos} {c:Nat} (M:XC X.K (cl c)) (na:t9 X.K (cl c) g) (nb:t9 X.K (cl c) g2) (hi:PySem.W.findIn X.K (.ref (cl c)) "__init__" = some (some (.ref f))) (hf:PySem.W.isFn X.K (.ref f)=true) (F:FnOk X.prog X.w X.K X.mg X.base CX k f fd ps (Hn.sp2 X.K g g2)) (hr:Room CX.q (k+1) X.A) (hg:Gl X nm) (hm:X.mg nm=some (.ref (cl c))) (hb:Binds X.K fd ps []) (hx:u7 CX X E)
  (ha:PA X (e :: es) (tDs X.K cl xe fs)) (hdb:(nm==("__debug__" : Str))=false) (hs:(e :: es).all noStar=true):PE X (.Call (.Name nm p) (e :: es) [] pos) (tDf X.K cl xe λρ=>bind (fs ρ) (L7 c [g,g2])):=by
 rw [Fv,Ey] at hs;refine PE.imp (Y0 M hi hf F hr hg hm hb hx ha hdb (d9 hs.1) (i7 hs.2)) λσ H Q ⟨μ,S,ρ,eo,rp,P⟩=>?_;refine ⟨μ,S,ρ,eo,rp,P.bind.imp λds S1 μ1 H1 l1 r1 p1 vs rvs=>?_⟩;unfold L7 at p1;by_cases hc:ds.length=[g,g2].length/\ds.all (B0 S1)=true
 ·rw [if_pos hc] at p1
  match ds,hc,rvs,p1 with
  | [d,d2],hc,rvs,p1=>
   cases rvs with
   | cons rv t=>
    obtain ⟨v2,rfl,rv2⟩:=pd t;rename_i v;have hc2:B0 S1 d=true/\B0 S1 d2=true:=by simpa using hc.2
    obtain ⟨q,ft⟩:=fS r1 rv hc2.1;obtain ⟨q2,ft2⟩:=fS r1 rv2 hc2.2;refine ⟨by show 2<=1000;decide,λx hx=>⟨x,v,v2,cl c,q,q2,rfl,M,na,nb,b6,ft.laid hx,ft2.laid hx,λH' got=>⟨rfl,?_⟩⟩⟩;obtain ⟨l2,r2,rd2⟩:=jE (c:=c) (ds:=[(g,d),(g2,d2)]) r1 hx M got λl=>.cons ⟨rfl,rv.later l⟩ (.cons ⟨rfl,rv2.later l⟩ .nil);obtain ⟨d0,_,_,g1,_⟩:=id got;exact p1 _ _ l2 r2 _ rd2 ⟨x,cl c,_,rfl,M,g1⟩
  | [],hc,_,_=>exact absurd hc.1 (by simp)
  | [_],hc,_,_=>exact absurd hc.1 (by simp)
  | _ :: _ :: _ :: _,hc,_,_=>exact absurd hc.1 (by simp)
 ·rw [if_neg hc] at p1;exact p1.elim
theorem pP {f:Addr} {fd:FuncData} {ps:List Str} {E:XK} {CX:CXT} {j:Str} {p:Pos} {c:Nat} (M:XC X.K (cl c)) (B:PySem.W.findIn X.K (.ref (cl c)) "__init__" = some (some (.ref f))) (A:PySem.W.isFn X.K (.ref f)=true) (F:FnOk X.prog X.w X.K X.mg X.base CX k f fd ps (Hn.spHE X.K)) (y:Room CX.q (k+1) X.A) (w:Gl X j) (s:X.mg j=some (.ref (cl c))) (t:Binds X.K fd ps []) (i:u7 CX X E)
  (r:PA X (e :: es) (tDs X.K cl xe fs)) (m:(j==("__debug__" : Str))=false) (hs:(e :: es).all noStar=true):PE X (.Call (.Name j p) (e :: es) [] pos) (tDf X.K cl xe λρ=>bind (fs ρ) (nP c)):=by
 rw [Fv,Ey] at hs;refine PE.imp (Y0 M B A F y w s t i r m (d9 hs.1) (i7 hs.2)) λσ H Q ⟨μ,S,ρ,z,q,P⟩=>?_;refine ⟨μ,S,ρ,z,q,P.bind.imp λds S1 h o D n b vs g=>?_⟩
 match ds,g,b with
 | [d],g,b=>
  obtain ⟨v,rfl,C⟩:=pd g;refine ⟨by show 1<=1000;decide,λx i=>⟨x,v,cl c,none,rfl,M,b6,rfl,?_⟩⟩;have k:∀ a u,o a=some u->upd o x (N9 x (cl c) none) a=some u:=λa u e=>by rw [a7 (b9 e i)];exact e
  have l:=Lat.pushed (μ:=h) i k;refine b _ _ l (n.pushed i k ⟨M,[],.nil,none,.inl ⟨rfl,b6⟩⟩) _ (.ref ?_) ⟨x,cl c,_,rfl,M,b6⟩;show (h.pl++[x])[S1.length]?=some x;rw [<- n.len];simp
 | [],_,b=>exact b.elim
 | _ :: _ :: _,_,b=>exact b.elim
def dN (g:Str) (d:D):M D:=match d with
 | .ref n=>λS=>match S[n]? with
  | some (.exc _ fs)=>match fs.lookup g with
   | some v=>.ok v S
   | none=>.bad
  | _=>.bad
 | _=>bad
theorem bz {K:PySem.W.Frag} {μ:Mp} {H:Hp} {g:Str} {d:D}:∀ {fs:List (Str×D)} {gs:List (Str×V)},gj K μ H fs gs->fs.lookup g=some d->∃ v,gs.lookup g=some v/\RD K μ H d v
 | _,_,.nil,e=>by cases e
 | _,_,.cons (a:=a) (b:=b) ⟨c,h2⟩ t,e=>by
  obtain ⟨h,k⟩:=a;obtain ⟨i,j⟩:=b;have c:=c;subst c;rw [Gi] at e ⊢;cases f:g==h with
  | true=>grind
  | false=>rw [f] at e;exact bz t e
theorem xf (hn:∀ c,XC X.K (cl c)->t9 X.K (cl c) g) (h:PE X e (tD X.K cl xe f)) (hb:p9 e=true):PE X (.Attribute e g pos) (tD X.K cl xe λρ=>bind (f ρ) (dN g)):=PE.imp (tO h (D9 hb)) λσ H Q ⟨μ,S,ρ,eo,rp,p⟩=>
 ⟨μ,S,ρ,eo,rp,p.bind.imp λd S1 μ1 H1 l1 r1 p1 v rv=>by
  cases rv with
  | ref h=>
   rename_i n a;simp only [dN] at p1;cases q1:S1[n]? with
   | none=>rw [q1] at p1;exact p1.elim
   | some o=>
    rw [q1] at p1;cases o with
    | dcT _=>exact p1.elim
    | exc c fs=>
     simp only at p1;obtain ⟨xc,gs,r,fr,h2⟩:=r1.ats n _ a q1 h;cases q2:fs.lookup g with
     | none=>rw [q2] at p1;exact p1.elim
     | some w=>
      rw [q2] at p1;obtain ⟨v,e1,r3⟩:=bz r q2;rcases h2 with ⟨z,e⟩ | ⟨d,n1,n2,e,e2⟩
      ·subst z;cases e1
      ·exact ⟨fr,a,cl c,d,gs,v,rfl,xc,hn c xc,e,e2,e1,p1 μ1 H1 (Lat.refl _ _) r1 _ r3⟩
    | lst _=>exact p1.elim
    | dct _=>exact p1.elim
  | _=>exact False.elim p1⟩
end
def tys:List String:=["NoneType","bool","int","str","tuple","list","dict"]
def subT (t T:String):Bool:=t==T||(t == "bool" && T == "int")
theorem uS (K:PySem.W.Frag):∀ t∈tys,∀ T∈tys,PySem.W.kitOne K (.type t) (.type T)=some (subT t T):=by
 intro t a T b;simp only [tys,EU,Hk,or_false] at a b;rcases a with rfl | rfl | rfl | rfl | rfl | rfl | rfl <;> rcases b with rfl | rfl | rfl | rfl | rfl | rfl | rfl <;> kernel_rfl
def tyD (S:Sto) (d:D):Option String:=match d with
 | .non=>some "NoneType"
 | .bl _=>some "bool"
 | .int _=>some "int"
 | .str _=>some "str"
 | .tup _=>some "tuple"
 | .lst _=>some "list"
 | .scr _=>some "list"
 | .ref n=>match S[n]? with
  | some (.lst _)=>some "list"
  | some (.dct _)=>some "dict"
  | _=>none
def dZ (T:String) (sx:Nat->Bool) (d:D):M D:=λS=>match tyD S d with
 | some t=>.ok (.bl (subT t T)) S
 | none=>match d with
  | .ref n=>match S[n]? with
   | some (.exc c _)=>.ok (.bl (sx c)) S
   | _=>.bad
  | _=>.bad
def u6 (sx:Nat->Bool) (d:D):M D:=λS=>match d with
 | .ref n=>match S[n]? with
  | some (.exc c _)=>.ok (.bl (sx c)) S
  | _=>.bad
 | _=>.bad
section
variable {X:Cx} {cl:ClW} {xe:Addr->Hp->Prop} {a:Expr} {pos p q:Pos} {f:Env->M D}
theorem jA {sx:Nat->Bool} (j:Au T=some c0) (g:∀ c,XC X.K (cl c)->PySem.W.kitOne X.K (.ref (cl c)) c0=some (sx c)) {pins:List (Addr×Obj)} {s:Shared} {σ:L2.St} {H:Hp} {us:List Value} {Q:VK} {μ:Mp} {S:Sto} {n:Nat} {b:Addr} {c:Nat} {fs:List (Str×D)} (I:L2.Inv X pins σ H s) (r:Vals [.ref b,T] us)
  (l:Rep X.K cl μ S H) (e:S[n]?=some (.exc c fs)) (h:μ.pl[n]?=some b) (q:Q (.bl (sx c)) H):wpAny (model X.prog X.w) X.A (call (.builtin "isinstance") us) (EP X pins σ Q) X.xe s:=by
 obtain ⟨a,gs,p,i,k⟩:=l.ats n _ b e h;rcases k with ⟨z,f⟩ | ⟨d,o,t,f,m⟩
 ·exact bt pins s σ H _ us Q I r ⟨i,b,cl c,none,T,c0,sx c,rfl,a,f,λ_ z=>(nomatch z),j,g c a,q⟩
 ·exact bt pins s σ H _ us Q I r ⟨i,b,cl c,some d,T,c0,sx c,rfl,a,f,λd' z=>by cases z;exact ⟨gs,m⟩,j,g c a,q⟩
theorem jX (hT:T∈tys) {pins:List (Addr×Obj)} {s:Shared} {σ:L2.St} {H:Hp} {us:List Value} {Q:VK} {μ:Mp} {S:Sto} {d:D} {v:V} {t:String} (I:L2.Inv X pins σ H s) (r:Vals [v,.ty T] us) (rd:RD X.K μ H d v) (rp:Rep X.K cl μ S H) (e:tyD S d=some t)
  (q:Q (.bl (subT t T)) H):wpAny (model X.prog X.w) X.A (call (.builtin "isinstance") us) (EP X pins σ Q) X.xe s:=by
 obtain ⟨u,u2,rfl,ru,ru2⟩:=eF r;cases (ru2);have ht:t∈tys:=by
  cases d <;> simp only [tyD] at e <;> first
   | (cases e;decide)
   | (split at e <;> first | (cases e;decide) | cases e)
 have hk:=uS X.K t ht T hT;have fin:∀ tk,EP X pins σ Q (.bool (subT t T)) { s with toks:=tk }:=λtk=>⟨.bl _,H,I.tok _,rfl,q⟩;have tupT:∀ {b:Addr} {xs:List V},SqT X.K H b xs->u=.ref b->t = "tuple"->wpAny (model X.prog X.w) X.A (call (.builtin "isinstance") [u,.type T]) (EP X pins σ Q) X.xe s:=λ{b xs} h eu et=>by
  subst eu et;obtain ⟨its,_,⟨o,h1,h2,_⟩,_⟩:=I.tuple h;exact FP PySem.W.kitx_tuple I.kIn ⟨o,h1,h2⟩ hk (λz=>nomatch z) fin
 have lstT:∀ {b:Addr} {xs:List V},SqL X.K H b xs->u=.ref b->t = "list"->wpAny (model X.prog X.w) X.A (call (.builtin "isinstance") [u,.type T]) (EP X pins σ Q) X.xe s:=λ{b xs} h eu et=>by
  subst eu et;obtain ⟨its,_,⟨o,n,h1,h2,_⟩,_⟩:=I.list h;exact FP PySem.W.kitx_list I.kIn ⟨o,h1,h2⟩ hk (λz=>nomatch z) fin
 cases rd with
 | non=>cases (ru);cases e;exact FP PySem.W.kitx_none I.kIn True.intro hk (λz=>nomatch z) fin
 | bl b=>cases (ru);cases e;exact FP PySem.W.kitx_bool I.kIn True.intro hk (λz=>nomatch z) fin
 | int i=>obtain ⟨tk,q⟩:=(ru);cases q;cases e;exact FP PySem.W.kitx_int I.kIn True.intro hk (λz=>nomatch z) fin
 | str x=>obtain ⟨tk,q⟩:=(ru);cases q;cases e;exact FP PySem.W.kitx_str I.kIn True.intro hk (λz=>nomatch z) fin
 | tup h r=>cases e;exact tupT h.sq ru rfl
 | lst h r=>cases e;exact lstT h.sq ru rfl
 | scr h r=>cases e;exact lstT h.sq ru rfl
 | ref h=>
  rename_i n b;simp only [tyD] at e;cases q1:S[n]? with
  | none=>rw [q1] at e;cases e
  | some o=>
   rw [q1] at e;cases o with
   | lst ds=>
    cases e;obtain ⟨xs,h1,h2⟩:=rp.ats n _ b q1 h;exact lstT (.inl (.inl h1)) ru rfl
   | dct kvs=>
    cases e;obtain ⟨ks,h1,h2⟩:=rp.ats n _ b q1 h;cases (ru);obtain ⟨_,_,vs,_,pp⟩:=(I.hok b _ h1);obtain ⟨o,es,ep,g1,g2,_⟩:=pp;exact FP PySem.W.kitx_dict I.kIn ⟨o,g1,g2.1⟩ hk (λz=>nomatch z) fin
   | exc _ _=>cases e
   | dcT _=>cases e
theorem gq {T:String} {sx:Nat->Bool} (hT:T∈tys\/T = "ValueError") (hk:∀ c,XC X.K (cl c)->PySem.W.kitOne X.K (.ref (cl c)) (.type T)=some (sx c)) (h:PE X a (tD X.K cl xe f)) (hg:Gl X "isinstance") (hm:X.mg "isinstance" = none) (hg2:Gl X x) (hm2:X.mg x=none) (hv:bootBuiltins x=some (.type T)) (hn:x ≠ "__name__") (hd:(x==("__debug__" : Str))=false) (hs:noStar a=true) :
  PE X (.Call (.Name "isinstance" p) [a,.Name x q] [] pos) (tD X.K cl xe λρ=>bind (f ρ) λd=>if T∈tys then dZ T sx d else u6 sx d):=by
 have key:j8 X (.builtin "isinstance") (λvs H Q=>∃ μ S d v,vs=[v,.ty T]/\RD X.K μ H d v/\Rep X.K cl μ S H/\Post X.K cl xe μ H ((if T∈tys then dZ T sx d else u6 sx d) S) λr _ μ' H'=>∀ v,RD X.K μ' H' r v->Q v H'):=by
  intro pins s σ H xs us Q I r ⟨μ,S,d,v,ev,rd,rp,P⟩;subst ev;have ex:∀ {n:Nat} {b:Addr} {c:Nat} {fs:List (Str×D)},v=.ref b->S[n]?=some (.exc c fs)->μ.pl[n]?=some b->Q (.bl (sx c)) H->wpAny (model X.prog X.w) X.A (call (.builtin "isinstance") us) (EP X pins σ Q) X.xe s:=λ{n b c fs} ev e h q=>by
   subst ev;exact jA rfl hk I r rp e h q
  by_cases ht:T∈tys
  ·rw [if_pos ht] at P;unfold dZ at P;cases e:tyD S d with
   | some t=>rw [e] at P;exact jX ht I r rd rp e (P μ H (Lat.refl _ _) rp _ (.bl _))
   | none=>
    rw [e] at P;cases rd with
    | ref h=>
     rename_i n b;simp only at P;cases q1:S[n]? with
     | none=>rw [q1] at P;exact P.elim
     | some o=>
      rw [q1] at P;cases o with
      | dcT _=>exact P.elim
      | exc c fs=>exact ex rfl q1 h (P μ H (Lat.refl _ _) rp _ (.bl _))
      | lst _=>exact P.elim
      | dct _=>exact P.elim
    | _=>exact False.elim P
  ·rw [if_neg ht] at P;unfold u6 at P;cases rd with
   | ref h=>
    rename_i n b;simp only at P;cases q1:S[n]? with
    | none=>rw [q1] at P;exact P.elim
    | some o=>
     rw [q1] at P;cases o with
     | dcT _=>exact P.elim
     | exc c fs=>exact ex rfl q1 h (P μ H (Lat.refl _ _) rp _ (.bl _))
     | lst _=>exact P.elim
     | dct _=>exact P.elim
   | _=>exact False.elim P
 have hb:PE X (.Name x q) (tC (.ty T)):=qM hg2 hm2 hv rfl hn hd;refine PE.imp (Q8 key hg hm (by rfl) (f8 h (f8 hb y4 (d9 rfl)) (d9 hs)) (by decide) (by decide) (d9 hs) (i7 rfl)) λσ H Q ⟨μ,S,ρ,eo,rp,P⟩=>?_;exact ⟨μ,S,ρ,eo,rp,P.bind.imp λd S1 μ1 H1 l1 r1 p1 v rv=>⟨μ1,S1,d,v,rfl,rv,r1,p1⟩⟩
theorem tY {c0:Nat} {sx:Nat->Bool} (hk:∀ c,XC X.K (cl c)->PySem.W.kitOne X.K (.ref (cl c)) (.ref (cl c0))=some (sx c)) (h:PE X a (tD X.K cl xe f)) (hg:Gl X "isinstance") (hm:X.mg "isinstance" = none) (hg2:Gl X x) (hm2:X.mg x=some (.ref (cl c0))) (hd:(x==("__debug__" : Str))=false) (hs:noStar a=true) :
  PE X (.Call (.Name "isinstance" p) [a,.Name x q] [] pos) (tD X.K cl xe λρ=>bind (f ρ) λd=>u6 sx d):=by
 have key:j8 X (.builtin "isinstance") (λvs H Q=>∃ μ S d v,vs=[v,.ref (cl c0)]/\RD X.K μ H d v/\Rep X.K cl μ S H/\Post X.K cl xe μ H (u6 sx d S) λr _ μ' H'=>∀ v,RD X.K μ' H' r v->Q v H'):=by
  intro pins s σ H xs us Q I r ⟨μ,S,d,v,ev,rd,rp,P⟩;subst ev;unfold u6 at P;cases rd with
  | ref h=>
   rename_i n b;simp only at P;cases q1:S[n]? with
   | none=>rw [q1] at P;exact P.elim
   | some o=>
    rw [q1] at P;cases o with
    | dcT _=>exact P.elim
    | exc c fs=>exact jA rfl hk I r rp q1 h (P μ H (Lat.refl _ _) rp _ (.bl _))
    | lst _=>exact P.elim
    | dct _=>exact P.elim
  | _=>exact False.elim P
 have hb:PE X (.Name x q) (tC (.ref (cl c0))):=cT hg2 hm2 rfl hd;refine PE.imp (Q8 key hg hm (by rfl) (f8 h (f8 hb y4 (d9 rfl)) (d9 hs)) (by decide) (by decide) (d9 hs) (i7 rfl)) λσ H Q ⟨μ,S,ρ,eo,rp,P⟩=>?_;exact ⟨μ,S,ρ,eo,rp,P.bind.imp λd S1 μ1 H1 l1 r1 p1 v rv=>⟨μ1,S1,d,v,rfl,rv,r1,p1⟩⟩
end
section
variable {X:Cx}
variable {cl:ClW} {xe:Addr->Hp->Prop}
def E4:List D->Option (List Int)
 | []=>some []
 | .int i :: ds=>(E4 ds).map (i :: ·)
 | _=>none
theorem ce {K:PySem.W.Frag} {μ:Mp} {H:Hp}:∀ {ds:List D} {vs:List V} {ns:List Int},E4 ds=some ns->RDs K μ H ds vs->vs=ns.map V.int
 | [],_,ns,e,r=>by cases r;cases e;rfl
 | d :: ds,_,ns,e,r=>by
  cases r with
  | cons h t=>
   cases d <;> try (simp [E4] at e;done)
   case int i=>
    simp only [E4] at e;cases a:E4 ds with
    | none=>rw [a] at e;cases e
    | some b=>
     rw [a] at e;cases e;cases h;rw [ce a t];rfl
def P9:List Int->Option Int
 | []=>none
 | n :: ns=>some (match P9 ns with
  | none=>n
  | some m=>if n<m then m else n)
theorem uA:∀ {ns:List Int} {M:Int},M∈ns->(∀ a∈ns,a<=M)->P9 ns=some M
 | [],_,h,_=>by cases h
 | [n],M,h,_=>by simp at h;subst h;rfl
 | n :: k :: ns,M,h,q=>by
  obtain ⟨t,e⟩:∃ t,P9 (k :: ns)=some t:=⟨_,rfl⟩;have he:P9 (n :: k :: ns)=some (if n<t then t else n):=by rw [P9,e]
  rw [he];have top:∀ {l:List Int} {t:Int},P9 l=some t->t∈l/\∀ a∈l,a<=t:=by
   intro l;induction l with
   | nil=>intro t e;cases e
   | cons x l ih=>
    intro t e;cases h2:P9 l with
    | none=>
     cases l with
     | nil=>simp only [P9] at e;cases e;exact ⟨EL ..,λa ha=>by simp at ha;omega⟩
     | cons y l=>simp [P9] at h2
    | some m=>
     obtain ⟨m1,m2⟩:=ih h2;simp only [P9,h2] at e;cases e;by_cases hx:x<m
     ·rw [if_pos hx];exact ⟨EM _ m1,λa ha=>by
       rcases EU.mp ha with z | z
       ·omega
       ·exact m2 a z⟩
     ·rw [if_neg hx];exact ⟨EL ..,λa ha=>by
       rcases EU.mp ha with z | z
       ·omega
       ·have:=m2 a z;omega⟩
  obtain ⟨t1,t2⟩:=top e;congr 1;by_cases hx:n<t
  ·rw [if_pos hx];have a1:=q t (EM _ t1);rcases EU.mp h with z | z
   ·omega
   ·have:=t2 M z;omega
  ·rw [if_neg hx];have a1:=q n (EL ..);rcases EU.mp h with z | z
   ·omega
   ·have:=t2 M z;omega
theorem D1:∀ {ns:List Int} {us:List Value},Vals (ns.map V.int) us->∃ xs:List (Int×Tok),us=xs.map (λp=>Value.int p.1 p.2)/\xs.map (·.1)=ns
 | [],_,r=>by cases r;exact ⟨[],rfl,rfl⟩
 | n :: ns,_,r=>by
  cases r with
  | cons h t=>
   obtain ⟨k,rfl⟩:=(h);obtain ⟨xs,a,b⟩:=D1 t;exact ⟨(n,k) :: xs,by rw [a];rfl,by rw [Fb,b]⟩
theorem kU (hc:X.calm=true):j8 X (.builtin "max") (λxs H Q=>∃ (p:Addr) (ns:List Int),xs=[.ref p]/\SqL X.K H p (ns.map V.int)/\∃ M,P9 ns=some M/\Q (.int M) H):=by
 intro pins s σ H xs us Q I r h;obtain ⟨p,ns,rfl,hq,M,hM,q⟩:=h;obtain ⟨u,rfl,rx⟩:=ao r;cases rx;obtain ⟨its,r',pl,hz⟩:=I.list hq;have hh:X.A.handled=none:=I.ok.hd hc;obtain ⟨ys,e1,e2⟩:=D1 r';have e3:its.toArray=intItems ys.toArray:=by rw [e1];simp [intItems]
 have hne:0<ys.toArray.size:=by
  cases ys with
  | nil=>cases e2;cases hM
  | cons y ys=>simp
 refine max_intList hh (xs:=ys.toArray) (by rw [<- e3];exact pl.isList) hne λv h' tk hv hk=>?_;obtain ⟨t,rfl⟩:=intItems_at hv;obtain ⟨h1,h2⟩:=argBest_gt (numAt ys.toArray) (ys.toArray.size-1);have hm:P9 ns=some (numAt ys.toArray (argBest (λi j=>decide (numAt ys.toArray i > numAt ys.toArray j)) (ys.toArray.size-1))):=by
  refine uA ?_ λa ha=>?_
  ·rw [numAt_eq,<- e2];refine getD_mem ?_;have e5:ys.toArray.size=ys.length:=EN;rw [e5] at h1 hne;rw [Es];show _<ys.length;rw [e5];omega
  ·rw [<- e2] at ha;obtain ⟨j,hj,rfl⟩:=mem_getD (l:=ys.toArray.toList.map (·.1)) ha;rw [Es,Array.length_toList] at hj;rw [<- numAt_eq];exact h2 j (by omega)
 rw [hM] at hm;cases hm;exact ⟨.int _,H,I.kept (t':=tk) λb o eb=>hk b o eb,⟨t,rfl⟩,q⟩
def jw (ds:List D):M D:=match ds with
 | [.int i,.int j]=>ret (.int (if j > i then j else i))
 | [d]=>bind (lstOf d) λes=>match (E4 es).bind P9 with
  | some m=>ret (.int m)
  | none=>bad
 | _=>bad
theorem Bn (i:X.calm=true):j8 X (.builtin "max") (rPs X.K cl xe jw):=by
 intro pins s σ H xs us Q I r ⟨μ,S,ds,b,f,p⟩;unfold jw at p;split at p
 ·cases b with
  | cons h t=>cases t with
   | cons g j=>
    cases j;cases h;cases g;exact jj i pins s σ H _ us Q I r ⟨_,_,rfl,p μ H (Lat.refl _ _) f _ (.int _)⟩
 ·rename_i d;cases b with
  | cons h t=>
   cases t;obtain ⟨a,xs,es,rfl,k,g,l⟩:=o8 h f p.bind;have p:=p.ok_bind l;cases e:E4 es with
   | none=>rw [e] at p;exact p.elim
   | some ns=>
    rw [e] at p;cases c:P9 ns with
    | none=>simp only [FX,c] at p;exact p.elim
    | some m=>
     simp only [FX,c] at p;have:=ce e g;subst this;exact kU i pins s σ H _ us Q I r ⟨a,ns,rfl,.inl (.inl k),m,c,p μ H (Lat.refl _ _) f _ (.int _)⟩
 ·exact p.elim
def kC (d:D):M D:=match d with
 | .int i=>ret (.int (-i))
 | _=>bad
theorem lX:UnR X (unaryOp .USub) (λx H Q=>∃ μ S d,RD X.K μ H d x/\Rep X.K cl μ S H/\Post X.K cl xe μ H (kC d S) λr _ μ' H'=>∀ v,RD X.K μ' H' r v->Q v H'):=by
 intro pins s σ H x v Q I rx ⟨μ,S,d,rd,rp,p⟩;cases rd with
 | int i=>exact yN pins s σ H _ v Q I rx ⟨i,rfl,p μ H (Lat.refl _ _) rp _ (.int _)⟩
 | _=>exact False.elim p
theorem yJ (h:PE X a (tD X.K cl xe f)):PE X (.UnaryOp .USub a pos) (tD X.K cl xe λρ=>bind (f ρ) kC):=
 PE.imp (Ap lX h) λσ H Q ⟨μ,S,ρ,c,e,p⟩=>⟨μ,S,ρ,c,e,p.bind.imp λd S1 b k l i g v j=>⟨b,S1,d,j,i,g⟩⟩
end
section
variable {X:Cx} {cl:ClW} {xe:Addr->Hp->Prop} {o e:Expr} {es:List Expr} {f:Env->M D} {fs:Env->M (List D)} {apos cpos:Pos}
def tupOf (x:D):M (List D):=match x with
 | .tup ds=>ret ds
 | _=>bad
end
section
variable {X:Cx} {cl:ClW} {xe:Addr->Hp->Prop} {o e:Expr} {es:List Expr} {f:Env->M D} {fs:Env->M (List D)} {apos cpos:Pos} {name:Str} {T T2 id id2:String} {r r2:V->List V->Hp->VK->Prop} {α:Type}
def Looks (K:PySem.W.Frag) (cl:ClW) (xe:Addr->Hp->Prop) (T:String) (g:D->M α):Prop:=∀ (μ:Mp) (S:Sto) (H:Hp) (x:D) (v:V) (G:α->Sto->Mp->Hp->Prop),RD K μ H x v->Rep K cl μ S H->Post K cl xe μ H (g x S) G->tyV K T v H/\∃ a,g x S=.ok a S
def CO (K:PySem.W.Frag) (cl:ClW) (xe:Addr->Hp->Prop) (r:V->List V->Hp->VK->Prop) (op:D->List D->M D):Prop:=∀ (μ:Mp) (S:Sto) (H:Hp) (x:D) (v:V) (ds:List D) (vs:List V) (Q:VK),RD K μ H x v->RDs K μ H ds vs->Rep K cl μ S H->Post K cl xe μ H (op x ds S) (λd _ μ' H'=>∀ w,RD K μ' H' d w->Q w H')->r v vs H Q
theorem uW (B:PlainAttrs T) (c:Slot T name id) (i:typeOf (.builtin id)=pure (.type "method_descriptor")) (s:MtR X id r) (t:Looks X.K cl xe T g) (hd:CO X.K cl xe r op) (F:PE X o (tD X.K cl xe f)) (v:PA X (e :: es) (tDs X.K cl xe fs))
  (G:p9 o=true) (hs:(e :: es).all noStar=true) (C:K9 (e :: es)=true) (E:(apos.endLine==cpos.line)=true) :
  PE X (.Call (.Attribute o name apos) (e :: es) [] cpos) (tD X.K cl xe λρ=>bind (f ρ) λx=>bind (g x) λ_=>bind (fs ρ) λds=>op x ds):=by
 have b:=hs;rw [Fv,Ey] at b;refine PE.imp (vM B c i s F v (D9 G) (nT hs C) E (d9 b.1) (i7 b.2)) λσ H Q ⟨μ,S,ρ,l,w,p⟩=>?_;refine ⟨μ,S,ρ,l,w,p.bind.imp λx S1 d J u m h n k=>?_⟩;obtain ⟨I,a,D⟩:=t d S1 J x n _ k m h.bind;have h:=h.ok_bind D;exact ⟨I,d,S1,ρ,l.later u,m,h.bind.imp λds S2 μ2 A q y z vs j=>hd μ2 S2 A x n ds vs Q (k.later q) j y z⟩
theorem gL:Looks X.K cl xe "list" lstOf:=λμ S H x v G b c p=>by
 obtain ⟨a,xs,ds,rfl,d,f,e⟩:=o8 b c p;exact ⟨.inl ⟨rfl,_,.inl (.inl d)⟩,ds,e⟩
theorem dR {K:PySem.W.Frag} {μ:Mp} {H:Hp} {k:Key}:∀ {a:List (Key×D)} {c:List (Key×V)},KvsAt K μ H a c->Y7 a k=none->O2 c k=none
 | _,_,.nil,_=>rfl
 | p :: r,q :: f,.cons ⟨d,g⟩ t,e=>by
  unfold Y7 at e;unfold O2;rw [FB] at e ⊢;rw [<- d];cases b:decide (p.1=k) with
  | true=>rw [b] at e;cases e
  | false=>
   rw [b] at e;exact dR t e
end
end L3
namespace L2
open PySem PySem.Spec PyProof.Rows
theorem bp:∀ {cs:List Addr} {us:List Value},Vals (cs.map V.ref) us->us=cs.map Value.ref
 | [],_,h=>by cases h;rfl
 | c :: cs,_,h=>by
  cases h with
  | cons r t=>
   have e:=bp t;subst e;cases (r);rfl
theorem aA:j8 X (.builtin "isinstance") (λxs H Q=>∃ f x C d a,∃ (cs:List Addr) (b:Bool),xs=[.ref x,.ref a]/\XC X.K C/\H x=some (L5 f x C d)/\(∀ d',d=some d'->∃ fs,H d'=some (F6 d' fs))/\H a=some (.tup (cs.map V.ref))/\PySem.W.kitAny X.K (.ref C) (cs.map Value.ref)=some b/\Q (.bl b) H):=by
 intro pins s σ H xs us Q I r h;obtain ⟨f,x,C,d,a,cs,b,rfl,M,g,hd,v,j,q⟩:=h;obtain ⟨u,F,rfl,D,c⟩:=eF r;cases (D);cases (c);have J:∃ ox od,PySem.W.InstAt s.heap x ox C od:=by
  cases d with
  | none=>obtain ⟨ox,J⟩:=(I.isX g).inst0;exact ⟨ox,_,J⟩
  | some d'=>
   obtain ⟨fs,k⟩:=hd d' rfl;obtain ⟨mA,i,_⟩:=I.isD k;obtain ⟨od,e,_⟩:=K7 i;obtain ⟨ox,J⟩:=(I.isX g).inst1 e;exact ⟨ox,_,J⟩
 obtain ⟨_,p,A,o,t,y,n,hs,l⟩:=I.hok a _ v;have B:=bp A;subst B;obtain ⟨E,od,m,w⟩:=o;cases (y);cases (hs);exact PySem.W.kia_tup (Be M.xc) I.kIn J t j (λz=>nomatch z) λG=>⟨.bl b,H,I.tok _,rfl,q⟩
end L2
namespace L3
open PySem PySem.Spec PyProof.Rows L2
inductive NamesC (X:Cx) (cl:ClW):List Expr->List Nat->Prop where
 | nil:NamesC X cl [] []
 | cons {x:Str} {p:Pos} {c:Nat} {es:List Expr} {cs:List Nat}:Gl X x->X.mg x=some (.ref (cl c))->(x==("__debug__" : Str))=false->NamesC X cl es cs->NamesC X cl (.Name x p :: es) (c :: cs)
section
variable {X:Cx} {cl:ClW} {xe:Addr->Hp->Prop} {a:Expr} {f:Env->M D} {pos p q:Pos}
theorem nK {es:List Expr} {cs:List Nat} (h:NamesC X cl es cs):PA X es λ_ H Q=>Q (cs.map λc=>V.ref (cl c)) H:=by
 induction h with
 | nil=>exact y4
 | @cons x p c es cs h1 h2 h3 _ ih=>exact f8 (te:=tC (.ref (cl c))) (t:=λ_ H Q=>Q (cs.map λc=>V.ref (cl c)) H) (cT h1 h2 rfl h3) ih rfl
theorem iz {K:PySem.W.Frag} {t:Value} {g:Nat->Value} {s:Nat->Bool}:∀ {cs:List Nat},(∀ c∈cs,PySem.W.kitOne K t (g c)=some (s c))->PySem.W.kitAny K t (cs.map g)=some (cs.any s)
 | [],_=>rfl
 | c :: cs,h=>by
  have a:=h c (by simp);show (match PySem.W.kitOne K t (g c) with
   | some true=>some true
   | some false=>PySem.W.kitAny K t (cs.map g)
   | none=>none)=_
  rw [a,GL];cases s c with
  | true=>rfl
  | false=>exact iz λc b=>h c (by simp [b])
theorem jZ {cs:List Nat} {k:Nat} {sub:Nat->Nat->Bool} (hk:∀ c0∈cs,∀ c,XC X.K (cl c)->PySem.W.kitOne X.K (.ref (cl c)) (.ref (cl c0))=some (sub c c0)) (hl:cs.length<=1000) (h:PE X a (tD X.K cl xe f)) (hg:Gl X "isinstance") (hm:X.mg "isinstance" = none) (hn:NamesC X cl ys cs) (hs:noStar a=true) :
  PE X (.Call (.Name "isinstance" p) [a,.Tuple ys k q] [] pos) (tD X.K cl xe λρ=>bind (f ρ) λd=>u6 (λc=>cs.any λc0=>sub c c0) d):=by
 have key:j8 X (.builtin "isinstance") (λvs H Q=>∃ μ S d v tp,vs=[v,.ref tp]/\H tp=some (.tup (cs.map λc=>V.ref (cl c)))/\RD X.K μ H d v/\Rep X.K cl μ S H/\Post X.K cl xe μ H (u6 (λc=>cs.any λc0=>sub c c0) d S) λr _ μ' H'=>∀ v,RD X.K μ' H' r v->Q v H'):=by
  intro pins s σ H xs us Q I r ⟨μ,S,d,v,tp,ev,et,rd,rp,P⟩;subst ev;unfold u6 at P;cases rd with
  | ref h=>
   rename_i n b;simp only at P;cases q1:S[n]? with
   | none=>rw [q1] at P;exact P.elim
   | some o=>
    rw [q1] at P;cases o with
    | dcT _=>exact P.elim
    | exc c fs=>
     have q:=P μ H (Lat.refl _ _) rp _ (.bl _);obtain ⟨xc,gs,r2,fr,h2⟩:=rp.ats n _ b q1 h;have kk:=iz λc0 hc=>hk c0 hc c xc;have et':H tp=some (.tup ((cs.map cl).map V.ref)):=by rw [List.map_map];exact et
     have kk':PySem.W.kitAny X.K (.ref (cl c)) ((cs.map cl).map Value.ref)=some (cs.any λc0=>sub c c0):=by rw [List.map_map];exact kk
     rcases h2 with ⟨z,e2⟩ | ⟨d,n1,n2,e2,e3⟩
     ·exact aA pins s σ H _ us Q I r ⟨fr,b,cl c,none,tp,cs.map cl,_,rfl,xc,e2,λ_ z=>(nomatch z),et',kk',q⟩
     ·exact aA pins s σ H _ us Q I r ⟨fr,b,cl c,some d,tp,cs.map cl,_,rfl,xc,e2,λd' z=>by cases z;exact ⟨gs,e3⟩,et',kk',q⟩
    | lst _=>exact P.elim
    | dct _=>exact P.elim
  | _=>exact False.elim P
 refine PE.imp (Q8 key hg hm (by rfl) (f8 h (f8 (pX (nK hn)) y4 (d9 rfl)) (d9 hs)) (by decide) (by decide) (d9 hs) (i7 rfl)) λσ H Q ⟨μ,S,ρ,eo,rp,P⟩=>?_;refine ⟨μ,S,ρ,eo,rp,P.bind.imp λd S1 μ1 H1 l1 r1 p1 v rv=>⟨by rw [Es];rw [Fj];omega,λz hz=>?_⟩⟩;have l:=Lat.laid (μ:=μ1) (o:=.tup (cs.map λc=>V.ref (cl c))) hz;exact ⟨μ1,S1,d,v,z,rfl,b6,rv.later l,r1.laid hz,p1.later l⟩
end
def y0:List D->Option (List Str)
 | []=>some []
 | .str x :: ds=>(y0 ds).map (x :: ·)
 | _=>none
theorem hV {K:PySem.W.Frag} {μ:Mp} {H:Hp}:∀ {es:List D} {xs:List V} {ys:List Str},y0 es=some ys->RDs K μ H es xs->xs=ys.map V.str
 | [],_,_,e,r=>by cases e;cases r;rfl
 | d :: es,_,ys,e,r=>by
  cases d with
  | str x=>
   simp only [y0] at e;cases q:y0 es with
   | none=>rw [q] at e;cases e
   | some zs=>
    rw [q] at e;cases e;cases r with
    | cons h t=>cases h;rw [hV q t];rfl
  | _=>simp only [y0] at e;cases e
theorem T4:∀ {ys:List Str} {us:List Value},Vals (ys.map V.str) us->StrsAre us ys
 | [],_,h=>by cases h;exact .nil
 | y :: ys,_,h=>by
  cases h with
  | cons r t=>
   obtain ⟨tk,rfl⟩:=r;exact .cons _ _ (T4 t)
def L9:List Int->Int
 | []=>0
 | x :: xs=>x+L9 xs
theorem eI:∀ (xs ys:List Int),L9 (xs++ys)=L9 xs+L9 ys
 | [],ys=>by show L9 ys=0+L9 ys;omega
 | x :: xs,ys=>by show x+L9 (xs++ys)=x+L9 xs+L9 ys;rw [eI xs ys];omega
theorem hX (ns:List Int):∀ j,j<=ns.length->preSum (λi=>ns.getD i 0) j=L9 (ns.take j)
 | 0,_=>by simp [preSum,L9]
 | j+1,h=>by
  have a:j<ns.length:=by omega
  rw [He a,eI,<- hX ns j (by omega)];show preSum _ j+ns.getD j 0=preSum _ j+(ns[j]+0);simp [a]
section
variable {X:Cx} {cl:ClW} {xe:Addr->Hp->Prop}
theorem iB {σ:L2.St} {H:Hp} {Q:VK} {ns:List Int} {t':Nat} {o:Obj} (I:L2.Inv X pins σ H s) (q:Q (.int (L9 ns)) H) {m:Nat} (d:m=ns.length)
  (h:Moved [s.heap.objs.size] (λa b=>b=a) { s with heap:=s.heap.push o } s'):EP X pins σ Q (.int (preSum (λi=>ns.getD i 0) m) t') s':=by
 have e:preSum (λi=>ns.getD i 0) m=L9 ns:=by rw [d,hX ns ns.length (EI _),Hl]
 rw [e];obtain ⟨k,g,f,j,n⟩:=h;have es:s'={ s with heap:=s'.heap,toks:=s'.toks }:=by
  cases s';cases s;subst g f j;rfl
 rw [es];refine ⟨.int (L9 ns),H,I.kept λb o c=>?_,⟨_,rfl⟩,q⟩;have l:=EK c;exact k b o (by simp;exact EQ l) (Ew _ c)
theorem fH {ns:List Int} {a:List Value} (d:Vals (ns.map V.int) a):∀ (i:Nat) (v:Value),a.toArray[i]?=some v->∃ t,v=Value.int (ns.getD i 0) t:=by
 intro i v c;rw [List.getElem?_toArray] at c;have h:a.length=ns.length:=by rw [<- d.length,Es]
 have g:i<ns.length:=by
  have b:=(Et.mp c).1;omega
 obtain ⟨u,f,e⟩:=Vals.get d (by rw [Fq,Ez g];rfl);rw [f] at c;cases c;obtain ⟨t,rfl⟩:=e;grind
theorem oF {s:Shared} {p:Addr} {o:Obj} (d:p<s.heap.objs.size) (c:o.isFreed=false:=by rfl):∀ b∈[s.heap.objs.size,p],b<(s.heap.push o).objs.size:=by
 intro b a;rcases EU.mp a with rfl | a
 ·simp_all
 ·rw [EZ.mp a];exact Nat.lt_trans d (EK (ET _ c))
theorem eW (l:X.calm=true):j8 X (.builtin "sum") (λxs H Q=>∃ (p:Addr) (ns:List Int),xs=[.ref p]/\(SqL X.K H p (ns.map V.int)\/SqT X.K H p (ns.map V.int))/\Q (.int (L9 ns)) H):=by
 intro pins s σ H xs us Q I r h;obtain ⟨p,ns,rfl,d,q⟩:=h;obtain ⟨u,rfl,k⟩:=ao r;cases k;have j:=I.ok.hd l;rcases d with d | d
 ·obtain ⟨a,b,pl,hz⟩:=I.list d;have c:p<s.heap.objs.size:=by
   obtain ⟨o,e,_⟩:=pl.isList;exact EK e
  have f:a.toArray.size=ns.length:=by rw [EN,<- b.length,Es]
  exact call_sum_walkAnyS (wpAny_pyIter_list pl.isList ⟨s.heap.objs.size,[s.heap.objs.size,p],[s.heap.objs.size],_,a.toArray.size,_,_,λi=>ns.getD i 0,rfl,(Walks.list (A:=X.A.in1) (j) _ _ (EQ c) a.toArray).toS,⟨⟨_,ET _ rfl,rfl,rfl⟩,pl.isList.push _⟩,oF c,fH b,λs' t' m=>iB I q f m⟩)
 ·obtain ⟨a,b,⟨o,e,g,n,hd⟩,hz⟩:=I.tuple d;have pl:s.heap.IsTuple p a.toArray:=⟨o,e,g,n,hd⟩;have c:=EK e;have f:a.toArray.size=ns.length:=by rw [EN,<- b.length,Es]
  exact call_sum_walkAnyS (Gn pl ⟨s.heap.objs.size,[s.heap.objs.size,p],[s.heap.objs.size],_,a.toArray.size,_,_,λi=>ns.getD i 0,rfl,(Walks.tuple (A:=X.A.in1) (j) _ _ (EQ c) a.toArray).toS,⟨⟨_,ET _ rfl,rfl,rfl⟩,pl.push _⟩,oF c,fH b,λs' t' m=>iB I q f m⟩)
def qF (d:D):M D:=bind (V4 d) λds=>match E4 ds with
 | some ns=>ret (.int (L9 ns))
 | none=>bad
theorem By (g:X.calm=true):j8 X (.builtin "sum") (rPs X.K cl xe (one qF)):=cH λpins s σ H μ S d v us Q I r h b p=>by
 obtain ⟨a,xs,ds,rfl,i,f,c⟩:=nR h b p.bind;have p:=p.ok_bind c;cases e:E4 ds with
 | none=>rw [e] at p;exact p.elim
 | some ns=>
  rw [e] at p;have:=ce e f;subst this;exact eW g pins s σ H _ us Q I r ⟨a,ns,rfl,i,p μ H (Lat.refl _ _) b _ (.int _)⟩
end
def countT (x:D) (ds:List D):M D:=match x,ds with
 | .tup es,[.str w]=>(match y0 es with
  | some ys=>ret (.int (countIn (.str w) (ys.map PyData.str)))
  | none=>bad)
 | _,_=>bad
section
variable {X:Cx} {cl:ClW} {xe:Addr->Hp->Prop}
theorem jS:Looks X.K cl xe "tuple" tupOf:=λμ S H x v G rx rp p=>by
 cases rx with
 | tup h0 r0=>
  refine ⟨?_,_,rfl⟩;rcases h0 with ⟨q,_,_⟩ | ⟨o,its,n,c1,c2,c3,c4,c5,c6⟩
  ·exact .inr (.inr (.inr (.inr ⟨rfl,_,q⟩)))
  ·exact .inr (.inl ⟨rfl,o,c1,c2,c6⟩)
 | _=>exact False.elim p
theorem jc:MtR X "tuple.count" (λx vs H Q=>∃ (p:Addr) (ys:List Str) (w:Str),x=.ref p/\vs=[.str w]/\SqT X.K H p (ys.map V.str)/\Q (.int (countIn (.str w) (ys.map PyData.str))) H):=by
 intro pins s σ H x vs v us Q I e j h;obtain ⟨p,ys,w,rfl,rfl,l,q⟩:=h;cases e;obtain ⟨u,rfl,o⟩:=j.one;obtain ⟨t,rfl⟩:=o;obtain ⟨a,d,⟨⟨f,g,c,i⟩,b,k,n,hd⟩,hz⟩:=I.tuple l;subst k hd;refine Gy HH ⟨_,b,rfl⟩ PySem.F.entry_tuple_count (PySem.F.args_tuple_count_2 _ _) (PySem.SeqAt.tuple_countAt p a.toArray n g i (.str w t) (isStrOf w)) ⟨b,λy m=>(eq_isStrOf w t (T4 d) y (by simpa using m)).at _ _,?_⟩;rw [show a.toArray.toList=a from rfl,countP_isStrOf_map w (T4 d)];exact ⟨.int _,H,I.tok _,⟨_,rfl⟩,q⟩
theorem fF:CO X.K cl xe (λx vs H Q=>∃ (p:Addr) (ys:List Str) (w:Str),x=.ref p/\vs=[.str w]/\SqT X.K H p (ys.map V.str)/\Q (.int (countIn (.str w) (ys.map PyData.str))) H) countT:=λμ S H x v ds vs Q rx rvs rp p=>by
 unfold countT at p;split at p
 ·rename_i es w;cases rx with
  | tup h0 r0=>
   cases rvs with
   | cons h t=>
    cases t;cases h;cases q:y0 es with
    | none=>rw [q] at p;exact p.elim
    | some ys=>
     rw [q] at p;have ex:=hV q r0;subst ex;exact ⟨_,ys,w,rfl,rfl,h0.sq,p μ H (Lat.refl _ _) rp _ (.int _)⟩
 ·exact p.elim
end
def CXr (P:Program) (w:World) (K:PySem.W.Frag):List PySem.Env->Hp->Shared->XK->Value->Shared->Prop:=λb H s E e s'=>
 ∃ a C d c H',e=.ref a/\s'.os=s.os/\AllBare s'.gens/\Un (frs b) [] H H' s.heap s'.heap/\HOk P w H' s'.heap/\Fx K H' a C d c/\E e none H'
abbrev CXd (P:Program) (w:World) (K:PySem.W.Frag):CXT:=⟨CXr P w K,false⟩
section
variable {K:PySem.W.Frag} {cl:ClW} {xe xe':Addr->Hp->Prop} {α β:Type} {μ:Mp} {H H':Hp} {S:Sto} {a C:Addr} {d tb:Option Addr} {P:Program} {w:World} {h:Heap}
theorem Post.ximp {G:α->Sto->Mp->Hp->Prop} (p:Post K cl xe μ H r G) (k:∀ n S μ' H' a,r=.exn n S->Lat μ H μ' H'->Rep K cl μ' S H'->μ'.pl[n]?=some a->xe a H'->xe' a H'):Post K cl xe' μ H r G:=by
 cases r with
 | ok a S=>exact p
 | exn n S=>exact λμ' H' a l r e=>k n S μ' H' a rfl l r e (p μ' H' a l r e)
 | bad=>exact p
def nx (m:M α):M α:=λS=>match m S with
 | .exn _ _=>.bad
 | r=>r
theorem Post.nx {G:α->Sto->Mp->Hp->Prop} (p:Post K cl xe μ H (nx m S) G):Post K cl xe' μ H (m S) G:=by
 unfold L3.nx at p;cases e:m S with
 | ok a S1=>rw [e] at p;exact p
 | exn n S1=>rw [e] at p;exact p.elim
 | bad=>rw [e] at p;exact p
theorem nt (f:HOk P w H h) (o:OAt K cl μ H a (.exc c fs)) (e:H a=some (L5 tb a C d)) (j:∀ T,tb=some T->T≠a/\H T=some (TbO T)):C=cl c/\Fx K H a C d tb:=by
 obtain ⟨k,gs,q,p,o⟩:=o;obtain ⟨vs,l,_⟩:=(f a _ e).1;rcases o with ⟨z,g⟩ | ⟨d',n,r,g,m⟩
 ·obtain ⟨i,b,_⟩:=(f a _ g).1;rw [l] at b;cases b;exact ⟨rfl,k,e,λd' z=>(nomatch z),j⟩
 ·obtain ⟨i,b,_⟩:=(f a _ g).1;rw [l] at b;cases b;exact ⟨rfl,k,e,λs z=>by cases z;exact ⟨n,gs,m⟩,j⟩
theorem Rep.mv {n:Nat} (r:Rep K cl μ S H) (hk:HOk P w H h) (e:μ.pl[n]?=some a) (fx:H a=some (L5 tb a C d)) (m:Mv H a C d H'):Lat μ H μ H'/\Rep K cl μ S H':=by
 have am:=EY e;have l:Lat μ H μ H':=⟨λ_ _ h=>h,λb o q nb=>m.1 b o (λz=>nb (z▸am)) q,λ_ h=>.inl h,rfl⟩;refine ⟨l,r.len,r.nd,λi o b e1 e2=>?_,λb mb=>let ⟨h1,u,h2⟩:=r.res b mb;⟨h1,u,l.oth _ _ h2 h1⟩⟩;have ho:=r.ats i o b e1 e2;by_cases hb:b=a
 ·subst hb;cases o with
  | lst ds=>obtain ⟨xs,q,_⟩:=ho;rw [fx] at q;simp [L5] at q
  | dct kvs=>obtain ⟨xs,q,_⟩:=ho;rw [fx] at q;simp [L5] at q
  | dcT kvs=>
   obtain ⟨es,q,_⟩:=ho;obtain ⟨vs,q1,_⟩:=(hk b _ fx).1;obtain ⟨o,ep,q2,q3,_⟩:=(hk b _ q).1;rw [q1] at q2;cases q2;cases q3.1
  | exc c fs=>
   obtain ⟨xc,gs,q,fr,o⟩:=ho;obtain ⟨tb',m2⟩:=m.2;obtain ⟨vs,q1,_⟩:=(hk b _ fx).1;rcases o with ⟨z,e2⟩ | ⟨d',h1,h2,e2,e3⟩
   ·obtain ⟨vs2,q2,_⟩:=(hk b _ e2).1;rw [q1] at q2;cases q2;exact ⟨xc,gs,Paired.mono (λ_ _ ⟨z,w⟩=>⟨z,w.later l⟩) q,tb',.inl ⟨z,m2⟩⟩
   ·obtain ⟨vs2,q2,_⟩:=(hk b _ e2).1;rw [q1] at q2;cases q2;exact ⟨xc,gs,Paired.mono (λ_ _ ⟨z,w⟩=>⟨z,w.later l⟩) q,tb',.inr ⟨d',h1,h2,m2,m.1 d' _ h1 e3⟩⟩
 ·obtain ⟨u,q⟩:=ho.some;exact ho.later l (by rw [q];exact m.1 b u hb q)
end
def xOf (X:Cx) (a:Addr) (H:Hp):Prop:=∀ (pins:List (Addr×Obj)) (σ:L2.St) (s:Shared) (C:Addr) (d b:Option Addr),L2.Inv X pins σ H s->Fx X.K H a C d b->X.xe (.ref a) s
def vL (X:Cx) (pins:List (Addr×Obj)) (σ:L2.St) (F:Addr->Hp->Prop) (c:Value) (s:Shared):Prop:=∃ a H C d b,c=.ref a/\L2.Inv X pins σ H s/\Fx X.K H a C d b/\F a H
def PX (X:Cx) (cl:ClW) (e:Expr) (f:Env->M D):Prop:=∀ (pins:List (Addr×Obj)) (s:Shared) (σ:L2.St) (H:Hp) (Q:VK) (F:Addr->Hp->Prop),L2.Inv X pins σ H s->tD X.K cl F f σ H Q ->
 wpAny (model X.prog X.w) X.A (eval e X.env) (EP X pins σ Q) (vL X pins σ F) s
def spX (K:PySem.W.Frag) (cl:ClW) (n:Nat) (run:List D->M D):Sp:=λvs H Q E=>vs.length=n/\∃ μ S ds,RDs K μ H ds vs/\Rep K cl μ S H/\Post K cl (gT E) μ H (run ds S) λd _ μ' H'=>∀ v,RD K μ' H' d v->Q v H'
section
variable {X:Cx} {cl:ClW} {e:Expr} {es:List Expr} {f:Env->M D} {pos p:Pos}
theorem PX.of (h:PE X.nox e (tD X.K cl x0 f)):PX X cl e λρ=>nx (f ρ):=λpins s σ H Q F I ⟨μ,S,ρ,a,b,p⟩=>
 Fo (h pins s σ H Q (I.wish _) ⟨μ,S,ρ,a,b,p.nx⟩) (λ_ _ ⟨v,H',c,r,q⟩=>⟨v,H',c.unwish,r,q⟩) λ_ _ z=>False.elim z
theorem sd {k n:Nat} {a:Addr} {fd:FuncData} {ps:List Str} {x:Str} {fs:Env->M (List D)} {run:List D->M D} (hn:ps.length=n) (F:FnOk X.prog X.w X.K X.mg X.base (CXd X.prog X.w X.K) k a fd ps (spX X.K cl n run)) (hr:Room false k X.A) (hg:Gl X x) (hm:X.mg x=some (.ref a)) (hk:PySem.W.keepIn X.K (.ref a)=true) (hb:Binds X.K fd ps [])
  (ha:PA X.nox (e :: es) (tDs X.K cl x0 fs)) (hdb:(x==("__debug__" : Str))=false) (hs:(e :: es).all noStar=true) :
  PX X cl (.Call (.Name x p) (e :: es) [] pos) λρ=>bind (nx (fs ρ)) λds=>if ds.length=n then run ds else bad:=by
 rw [Fv,Ey] at hs;intro pins s σ H Q F0 I ⟨μ,S,ρ,eo,rp,p⟩;refine FY (D5 I hg hm ?_ hdb);refine GR I.ok.mod.kin hk (Fo (ha pos pins s σ H (λvs H1=>∃ μ1 S1 ds,RDs X.K μ1 H1 ds vs/\Rep X.K cl μ1 S1 H1/\Post X.K cl F0 μ1 H1 ((if ds.length=n then run ds else bad) S1) λd _ μ' H'=>∀ v,RD X.K μ' H' d v->Q v H') (I.wish _) ⟨μ,S,ρ,eo,rp,p.bind.nx.imp λds S1 μ1 H1 l1 r1 p1 vs rvs=>⟨μ1,S1,ds,rvs,r1,p1⟩⟩)
  (λus s1 ⟨vs,H1,I1,r,μ1,S1,ds,rvs,r1,p1⟩=>⟨I1.unwish.kIn,?_⟩) λ_ _ z=>False.elim z) (d9 hs.1) (i7 hs.2)
 have I1:=I1.unwish;by_cases hd:ds.length=n
 ·rw [if_pos hd] at p1;have hl:us.length=ps.length:=by rw [<- r.length,<- rvs.length,hd,hn]
  have hb2:=hb s1 us I1.kIn (by rw [Fm];exact hl);rw [Fm] at hb2;refine GQ (GA (F.run X.A X.stack s1 H1 ⟨us,[]⟩ us vs Q (λev _ H=>∀ a,ev=.ref a->F0 a H) hr I1.env0 hb2 r ⟨by rw [<- rvs.length];exact hd,μ1,S1,ds,rvs,r1,p1.ximp λ_ _ _ _ a _ _ _ _ h a' z=>by cases z;exact h⟩) λres s' hq=>?_);cases res with
  | error ev=>
   obtain ⟨a',C,d,tb,H',he,os,bare,un,hok,fx,q⟩:=hq;exact ⟨a',H',C,d,tb,he,I1.call' os un hok bare (λb z=>absurd z (by simp)),fx,q a' he⟩
  | ok fl=>
   cases fl with
   | ret u=>exact I1.after hq
   | next=>exact False.elim hq
   | brk=>exact False.elim hq
   | cont=>exact False.elim hq
 ·rw [if_neg hd] at p1;exact p1.elim
def w5 (d:D):M Fl:=match d with
 | .ref n=>λS=>match S[n]? with
  | some (.exc _ _)=>.exn n S
  | _=>.bad
 | _=>bad
theorem lD (hc:X.calm=true) (h:PE X e (tDf X.K cl (xOf X) f)):PS X (.Raise (some e) none pos) (sD X.K cl (xOf X) λρ=>bind (f ρ) w5):=by
 intro pins s σ H D I ⟨μ,S,ρ,eo,rp,p⟩;refine Er (GJ (cL (K:=X.K) (I.ok.hd hc) (Er (Fo (h pins s σ H (λv H1=>∃ (x C:Addr) (d:Option Addr) (μ1:Mp) (S1:Sto) (n c:Nat) (fs:List (Str×L3.D)),v=.ref x/\XC X.K C/\H1 x=some (N9 x C d)/\Rep X.K cl μ1 S1 H1/\S1[n]?=some (O.exc c fs)/\μ1.pl[n]?=some x/\xOf X x H1) I ⟨μ,S,ρ,eo,rp,p.bind.imp λd S1 μ1 H1 l1 r1 p1 v rv fr=>?_⟩)
  (λu s1 ⟨v,H1,I1,ru,x,C,d,μ1,S1,n,c,fs,ev,xc,ex,r1,e1,e2,xo⟩=>Er (GJ (Eu ?_))) λ_ _ z=>z))))
 ·cases rv with
  | ref hp=>
   rename_i n a;obtain ⟨x,C,d,ev,xc,ex⟩:=fr;cases ev;simp only [w5] at p1;cases q:S1[n]? with
   | none=>rw [q] at p1;exact p1.elim
   | some o=>
    rw [q] at p1;cases o with
    | exc c fs=>exact ⟨_,C,d,μ1,S1,n,c,fs,rfl,xc,ex,r1,q,hp,p1 μ1 H1 _ (Lat.refl _ _) r1 hp⟩
    | lst _=>exact p1.elim
    | dct _=>exact p1.elim
    | dcT _=>exact p1.elim
  | _=>exact False.elim p1
 ·subst ev;obtain rfl:u=Value.ref x:=ru;have fx:=(nt I1.hok (r1.ats n _ x e1 e2) ex λT z=>(nomatch z)).2;exact ⟨x,C,d,rfl,I1.kIn,xc,I1.isX ex,xo pins σ s1 C d none I1 fx⟩
end
section
variable {K:PySem.W.Frag} {cl:ClW} {xe xe':Addr->Hp->Prop} {α:Type} {μ:Mp} {H:Hp}
theorem Post.up {G:α->Sto->Mp->Hp->Prop} (p:Post K cl xe μ H r G) (k:∀ a H',xe a H'->xe' a H'):Post K cl xe' μ H r G:=p.ximp λ_ _ _ H' a _ _ _ _ h=>k a H' h
theorem Post.x0 {G:α->Sto->Mp->Hp->Prop} (p:Post K cl (gT E0) μ H r G):Post K cl xe μ H r G:=p.up λ_ _ z=>False.elim z
end
abbrev x0:Addr->Hp->Prop:=gT E0
section
variable {X:Cx} {cl:ClW} {xe:Addr->Hp->Prop} {e tg:Expr} {es:List Expr}
theorem PE.x0 (h:PE X e (tD X.K cl xe f)):PE X e (tD X.K cl x0 f):=PE.imp h λσ H Q ⟨μ,S,ρ,a,b,p⟩=>⟨μ,S,ρ,a,b,p.x0⟩
theorem PTL.x0 (h:PTL X es (tBo X.K cl xe f)):PTL X es (tBo X.K cl x0 f):=λpins s σ H Q I ⟨μ,S,ρ,a,b,p⟩=>h pins s σ H Q I ⟨μ,S,ρ,a,b,p.x0⟩
theorem PA.x0 (h:PA X es (tDs X.K cl xe f)):PA X es (tDs X.K cl x0 f):=PA.imp h λσ H Q ⟨μ,S,ρ,a,b,p⟩=>⟨μ,S,ρ,a,b,p.x0⟩
theorem PI.x0 (h:PI X tg e (tIt X.K cl xe f)):PI X tg e (tIt X.K cl x0 f):=PI.imp h λσ H Q ⟨μ,S,ρ,a,b,p⟩=>⟨μ,S,ρ,a,b,p.x0⟩
theorem PSs.x0 (h:PSs X sts (sD X.K cl xe f)):PSs X sts (sD X.K cl x0 f):=PSs.imp h λD σ H ⟨μ,S,ρ,a,b,p⟩=>⟨μ,S,ρ,a,b,p.x0⟩
theorem iq (h:PE X e (nW X.K cl x0 fs)):PE X e (tD X.K cl xe λρ=>bind (nx (fs ρ)) λds=>ret (.lst ds)):=PE.imp h λσ H Q ⟨μ,S,ρ,f,j,p⟩=>
 ⟨μ,S,ρ,f,j,p.bind.nx.imp λds S1 b d l g i c ys k a=>i.ret b d (Lat.refl _ _) g _ (.lst k a)⟩
theorem vN:u7 (CXd X.prog X.w X.K) X (λl _ H=>∀ a,l=.ref a->xOf X a H):=λpins σ H s e s' I ⟨a,C,d,i,H',k,g,c,j,f,h,q⟩=>by
 subst k;exact q a rfl pins σ s' C d i (I.call' g j f c λb z=>absurd z (by simp)) h
theorem lQ {a:Addr} {fd:FuncData} {ps:List Str} {x:Str} {p pos:Pos} {fs:Env->M (List D)} {b:List D->M D} (F:FnOk X.prog X.w X.K X.mg X.base (CXd X.prog X.w X.K) k a fd ps (spX X.K cl n b)) (l:Room false k X.A) (j:Gl X x) (o:X.mg x=some (.ref a)) (i:PySem.W.keepIn X.K (.ref a)=true) (t:Binds X.K fd ps [])
  (s:PA X (e :: es) (tDs X.K cl (xOf X) fs)) (g:(x==("__debug__" : Str))=false) (hs:(e :: es).all noStar=true) :
  PE X (.Call (.Name x p) (e :: es) [] pos) (tD X.K cl (xOf X) λρ=>bind (fs ρ) λds=>if ds.length=n then b ds else bad):=by
 rw [Fv,Ey] at hs;exact PE.imp (iw F l j o i t .nil vN s g (d9 hs.1) (i7 hs.2)) λσ H Q ⟨μ,S,ρ,m,r,p⟩=>
  ⟨μ,S,ρ,m,r,p.bind.imp λds S1 f u w q d vs c=>by
   by_cases hd:ds.length=n
   ·rw [if_pos hd] at d;exact ⟨by rw [Fm,<- c.length];exact hd,f,S1,ds,by rw [Fm];exact c,q,d.up λa H' h v z=>by cases z;exact h⟩
   ·rw [if_neg hd] at d;exact d.elim⟩
theorem ja {b:List D->M D} (F:FnOk X.prog X.w X.K X.mg X.base (CXd X.prog X.w X.K) k a fd ps (spX X.K cl 0 b)) (f:Room false k X.A) (e:Gl X x) (g:X.mg x=some (.ref a)) (d:PySem.W.keepIn X.K (.ref a)=true) (j:Binds X.K fd ps [])
  (c:(x==("__debug__" : Str))=false):PE X (.Call (.Name x p) [] [] pos) (tD X.K cl (xOf X) λρ=>b []):=PE.imp (nS F f e g d j .nil vN c) λσ H Q ⟨μ,S,ρ,l,i,p⟩=>⟨rfl,μ,S,[],.nil,i,p.up λa H' h m z=>by cases z;exact h⟩
end
inductive G where
 | val (d:D) | fn (i n:Nat) | err (c:Nat) (fs:List Str) | dct (kvs:List (Str×D))
structure Gm where
 gl:List (Str×G)
 sub:Nat->Nat->Bool
 flds:List Str
 qs:List Nat:=[]
structure Lc where
 N:List Str
 sc:Scope
 fr:Bool
 mu:List Str
def quiet (a:Lc):Bool:=a.mu.contains ("~" : Str)
structure Ev where
 e:Lc->Expr->Env->M D
 t:Lc->Expr->Env->M Bool
 s:Lc->Stmt->Env->M Fl
 i:Lc->Expr->Expr->Env->M (Src×Nat)
structure EvK where
 e:Lc->Expr->Env->∀ {α:Type},(D->M α)->M α
 t:Lc->Expr->Env->∀ {α:Type},(Bool->M α)->M α
 s:Lc->Stmt->Env->∀ {α:Type},(Fl->M α)->M α
 i:Lc->Expr->Expr->Env->∀ {α:Type},(Src×Nat->M α)->M α
structure EqK (r:Ev) (q:EvK):Prop where
 e:∀ lc e ρ {α:Type} (k:D->M α),q.e lc e ρ k=bind (r.e lc e ρ) k
 t:∀ lc e ρ {α:Type} (k:Bool->M α),q.t lc e ρ k=bind (r.t lc e ρ) k
 s:∀ lc e ρ {α:Type} (k:Fl->M α),q.s lc e ρ k=bind (r.s lc e ρ) k
 i:∀ lc g e ρ {α:Type} (k:Src×Nat->M α),q.i lc g e ρ k=bind (r.i lc g e ρ) k
theorem aU (k:α->M β):bind bad k=bad:=rfl
theorem o9 {c:Prop} [Decidable c] (a b:M α) (k:α->M β):bind (if c then a else b) k=if c then bind a k else bind b k:=by split <;> rfl
theorem v7 (m:M α):bind m ret=m:=by
 funext S;unfold bind ret;cases m S <;> rfl
def e9:List Str->Str->Option Nat
 | [],_=>none
 | y :: ys,x=>if y=x then some 0 else (e9 ys x).map (· + 1)
theorem o1:∀ {N:List Str} {x:Str} {i:Nat},e9 N x=some i->N[i]?=some x
 | [],_,_,e=>by cases e
 | y :: ys,x,i,e=>by
  unfold e9 at e;split at e
  ·rename_i h;cases e;simp [h]
  ·cases q:e9 ys x with
   | none=>rw [q] at e;cases e
   | some j=>rw [q] at e;cases e;simpa using o1 q
def lK (a:Scope) (x:Str):Bool:=decide (a.names.lookup x=some .local)||decide (a.names.lookup x=some .cell)||decide (a.names.lookup x=some .free)
def av (a:Scope) (x:Str):Bool:=decide (a.names.lookup x=some .local)||decide (a.names.lookup x=some .cell)
def glB (a:Scope) (x:Str):Bool:=decide (a.names.lookup x=some .globalImplicit)
def k9 (x:Str):Bool:=!(x==("__debug__" : Str))&&!(x==("__classdict__" : Str))&&!(x==("__name__" : Str))
theorem rg (h:lK sc x=true):Vis sc x:=by
 simpa [lK,Vis,or_assoc] using h
theorem D7 (h:av sc x=true):L2.Loc sc x:=by
 simpa [av,L2.Loc] using h
theorem m3 (h:k9 x=true):(x==("__debug__" : Str))=false/\(x==("__classdict__" : Str))=false/\x ≠ "__name__":=by
 simpa [k9,and_assoc] using h
structure Tx where
 P:Program
 w:World
 K:PySem.W.Frag
 mg:Str->Option Value
 base:Heap
 clf:Nat->Addr
def Tx.cl (T:Tx):ClW:=⟨T.clf,T.w⟩
def bnames:List Str:=["len","tuple","list","repr","isinstance","range","int","bool","str","dict","ValueError","all","any","sum","max","min","sorted","set","enumerate","abs","zip"]
abbrev CXq (q:Bool):CXT:=⟨λ_ _ _ _ _ _=>False,q⟩
theorem Ay:u7 (CXq q) X E0:=λ_ _ _ _ _ _ _ h=>False.elim h
structure FnX (T:Tx) (k i n:Nat) (x:Str) (run:List D->M D):Prop where
 ex:∃ (a:Addr) (fd:FuncData) (ps:List Str),ps.length=n/\FnOk T.P T.w T.K T.mg T.base (CXd T.P T.w T.K) k a fd ps (spX T.K T.cl n run)/\T.mg x=some (.ref a)/\PySem.W.keepIn T.K (.ref a)=true/\Binds T.K fd ps []
structure FnAt (T:Tx) (k i n:Nat) (x:Str) (run:List D->M D):Prop where
 ex:∃ (a:Addr) (fd:FuncData) (ps:List Str),ps.length=n/\FnOk T.P T.w T.K T.mg T.base (CXq true) k a fd ps (spD T.K T.cl n run)/\T.mg x=some (.ref a)/\PySem.W.keepIn T.K (.ref a)=true/\Binds T.K fd ps []
structure ErrAt (T:Tx) (x:Str) (c:Nat) (fs:List Str):Prop where
 xc:XC T.K (T.cl c)
 mg_:T.mg x=some (.ref (T.cl c))
 ex:∃ (f:Addr) (fd:FuncData) (ps:List Str),PySem.W.findIn T.K (.ref (T.cl c)) "__init__" = some (some (.ref f))/\PySem.W.isFn T.K (.ref f)=true/\Binds T.K fd ps [] /\
  match fs with
  | []=>FnOk T.P T.w T.K T.mg T.base CX0 2 f fd ps (Hn.spHE T.K)
  | [g]=>FnOk T.P T.w T.K T.mg T.base CX0 2 f fd ps (Hn.sp1 T.K g)
  | [g,g2]=>FnOk T.P T.w T.K T.mg T.base CX0 2 f fd ps (Hn.sp2 T.K g g2)
  | _=>False
def pM (T:Tx) (x:Str) (kvs:List (Str×D)):Prop:=∃ (a:Addr) (es:Array DictEntry) (n:Nat),T.mg x=some (.ref a)/\T.K.lookup a=some ⟨.type "dict",none,.dict es n,#[]⟩/\PySem.W.KeysLit T.w.params es.toList/\(a==sysModules)=false/\(∀ k,kvs.lookup k=none->PySem.W.nsIn T.K a k=some none)/\∀ k d,kvs.lookup k=some d->∃ u v,PySem.W.nsIn T.K a k=some (some u)/\RelV v u/\∀ μ H,RD T.K μ H d v
structure TxOk (T:Tx) (Γ:Gm) (k:Nat) (C:Nat->List D->M D):Prop where
 blt:∀ x∈bnames,Γ.gl.lookup x=none->T.mg x=none
 val:∀ x d,Γ.gl.lookup x=some (.val d)->∃ u v,T.mg x=some u/\RelV v u/\∀ μ H,RD T.K μ H d v
 fn:∀ x i n,Γ.gl.lookup x=some (.fn i n)->i∉Γ.qs->FnX T k i n x (C i)
 fnq:∀ x i n,Γ.gl.lookup x=some (.fn i n)->i∈Γ.qs->FnAt T k i n x (C i)
 err:∀ x c fs,Γ.gl.lookup x=some (.err c fs)->ErrAt T x c fs/\(∀ g∈fs,t9 T.K (T.cl c) g)
 sub:∀ x c c0 fs,Γ.gl.lookup x=some (.err c0 fs)->XC T.K (T.cl c)->PySem.W.kitOne T.K (.ref (T.cl c)) (.ref (T.cl c0))=some (Γ.sub c c0)
 subV:∀ c,XC T.K (T.cl c)->PySem.W.kitOne T.K (.ref (T.cl c)) (.type "ValueError")=some true
 subT:∀ c,XC T.K (T.cl c)->∀ t∈tys,PySem.W.kitOne T.K (.ref (T.cl c)) (.type t)=some false
 fld:∀ g∈Γ.flds,∀ c,XC T.K (T.cl c)->t9 T.K (T.cl c) g
 dct:∀ x kvs,Γ.gl.lookup x=some (.dct kvs)->pM T x kvs
 k3:3<=k
structure CxOk (T:Tx) (k:Nat) (lc:Lc) (X:Cx):Prop where
 prog:X.prog=T.P
 w:X.w=T.w
 K:X.K=T.K
 mg:X.mg=T.mg
 base:X.base=T.base
 N:X.N=lc.N
 nd:lc.N.Nodup
 sc:X.env.scope=lc.sc
 calm:quiet lc=false->X.calm=true
 room:Room (quiet lc) k X.A
 po:PassesOwn (model X.prog X.w) X.A X.env X.xe
 fn:X.fn=λ_=>lc.fr
 kd:lc.sc.kind=.function
 own:lc.fr=true->quiet lc=false->X.stack=X.env :: X.outer/\X.env.frame=some X.env.locals
structure EvOk (T:Tx) (k:Nat) (r:Ev):Prop where
 e:∀ lc X,CxOk T k lc X->∀ e,PE X e (tD T.K T.cl (xOf X) (r.e lc e))
 t:∀ lc X,CxOk T k lc X->∀ e,PT X e (tBo T.K T.cl (xOf X) (r.t lc e))
 s:∀ lc X,CxOk T k lc X->lc.fr=true->∀ st,PS X st (sD T.K T.cl (xOf X) (r.s lc st))
 i:∀ lc X,CxOk T k lc X->∀ g e,PI X g e (tIt T.K T.cl (xOf X) (r.i lc g e))
section
variable {T:Tx} {k:Nat} {r:Ev} {Γ:Gm} {C:Nat->List D->M D} {lc:Lc} {X:Cx} {pos:Pos}
theorem EvOk.ex (R:EvOk T k r) (h:CxOk T k lc X) (e:Expr):PE X e (tD X.K T.cl (xOf X) (r.e lc e)):=by rw [h.K];exact R.e lc X h e
theorem EvOk.tx (R:EvOk T k r) (h:CxOk T k lc X) (e:Expr):PT X e (tBo X.K T.cl (xOf X) (r.t lc e)):=by rw [h.K];exact R.t lc X h e
theorem EvOk.ix (R:EvOk T k r) (h:CxOk T k lc X) (g e:Expr):PI X g e (tIt X.K T.cl (xOf X) (r.i lc g e)):=by rw [h.K];exact R.i lc X h g e
theorem EvOk.sx (R:EvOk T k r) (h:CxOk T k lc X) (a:lc.fr=true) (st:Stmt):PS X st (sD X.K T.cl (xOf X) (r.s lc st)):=by rw [h.K];exact R.s lc X h a st
theorem CxOk.u64 (h:CxOk T k lc X):X.A.units+64<cLine:=h.room.units
theorem CxOk.u80 (h:CxOk T k lc X):X.A.units+80<cLine:=by have:=h.room.un;omega
theorem CxOk.u1 (h:CxOk T k lc X):X.A.units+1<cLine:=BW h.room
theorem CxOk.gl (h:CxOk T k lc X) {x:Str} (a:glB lc.sc x=true):Gl X x:=by
 show X.env.kindOf x=_;unfold PySem.Env.kindOf;rw [h.sc];exact Ge a
theorem TxOk.none (a:TxOk T Γ k C) (h:CxOk T k lc X) {x:Str} (b:x∈bnames) (e:Γ.gl.lookup x=none):X.mg x=none:=by rw [h.mg];exact a.blt x b e
theorem CxOk.nd' (h:CxOk T k lc X):X.N.Nodup:=by rw [h.N];exact h.nd
theorem CxOk.fn1 (h:CxOk T k lc X) (a:lc.fr=true) {x:Str}:X.fn x=true:=by rw [h.fn];exact a
theorem CxOk.room0 (h:CxOk T k lc X) (a:quiet lc=false):Room false k X.A:=by have:=h.room;rw [a] at this;exact this
theorem CxOk.nox (h:CxOk T k lc X):CxOk T k lc X.nox:=⟨h.prog,h.w,h.K,h.mg,h.base,h.N,h.nd,h.sc,h.calm,h.room,PassesOwn.never,h.fn,h.kd,h.own⟩
end
abbrev Cf:=Nat->List D->M D
structure RuE:Type 1 where
 is:Gm->Lc->Expr->Bool
 run:Ev->Gm->Cf->Lc->Expr->Env->M D
 ok:∀ {T:Tx} {k:Nat} {r:Ev} {Γ:Gm} {C:Cf} {lc:Lc} {X:Cx} (e:Expr),EvOk T k r->TxOk T Γ k C->CxOk T k lc X->is Γ lc e=true->PE X e (tD X.K T.cl (xOf X) (run r Γ C lc e))
 runK:EvK->Gm->Cf->Lc->Expr->Env->∀ {α:Type},(D->M α)->M α
 eq:∀ {r:Ev} {q:EvK} {Γ:Gm} {C:Cf} {lc:Lc} (e:Expr) (ρ:Env) {α:Type} (k:D->M α),EqK r q->runK q Γ C lc e ρ k=bind (run r Γ C lc e ρ) k
structure RuT:Type 1 where
 is:Gm->Lc->Expr->Bool
 run:Ev->Gm->Cf->Lc->Expr->Env->M Bool
 ok:∀ {T:Tx} {k:Nat} {r:Ev} {Γ:Gm} {C:Cf} {lc:Lc} {X:Cx} (e:Expr),EvOk T k r->TxOk T Γ k C->CxOk T k lc X->is Γ lc e=true->PT X e (tBo X.K T.cl (xOf X) (run r Γ C lc e))
 runK:EvK->Gm->Cf->Lc->Expr->Env->∀ {α:Type},(Bool->M α)->M α
 eq:∀ {r:Ev} {q:EvK} {Γ:Gm} {C:Cf} {lc:Lc} (e:Expr) (ρ:Env) {α:Type} (k:Bool->M α),EqK r q->runK q Γ C lc e ρ k=bind (run r Γ C lc e ρ) k
structure RuS:Type 1 where
 is:Gm->Lc->Stmt->Bool
 run:Ev->Gm->Cf->Lc->Stmt->Env->M Fl
 ok:∀ {T:Tx} {k:Nat} {r:Ev} {Γ:Gm} {C:Cf} {lc:Lc} {X:Cx} (e:Stmt),EvOk T k r->TxOk T Γ k C->CxOk T k lc X->lc.fr=true->is Γ lc e=true->PS X e (sD X.K T.cl (xOf X) (run r Γ C lc e))
 runK:EvK->Gm->Cf->Lc->Stmt->Env->∀ {α:Type},(Fl->M α)->M α
 eq:∀ {r:Ev} {q:EvK} {Γ:Gm} {C:Cf} {lc:Lc} (e:Stmt) (ρ:Env) {α:Type} (k:Fl->M α),EqK r q->runK q Γ C lc e ρ k=bind (run r Γ C lc e ρ) k
structure RuI:Type 1 where
 is:Gm->Lc->Expr->Expr->Bool
 run:Ev->Gm->Cf->Lc->Expr->Env->M (Src×Nat)
 ok:∀ {T:Tx} {k:Nat} {r:Ev} {Γ:Gm} {C:Cf} {lc:Lc} {X:Cx} (g e:Expr),EvOk T k r->TxOk T Γ k C->CxOk T k lc X->is Γ lc g e=true->PI X g e (tIt X.K T.cl (xOf X) (run r Γ C lc e))
 runK:EvK->Gm->Cf->Lc->Expr->Env->∀ {α:Type},(Src×Nat->M α)->M α
 eq:∀ {r:Ev} {q:EvK} {Γ:Gm} {C:Cf} {lc:Lc} (e:Expr) (ρ:Env) {α:Type} (k:Src×Nat->M α),EqK r q->runK q Γ C lc e ρ k=bind (run r Γ C lc e ρ) k
structure Rules:Type 1 where
 es:List RuE
 ts:List RuT
 ss:List RuS
 is:List RuI
section
variable (Rs:Rules) (Γ:Gm) (C:Cf)
def step (r:Ev):Ev:=
 ⟨λa e=>match Rs.es.find? (λR=>R.is Γ a e) with
  | some R=>R.run r Γ C a e
  | none=>λ_=>bad,
 λa e=>match Rs.ts.find? (λR=>R.is Γ a e) with
  | some R=>R.run r Γ C a e
  | none=>λ_=>bad,
 λa e=>match Rs.ss.find? (λR=>R.is Γ a e) with
  | some R=>R.run r Γ C a e
  | none=>λ_=>bad,
 λa g e=>match Rs.is.find? (λR=>R.is Γ a g e) with
  | some R=>R.run r Γ C a e
  | none=>λ_=>bad⟩
def badEv:Ev:=⟨λ_ _ _=>bad,λ_ _ _=>bad,λ_ _ _=>bad,λ_ _ _ _=>bad⟩
def ev:Nat->Ev
 | 0=>badEv
 | n+1=>step Rs Γ C (ev n)
def uY (q:EvK):EvK:=
 ⟨λa e ρ _ k=>match Rs.es.find? (λR=>R.is Γ a e) with
  | some R=>R.runK q Γ C a e ρ k
  | none=>bad,
 λa e ρ _ k=>match Rs.ts.find? (λR=>R.is Γ a e) with
  | some R=>R.runK q Γ C a e ρ k
  | none=>bad,
 λa e ρ _ k=>match Rs.ss.find? (λR=>R.is Γ a e) with
  | some R=>R.runK q Γ C a e ρ k
  | none=>bad,
 λa g e ρ _ k=>match Rs.is.find? (λR=>R.is Γ a g e) with
  | some R=>R.runK q Γ C a e ρ k
  | none=>bad⟩
def Dl:EvK:=⟨λ_ _ _ _ _=>bad,λ_ _ _ _ _=>bad,λ_ _ _ _ _=>bad,λ_ _ _ _ _ _=>bad⟩
def evK:Nat->EvK
 | 0=>Dl
 | n+1=>uY Rs Γ C (evK n)
end
section
variable {Rs:Rules} {T:Tx} {k:Nat} {r:Ev} {q:EvK} {Γ:Gm} {C:Cf} {lc:Lc} {X:Cx}
theorem step_ok (d:TxOk T Γ k C) (R:EvOk T k r):EvOk T k (step Rs Γ C r):=by
 refine ⟨λa X h e=>?_,λa X h e=>?_,λa X h c e=>?_,λa X h g e=>?_⟩
 ·rw [<- h.K];show PE X e (tD X.K T.cl (xOf X) (match Rs.es.find? (λR=>R.is Γ a e) with
   | some R=>R.run r Γ C a e
   | none=>λ_=>bad))
  cases c:Rs.es.find? (λR=>R.is Γ a e) with
  | none=>exact d6
  | some b=>exact b.ok e R d h (by have:=Ht c;exact this)
 ·rw [<- h.K];show PT X e (tBo X.K T.cl (xOf X) (match Rs.ts.find? (λR=>R.is Γ a e) with
   | some R=>R.run r Γ C a e
   | none=>λ_=>bad))
  cases c:Rs.ts.find? (λR=>R.is Γ a e) with
  | none=>exact gY
  | some b=>exact b.ok e R d h (by have:=Ht c;exact this)
 ·rw [<- h.K];show PS X e (sD X.K T.cl (xOf X) (match Rs.ss.find? (λR=>R.is Γ a e) with
   | some R=>R.run r Γ C a e
   | none=>λ_=>bad))
  cases f:Rs.ss.find? (λR=>R.is Γ a e) with
  | none=>exact N6
  | some b=>exact b.ok e R d h c (by have:=Ht f;exact this)
 ·rw [<- h.K];show PI X g e (tIt X.K T.cl (xOf X) (match Rs.is.find? (λR=>R.is Γ a g e) with
   | some R=>R.run r Γ C a e
   | none=>λ_=>bad))
  cases c:Rs.is.find? (λR=>R.is Γ a g e) with
  | none=>exact iF
  | some b=>exact b.ok g e R d h (by have:=Ht c;exact this)
theorem mY:EvOk T k badEv:=⟨λa X h e=>by rw [<- h.K];exact d6,λa X h e=>by rw [<- h.K];exact gY,λa X h _ st=>by rw [<- h.K];exact N6,λa X h g e=>by rw [<- h.K];exact iF⟩
theorem oI (a:TxOk T Γ k C):∀ n,EvOk T k (ev Rs Γ C n)
 | 0=>mY
 | n+1=>step_ok a (oI a n)
theorem qI (h:EqK r q):EqK (step Rs Γ C r) (uY Rs Γ C q):=by
 refine ⟨λa e ρ _ k=>?_,λa e ρ _ k=>?_,λa e ρ _ k=>?_,λa g e ρ _ k=>?_⟩
 ·show (match Rs.es.find? (λR=>R.is Γ a e) with
   | some R=>R.runK q Γ C a e ρ k
   | none=>bad)=bind ((match Rs.es.find? (λ(R:RuE)=>R.is Γ a e) with
   | some R=>R.run r Γ C a e
   | none=>λ_=>bad) ρ) k
  cases Rs.es.find? (λR=>R.is Γ a e) with
  | none=>rfl
  | some b=>exact b.eq e ρ k h
 ·show (match Rs.ts.find? (λR=>R.is Γ a e) with
   | some R=>R.runK q Γ C a e ρ k
   | none=>bad)=bind ((match Rs.ts.find? (λ(R:RuT)=>R.is Γ a e) with
   | some R=>R.run r Γ C a e
   | none=>λ_=>bad) ρ) k
  cases Rs.ts.find? (λR=>R.is Γ a e) with
  | none=>rfl
  | some b=>exact b.eq e ρ k h
 ·show (match Rs.ss.find? (λR=>R.is Γ a e) with
   | some R=>R.runK q Γ C a e ρ k
   | none=>bad)=bind ((match Rs.ss.find? (λ(R:RuS)=>R.is Γ a e) with
   | some R=>R.run r Γ C a e
   | none=>λ_=>bad) ρ) k
  cases Rs.ss.find? (λR=>R.is Γ a e) with
  | none=>rfl
  | some b=>exact b.eq e ρ k h
 ·show (match Rs.is.find? (λR=>R.is Γ a g e) with
   | some R=>R.runK q Γ C a e ρ k
   | none=>bad)=bind ((match Rs.is.find? (λ(R:RuI)=>R.is Γ a g e) with
   | some R=>R.run r Γ C a e
   | none=>λ_=>bad) ρ) k
  cases Rs.is.find? (λR=>R.is Γ a g e) with
  | none=>rfl
  | some b=>exact b.eq e ρ k h
theorem vj:∀ n,EqK (ev Rs Γ C n) (evK Rs Γ C n)
 | 0=>⟨λ_ _ _ _ _=>rfl,λ_ _ _ _ _=>rfl,λ_ _ _ _ _=>rfl,λ_ _ _ _ _ _=>rfl⟩
 | n+1=>qI (vj n)
end
section
variable (r:Ev) (q:EvK) (lc:Lc)
def r8:List Expr->Env->M (List D)
 | [],_=>ret []
 | e :: es,ρ=>bind (r.e lc e ρ) λd=>bind (r8 es ρ) λds=>ret (d :: ds)
def u9 {a:Type}:List Expr->Env->(List D->M a)->M a
 | [],_,k=>k []
 | e :: es,ρ,k=>q.e lc e ρ λd=>u9 es ρ λds=>k (d :: ds)
def M8:List Stmt->Env->M Fl
 | [],ρ=>ret (.nx ρ)
 | st :: a,ρ=>AG (r.s lc st) (M8 a) ρ
def i6 {d:Type}:List Stmt->Env->(Fl->M d)->M d
 | [],ρ,k=>k (.nx ρ)
 | st :: a,ρ,k=>q.s lc st ρ λb=>match b with
  | .nx c=>i6 a c k
  | b=>k b
end
section
variable {T:Tx} {k:Nat} {r:Ev} {q:EvK} {Γ:Gm} {C:Cf} {lc:Lc} {X:Cx} {pos:Pos}
theorem k7 (h:EqK r q):∀ (es:List Expr) (ρ:Env) {a:Type} (k:List D->M a),u9 q lc es ρ k=bind (r8 r lc es ρ) k
 | [],_,_,_=>rfl
 | e :: es,ρ,_,k=>by
  show q.e lc e ρ (λd=>u9 q lc es ρ λds=>k (d :: ds))=bind (bind (r.e lc e ρ) λd=>bind (r8 r lc es ρ) λds=>ret (d :: ds)) k;rw [h.e,bind_assoc];congr;funext d;rw [k7 h,bind_assoc];rfl
theorem S9 (h:EqK r q):∀ (sts:List Stmt) (ρ:Env) {α:Type} (k:Fl->M α),i6 q lc sts ρ k=bind (M8 r lc sts ρ) k
 | [],_,_,_=>rfl
 | st :: sts,ρ,_,k=>by
  show (q.s lc st ρ λfl=>match fl with
   | .nx ρ'=>i6 q lc sts ρ' k
   | fl=>k fl)=bind (bind (r.s lc st ρ) λfl=>match fl with
   | .nx ρ'=>M8 r lc sts ρ'
   | fl=>ret fl) k
  rw [h.s,bind_assoc];congr;funext fl;cases fl with
  | nx ρ'=>exact S9 h sts ρ' k
  | bk ρ'=>rfl
  | ct ρ'=>rfl
  | rt d=>rfl
theorem m4 (R:EvOk T k r) (h:CxOk T k lc X):∀ {es:List Expr},es.all noStar=true->PA X es (tDs X.K T.cl (xOf X) (r8 r lc es))
 | [],_=>rV
 | e :: es,hs=>by
  rw [Fv,Ey] at hs;exact pi (R.ex h e) (m4 R h hs.2) hs.1
theorem G4 (R:EvOk T k r) (h:CxOk T k lc X) (b:lc.fr=true):∀ {a:List Stmt},PSs X a (sD X.K T.cl (xOf X) (M8 r lc a))
 | []=>lG
 | st :: a=>sS (R.sx h b st) (G4 R h b)
end
def yY (c:Const):M D:=match c with
 | .int i=>ret (.int i)
 | .bool b=>ret (.bl b)
 | .none=>ret .non
 | .str x=>ret (.str x)
 | _=>bad
def zA {a:Type} (c:Const) (k:D->M a):M a:=match c with
 | .int i=>k (.int i)
 | .bool b=>k (.bl b)
 | .none=>k .non
 | .str x=>k (.str x)
 | _=>bad
def xb:RuE where
 is _ _ e:=match e with
  | .Constant _ _ _=>true
  | _=>false
 run _ _ _ _ e _:=match e with
  | .Constant c _ _=>yY c
  | _=>bad
 ok e R TX h hi:=by
  cases e with
  | Constant c n p=>
   cases c <;> first
    | exact J8 yt λ_ _=>.int _
    | exact J8 AQ λ_ _=>.bl _
    | exact J8 yg λ_ _=>.non
    | exact J8 xE λ_ _=>.str _
    | exact d6
  | _=>exact d6
 runK _ _ _ _ e _ _ k:=match e with
  | .Constant c _ _=>zA c k
  | _=>bad
 eq e ρ _ k h:=by
  cases e with
  | Constant c n p=>cases c <;> rfl
  | _=>rfl
def eY (Γ:Gm) (a:Lc) (x:Str) (ρ:Env):M D:=match e9 a.N x with
 | some i=>if lK a.sc x=true then getD i ρ else bad
 | none=>if glB a.sc x=true then (match Γ.gl.lookup x with
  | some (.val d)=>ret d
  | _=>bad) else bad
def BQ {a:Type} (i:Nat) (ρ:Env) (k:D->M a):M a:=match ρ[i]? with
 | some (some d)=>k d
 | _=>bad
def lA {b:Type} (Γ:Gm) (a:Lc) (x:Str) (ρ:Env) (k:D->M b):M b:=match e9 a.N x with
 | some i=>if lK a.sc x=true then BQ i ρ k else bad
 | none=>if glB a.sc x=true then (match Γ.gl.lookup x with
  | some (.val d)=>k d
  | _=>bad) else bad
theorem sO {Γ:Gm} {C:Cf} {lc:Lc} {X:Cx} {pos:Pos} (TX:TxOk T Γ k C) (h:CxOk T k lc X) {x:Str} (hn:k9 x=true):PE X (.Name x pos) (tD X.K T.cl (xOf X) (eY Γ lc x)):=by
 unfold eY;obtain ⟨n1,n2,n3⟩:=m3 hn;cases e:e9 lc.N x with
 | some i=>
  by_cases hv:lK lc.sc x=true
  ·simp only [if_pos hv];exact wh (nA (by rw [h.N];exact o1 e) (by rw [h.sc];exact rg hv) n1 n2)
  ·simp only [if_neg hv];exact d6
 | none=>
  by_cases hv:glB lc.sc x=true
  ·simp only [if_pos hv];cases e2:Γ.gl.lookup x with
   | none=>exact d6
   | some g=>
    cases g with
    | val d=>
     obtain ⟨u,v,e3,rv,rd⟩:=TX.val x d e2;exact J8 (cT (h.gl hv) (by rw [h.mg];exact e3) rv n1) λμ H=>by rw [h.K];exact rd μ H
    | fn i n=>exact d6
    | err c fs=>exact d6
    | dct kvs=>exact d6
  ·simp only [if_neg hv];exact d6
theorem tq (Γ:Gm) (a:Lc) (x:Str) (ρ:Env) {b:Type} (k:D->M b):lA Γ a x ρ k=bind (eY Γ a x ρ) k:=by
 unfold lA eY;cases e9 a.N x with
 | some i=>
  simp only [];split
  ·unfold BQ getD;cases ρ[i]? with
   | none=>rfl
   | some o=>cases o <;> rfl
  ·rfl
 | none=>
  simp only [];split
  ·cases Γ.gl.lookup x with
   | none=>rfl
   | some g=>cases g <;> rfl
  ·rfl
def Cc:RuE where
 is _ _ e:=match e with
  | .Name x _=>k9 x
  | _=>false
 run _ Γ _ lc e ρ:=match e with
  | .Name x _=>eY Γ lc x ρ
  | _=>bad
 ok e R TX h hi:=by
  cases e with
  | Name x p=>exact sO TX h hi
  | _=>exact d6
 runK _ Γ _ lc e ρ _ k:=match e with
  | .Name x _=>lA Γ lc x ρ k
  | _=>bad
 eq e ρ _ k h:=by
  cases e with
  | Name x p=>exact tq _ _ x ρ k
  | _=>rfl
def xI (op:Operator):D->D->M D:=match op with
 | .Add=>i9
 | .Sub=>az
 | .Mult=>m7
 | .Mod=>R8
 | .FloorDiv=>I0
 | .Pow=>fG
 | _=>λ_ _=>bad
def c8 (op:CmpOp):D->D->M D:=match op with
 | .Eq=>eqD false
 | .NotEq=>eqD true
 | .Lt=>pc λi j=>decide (i<j)
 | .LtE=>pc λi j=>decide (i<=j)
 | .Gt=>pc λi j=>decide (j<i)
 | .GtE=>pc λi j=>decide (j<=i)
 | .In=>inD false
 | .NotIn=>inD true
 | .Is=>isD false
 | .IsNot=>isD true
theorem vx {X:Cx} {cl:ClW} {xe:Addr->Hp->Prop} (op:Operator):OpR X (binaryOp op) (rP2 X.K cl xe (xI op)):=by
 cases op <;> first
  | exact AB
  | exact AO
  | exact BK
  | exact BA
  | exact wz
  | exact Bm
  | exact λpins s σ H x y v u Q I rx ry ⟨μ,S,d,e,rd,re,rp,p⟩=>p.elim
theorem mE {T:Tx} {k:Nat} {lc:Lc} {X:Cx} {cl:ClW} {xe:Addr->Hp->Prop} (h:CxOk T k lc X) (op:CmpOp):OpR X (compareOp op) (rP2 X.K cl xe (c8 op)):=by
 cases op
 case Eq=>exact Ch h.u64
 case NotEq=>exact Cp h.u64
 case Lt=>exact iW Al
 case LtE=>exact iW AU
 case Gt=>exact iW Ai
 case GtE=>exact iW BO
 case In=>exact CM false h.u80
 case NotIn=>exact CM true h.u80
 case Is=>exact zo false
 case IsNot=>exact zo true
def DY:RuE where
 is _ _ e:=match e with
  | .BinOp _ _ _ _=>true
  | _=>false
 run r _ _ lc e ρ:=match e with
  | .BinOp a op b _=>bind (r.e lc a ρ) λx=>bind (r.e lc b ρ) λy=>xI op x y
  | _=>bad
 ok e R TX h hi:=by
  cases e with
  | BinOp a op b p=>exact wP (R.ex h _) (R.ex h _) (vx _)
  | _=>exact d6
 runK q _ _ lc e ρ _ k:=match e with
  | .BinOp a op b _=>q.e lc a ρ λx=>q.e lc b ρ λy=>bind (xI op x y) k
  | _=>bad
 eq e ρ _ k h:=by
  cases e with
  | BinOp a op b p=>simp only [h.e,bind_assoc]
  | _=>rfl
def DW:RuE where
 is _ _ e:=match e with
  | .UnaryOp .USub _ _=>true
  | _=>false
 run r _ _ lc e ρ:=match e with
  | .UnaryOp .USub a _=>bind (r.e lc a ρ) kC
  | _=>bad
 ok e R TX h hi:=by
  split at hi
  ·exact yJ (R.ex h _)
  ·cases hi
 runK q _ _ lc e ρ _ k:=match e with
  | .UnaryOp .USub a _=>q.e lc a ρ λd=>bind (kC d) k
  | _=>bad
 eq e ρ _ k h:=by
  split
  ·simp only [h.e,bind_assoc]
  ·first
   | rfl
   | (rename_i b;split;exact (b _ _ rfl).elim;rfl)
section
variable (r:Ev) (q:EvK) (lc:Lc)
def pG:List Expr->Env->M D
 | [],_=>bad
 | [a],ρ=>r.e lc a ρ
 | a :: b :: es,ρ=>bind (r.e lc a ρ) λd=>bind (v1 d) λq=>if q=true then pG (b :: es) ρ else ret d
def orE:List Expr->Env->M D
 | [],_=>bad
 | [a],ρ=>r.e lc a ρ
 | a :: b :: es,ρ=>bind (r.e lc a ρ) λd=>bind (v1 d) λq=>if q=true then ret d else orE (b :: es) ρ
def qS {e:Type}:List Expr->Env->(D->M e)->M e
 | [],_,_=>bad
 | [a],ρ,k=>q.e lc a ρ k
 | a :: b :: es,ρ,k=>q.e lc a ρ λd=>bind (v1 d) λc=>if c=true then qS (b :: es) ρ k else k d
def orK {e:Type}:List Expr->Env->(D->M e)->M e
 | [],_,_=>bad
 | [a],ρ,k=>q.e lc a ρ k
 | a :: b :: es,ρ,k=>q.e lc a ρ λd=>bind (v1 d) λc=>if c=true then k d else orK (b :: es) ρ k
def nu:List Expr->Env->M Bool
 | [],_=>bad
 | [a],ρ=>r.t lc a ρ
 | a :: b :: es,ρ=>bind (r.t lc a ρ) λq=>if q=true then nu (b :: es) ρ else ret false
def orB:List Expr->Env->M Bool
 | [],_=>bad
 | [a],ρ=>r.t lc a ρ
 | a :: b :: es,ρ=>bind (r.t lc a ρ) λq=>if q=true then ret true else orB (b :: es) ρ
def hF {d:Type}:List Expr->Env->(Bool->M d)->M d
 | [],_,_=>bad
 | [a],ρ,k=>q.t lc a ρ k
 | a :: b :: es,ρ,k=>q.t lc a ρ λc=>if c=true then hF (b :: es) ρ k else k false
def tQ {d:Type}:List Expr->Env->(Bool->M d)->M d
 | [],_,_=>bad
 | [a],ρ,k=>q.t lc a ρ k
 | a :: b :: es,ρ,k=>q.t lc a ρ λc=>if c=true then k true else tQ (b :: es) ρ k
end
section
variable {T:Tx} {k:Nat} {r:Ev} {q:EvK} {Γ:Gm} {C:Cf} {lc:Lc} {X:Cx} {pos:Pos}
theorem mn (R:EvOk T k r) (h:CxOk T k lc X):∀ {es:List Expr},PE X (.BoolOp .And es pos) (tD X.K T.cl (xOf X) (pG r lc es))
 | []=>d6
 | [a]=>oY (R.ex h a)
 | a :: b :: es=>wI (R.ex h a) (mn R h)
theorem vK (R:EvOk T k r) (h:CxOk T k lc X):∀ {es:List Expr},PE X (.BoolOp .Or es pos) (tD X.K T.cl (xOf X) (orE r lc es))
 | []=>d6
 | [a]=>oY (R.ex h a)
 | a :: b :: es=>zd (R.ex h a) (vK R h)
theorem iY (R:EvOk T k r) (h:CxOk T k lc X):∀ {es:List Expr},PW X (.BoolOp .And es pos) (tBo X.K T.cl (xOf X) (nu r lc es))
 | []=>pw_bad
 | [a]=>qQ (R.tx h a)
 | a :: b :: es=>wt (R.tx h a) (iY R h)
theorem mR (R:EvOk T k r) (h:CxOk T k lc X):∀ {es:List Expr},PW X (.BoolOp .Or es pos) (tBo X.K T.cl (xOf X) (orB r lc es))
 | []=>pw_bad
 | [a]=>yA (R.tx h a)
 | a :: b :: es=>zP (R.tx h a) (mR R h)
theorem mU (h:EqK r q):∀ (es:List Expr) (ρ:Env) {c:Type} (k:D->M c),qS q lc es ρ k=bind (pG r lc es ρ) k
 | [],_,_,_=>rfl
 | [a],ρ,_,k=>h.e lc a ρ k
 | a :: b :: es,ρ,_,k=>by simp only [qS,pG,h.e,bind_assoc,o9,mU h (b :: es),h7]
theorem vq (h:EqK r q):∀ (es:List Expr) (ρ:Env) {c:Type} (k:D->M c),orK q lc es ρ k=bind (orE r lc es ρ) k
 | [],_,_,_=>rfl
 | [a],ρ,_,k=>h.e lc a ρ k
 | a :: b :: es,ρ,_,k=>by simp only [orK,orE,h.e,bind_assoc,o9,vq h (b :: es),h7]
theorem gu (h:EqK r q):∀ (es:List Expr) (ρ:Env) {c:Type} (k:Bool->M c),hF q lc es ρ k=bind (nu r lc es ρ) k
 | [],_,_,_=>rfl
 | [a],ρ,_,k=>h.t lc a ρ k
 | a :: b :: es,ρ,_,k=>by simp only [hF,nu,h.t,bind_assoc,o9,gu h (b :: es),h7]
theorem lU (h:EqK r q):∀ (es:List Expr) (ρ:Env) {c:Type} (k:Bool->M c),tQ q lc es ρ k=bind (orB r lc es ρ) k
 | [],_,_,_=>rfl
 | [a],ρ,_,k=>h.t lc a ρ k
 | a :: b :: es,ρ,_,k=>by simp only [tQ,orB,h.t,bind_assoc,o9,lU h (b :: es),h7]
end
def zO:RuE where
 is _ _ e:=match e with
  | .BoolOp _ _ _=>true
  | _=>false
 run r _ _ lc e ρ:=match e with
  | .BoolOp .And es _=>pG r lc es ρ
  | .BoolOp .Or es _=>orE r lc es ρ
  | _=>bad
 ok e R TX h hi:=by
  cases e with
  | BoolOp op es p=>cases op;exact mn R h;exact vK R h
  | _=>exact d6
 runK q _ _ lc e ρ _ k:=match e with
  | .BoolOp .And es _=>qS q lc es ρ k
  | .BoolOp .Or es _=>orK q lc es ρ k
  | _=>bad
 eq e ρ _ k h:=by
  cases e with
  | BoolOp op es p=>cases op;exact mU h es ρ k;exact vq h es ρ k
  | _=>rfl
def Co:RuE where
 is _ _ e:=match e with
  | .Compare _ [_] [b] _=>q5 b
  | _=>false
 run r _ _ lc e ρ:=match e with
  | .Compare a [op] [b] _=>bind (r.e lc a ρ) λx=>bind (r.e lc b ρ) λy=>c8 op x y
  | _=>bad
 ok e R TX h hi:=by
  split at hi
  ·exact wF (R.ex h _) (R.ex h _) (mE h _) (B6 hi)
  ·cases hi
 runK q _ _ lc e ρ _ k:=match e with
  | .Compare a [op] [b] _=>q.e lc a ρ λx=>q.e lc b ρ λy=>bind (c8 op x y) k
  | _=>bad
 eq e ρ _ k h:=by
  split
  ·simp only [h.e,bind_assoc]
  ·first
   | rfl
   | (rename_i c;split;exact (c _ _ _ _ rfl).elim;rfl)
def rIf:RuE where
 is _ _ e:=match e with
  | .IfExp _ _ _ _=>true
  | _=>false
 run r _ _ lc e ρ:=match e with
  | .IfExp c a b _=>bind (r.t lc c ρ) λq=>if q=true then r.e lc a ρ else r.e lc b ρ
  | _=>bad
 ok e R TX h hi:=by
  cases e with
  | IfExp c a b p=>exact Aq (R.tx h _) (R.ex h _) (R.ex h _)
  | _=>exact d6
 runK q _ _ lc e ρ _ k:=match e with
  | .IfExp c a b _=>q.t lc c ρ λz=>if z=true then q.e lc a ρ k else q.e lc b ρ k
  | _=>bad
 eq e ρ _ k h:=by
  cases e with
  | IfExp c a b p=>simp only [h.e,h.t,bind_assoc,o9]
  | _=>rfl
def Di:RuE where
 is _ _ e:=match e with
  | .Tuple es _ _=>es.all noStar
  | _=>false
 run r _ _ lc e ρ:=match e with
  | .Tuple es _ _=>bind (r8 r lc es ρ) yI
  | _=>bad
 ok e R TX h hi:=by
  cases e with
  | Tuple es n p=>exact wO (m4 R h hi)
  | _=>exact d6
 runK q _ _ lc e ρ _ k:=match e with
  | .Tuple es _ _=>u9 q lc es ρ λds=>bind (yI ds) k
  | _=>bad
 eq e ρ _ k h:=by
  cases e with
  | Tuple es n p=>simp only [k7 h,bind_assoc]
  | _=>rfl
def DR:RuE where
 is _ _ e:=match e with
  | .List es _=>es.all noStar
  | _=>false
 run r _ _ lc e ρ:=match e with
  | .List es _=>bind (r8 r lc es ρ) xu
  | _=>bad
 ok e R TX h hi:=by
  cases e with
  | List es p=>exact xG (m4 R h hi)
  | _=>exact d6
 runK q _ _ lc e ρ _ k:=match e with
  | .List es _=>u9 q lc es ρ λds=>bind (xu ds) k
  | _=>bad
 eq e ρ _ k h:=by
  cases e with
  | List es p=>simp only [k7 h,bind_assoc]
  | _=>rfl
def aQ (r:Ev) (a:Lc):List (Option Expr)->List Expr->List ((Env->M D)×(Env->M D))
 | some k :: b,v :: vs=>(r.e a k,r.e a v) :: aQ r a b vs
 | _,_=>[]
def cO (q:EvK) (c:Lc) {d:Type}:List (Option Expr)->List Expr->Env->(List (D×D)->M d)->M d
 | some x :: e,v :: vs,ρ,k=>q.e c x ρ λa=>q.e c v ρ λb=>cO q c e vs ρ λps=>k ((a,b) :: ps)
 | _,_,_,k=>k []
theorem ej (R:EvOk T k r) (h:CxOk T k lc X):∀ {b:List (Option Expr)} {vs:List Expr},b.all (·.isSome)=true->b.length=vs.length->PPs X pos b vs ((aQ r lc b vs).map λd=>(tD X.K T.cl (xOf X) d.1,tD X.K T.cl (xOf X) d.2))
 | [],[],_,_=>iV
 | [],_ :: _,_,a=>by simp at a
 | _ :: _,[],_,a=>by simp at a
 | none :: _,_ :: _,c,_=>by simp at c
 | some k :: b,v :: vs,c,a=>eh (R.ex h k) (R.ex h v) (ej R h (by simpa using c) (by simpa using a))
theorem eS (h:EqK r q):∀ (c:List (Option Expr)) (vs:List Expr) (ρ:Env) {d:Type} (k:List (D×D)->M d),cO q lc c vs ρ k=bind (t7 (aQ r lc c vs) ρ) k
 | [],_,_,_,_=>rfl
 | none :: _,_,_,_,_=>rfl
 | some _ :: _,[],_,_,_=>rfl
 | some x :: c,v :: vs,ρ,_,k=>by
  simp only [cO,aQ,t7,h.e,bind_assoc];congr;funext a;congr;funext b;rw [eS h c vs ρ];rfl
def EC:RuE where
 is _ _ e:=match e with
  | .Dict ks vs _=>ks.all (·.isSome)&&decide (ks.length=vs.length)&&decide (0<ks.length)&&decide (ks.length<=15)
  | _=>false
 run r _ _ lc e ρ:=match e with
  | .Dict ks vs _=>bind (t7 (aQ r lc ks vs) ρ) jU
  | _=>bad
 ok e R TX h hi:=by
  cases e with
  | Dict ks vs p=>
   simp only [Ey,Fh] at hi;exact qL (ej R h hi.1.1.1 hi.1.1.2) hi.1.1.1 hi.1.1.2 (by intro z;rw [z] at hi;simp at hi) hi.2
  | _=>exact d6
 runK q _ _ lc e ρ _ k:=match e with
  | .Dict ks vs _=>cO q lc ks vs ρ λps=>bind (jU ps) k
  | _=>bad
 eq e ρ _ k h:=by
  cases e with
  | Dict ks vs p=>simp only [eS h,bind_assoc]
  | _=>rfl
def rIx:RuE where
 is _ _ e:=match e with
  | .Subscript _ i _=>v3 i
  | _=>false
 run r _ _ lc e ρ:=match e with
  | .Subscript a i _=>bind (r.e lc a ρ) λx=>bind (r.e lc i ρ) λy=>ixD x y
  | _=>bad
 ok e R TX h hi:=by
  cases e with
  | Subscript a i p=>exact zk (R.ex h _) (R.ex h _) (Cy h.u1) (gH hi)
  | _=>exact d6
 runK q _ _ lc e ρ _ k:=match e with
  | .Subscript a i _=>q.e lc a ρ λx=>q.e lc i ρ λy=>bind (ixD x y) k
  | _=>bad
 eq e ρ _ k h:=by
  cases e with
  | Subscript a i p=>simp only [h.e,bind_assoc]
  | _=>rfl
def dQ (r:Ev) (a:Lc) (o:Option Expr) (ρ:Env):M (Option Int):=match o with
 | none=>ret none
 | some e=>bind (r.e a e ρ) bG
def jH (q:EvK) (b:Lc) {a:Type} (o:Option Expr) (ρ:Env) (k:Option Int->M a):M a:=match o with
 | none=>k none
 | some e=>q.e b e ρ λd=>bind (bG d) k
theorem uT (h:EqK r q) (o:Option Expr) (ρ:Env) {a:Type} (k:Option Int->M a):jH q lc o ρ k=bind (dQ r lc o ρ) k:=by
 cases o with
 | none=>rfl
 | some e=>simp only [jH,dQ,h.e,bind_assoc]
theorem hG (R:EvOk T k r) (h:CxOk T k lc X) {o:Option Expr}:PO X o (tPt X.K T.cl (xOf X) (dQ r lc o)):=by
 cases o with
 | none=>exact rL
 | some e=>exact sF (R.ex h e)
def rSl:RuE where
 is _ _ e:=match e with
  | .Subscript _ (.Slice _ _ none _) _=>true
  | _=>false
 run r _ _ lc e ρ:=match e with
  | .Subscript a (.Slice lo b none _) _=>bind (r.e lc a ρ) λd=>bind (dQ r lc lo ρ) λl=>bind (dQ r lc b ρ) λu=>slD d l u
  | _=>bad
 ok e R TX h b:=by
  split at b
  ·exact Am (R.ex h _) (hG R h) (hG R h)
  ·cases b
 runK q _ _ lc e ρ _ k:=match e with
  | .Subscript a (.Slice lo b none _) _=>q.e lc a ρ λd=>jH q lc lo ρ λl=>jH q lc b ρ λu=>bind (slD d l u) k
  | _=>bad
 eq e ρ _ k h:=by
  split
  ·simp only [h.e,uT h,bind_assoc]
  ·first
   | rfl
   | (rename_i c;split;exact (c _ _ _ _ _ rfl).elim;rfl)
def Cu:RuE where
 is Γ _ e:=match e with
  | .Attribute a g _=>p9 a&&decide (g∈Γ.flds)
  | _=>false
 run r _ _ lc e ρ:=match e with
  | .Attribute a g _=>bind (r.e lc a ρ) (dN g)
  | _=>bad
 ok e R TX h hi:=by
  cases e with
  | Attribute a g p=>
   simp at hi;exact xf (λc xc=>by rw [h.K] at xc ⊢;exact TX.fld g hi.2 c xc) (R.ex h _) hi.1
  | _=>exact d6
 runK q _ _ lc e ρ _ k:=match e with
  | .Attribute a g _=>q.e lc a ρ λd=>bind (dN g d) k
  | _=>bad
 eq e ρ _ k h:=by
  cases e with
  | Attribute a g p=>simp only [h.e,bind_assoc]
  | _=>rfl
def yh:RuT where
 is _ _ e:=match e with
  | .UnaryOp .Not _ _=>true
  | _=>false
 run r _ _ lc e ρ:=match e with
  | .UnaryOp .Not a _=>bind (r.t lc a ρ) λq=>ret (!q)
  | _=>bad
 ok e R TX h hi:=by
  split at hi
  ·exact xT (R.tx h _)
  ·cases hi
 runK q _ _ lc e ρ _ k:=match e with
  | .UnaryOp .Not a _=>q.t lc a ρ λc=>k (!c)
  | _=>bad
 eq e ρ _ k h:=by
  split
  ·simp only [h.t,bind_assoc,h7]
  ·first
   | rfl
   | (rename_i b;split;exact (b _ _ rfl).elim;rfl)
def Bq:RuT where
 is _ _ e:=match e with
  | .BoolOp _ _ _=>true
  | _=>false
 run r _ _ lc e ρ:=match e with
  | .BoolOp .And es _=>nu r lc es ρ
  | .BoolOp .Or es _=>orB r lc es ρ
  | _=>bad
 ok e R TX h hi:=by
  cases e with
  | BoolOp op es p=>cases op;exact (iY R h).pt;exact (mR R h).pt
  | _=>exact gY
 runK q _ _ lc e ρ _ k:=match e with
  | .BoolOp .And es _=>hF q lc es ρ k
  | .BoolOp .Or es _=>tQ q lc es ρ k
  | _=>bad
 eq e ρ _ k h:=by
  cases e with
  | BoolOp op es p=>cases op;exact gu h es ρ k;exact lU h es ρ k
  | _=>rfl
def De:RuT where
 is _ _ e:=match e with
  | .Compare _ [_] [b] _=>q5 b
  | _=>false
 run r _ _ lc e ρ:=match e with
  | .Compare a [op] [b] _=>bind (r.e lc a ρ) λx=>bind (r.e lc b ρ) λy=>bind (c8 op x y) asB
  | _=>bad
 ok e R TX h hi:=by
  split at hi
  ·exact cE (R.ex h _) (R.ex h _) (mE h _) (B6 hi)
  ·cases hi
 runK q _ _ lc e ρ _ k:=match e with
  | .Compare a [op] [b] _=>q.e lc a ρ λx=>q.e lc b ρ λy=>bind (c8 op x y) λd=>bind (asB d) k
  | _=>bad
 eq e ρ _ k h:=by
  split
  ·simp only [h.e,bind_assoc]
  ·first
   | rfl
   | (rename_i c;split;exact (c _ _ _ _ rfl).elim;rfl)
def yU:RuT where
 is _ _ e:=C7 e
 run r _ _ lc e ρ:=bind (r.e lc e ρ) v1
 ok e R TX h hi:=kx (R.ex h _) hi
 runK q _ _ lc e ρ _ k:=q.e lc e ρ λd=>bind (v1 d) k
 eq e ρ _ k h:=by simp only [h.e,bind_assoc]
def mi (Γ:Gm) (x:Str) (p:Nat->Nat->Bool):Bool:=match Γ.gl.lookup x with
 | some (.fn i n)=>p i n
 | _=>false
theorem cm (h:mi Γ x p=true):∃ i n,Γ.gl.lookup x=some (.fn i n)/\p i n=true:=by
 unfold mi at h;grind
def rFn:RuE where
 is Γ lc e:=match e with
  | .Call (.Name x _) es [] _=>k9 x&&glB lc.sc x&&es.all noStar&&!quiet lc&&mi Γ x λi n=>decide (es.length=n)&&decide (i∉Γ.qs)
  | _=>false
 run r Γ C lc e ρ:=match e with
  | .Call (.Name x _) es [] _=>(match Γ.gl.lookup x with
   | some (.fn i n)=>bind (r8 r lc es ρ) λds=>if ds.length=n then C i ds else bad
   | _=>bad)
  | _=>bad
 ok {T k r Γ C lc X} e R TX h hi:=by
  split at hi
  ·rename_i x p es pos;simp only [Ey,FN] at hi;obtain ⟨⟨⟨⟨w,m⟩,c⟩,f⟩,v⟩:=hi;obtain ⟨s,E,D⟩:=m3 w;obtain ⟨i,n,l,b⟩:=cm v;simp at b;obtain ⟨a,fd,ps,B,A,y,z,u⟩:=(TX.fn x i n l b.2).ex;have F:FnOk X.prog X.w X.K X.mg X.base (CXd X.prog X.w X.K) k a fd ps (spX X.K T.cl n (C i)):=by rw [h.prog,h.w,h.K,h.mg,h.base];exact A
   have d:PySem.W.keepIn X.K (.ref a)=true:=by rw [h.K];exact z
   have j:Binds X.K fd ps []:=by rw [h.K];exact u
   have o:X.mg x=some (.ref a):=by rw [h.mg];exact y
   show PE X _ (tD X.K T.cl (xOf X) λρ=>(match Γ.gl.lookup x with
    | some (.fn i n)=>bind (r8 r lc es ρ) λds=>if ds.length=n then C i ds else bad
    | _=>bad))
   rw [l]
   match es,c,b with
   | [],_,b=>
    have:=b.1.symm;subst this;exact ja F (h.room0 f) (h.gl m) o d j s
   | e :: es,c,_=>exact lQ F (h.room0 f) (h.gl m) o d j (m4 R h c) s c
  ·cases hi
 runK q Γ C lc e ρ _ k:=match e with
  | .Call (.Name x _) es [] _=>(match Γ.gl.lookup x with
   | some (.fn i n)=>u9 q lc es ρ λds=>if ds.length=n then bind (C i ds) k else bad
   | _=>bad)
  | _=>bad
 eq {r q Γ C lc} e ρ _ k h:=by
  split
  ·rename_i x p es pos;cases Γ.gl.lookup x with
   | none=>rfl
   | some g=>cases g <;> first | rfl | simp only [k7 h,bind_assoc,o9,aU]
  ·first
   | rfl
   | (rename_i t;split;exact (t _ _ _ _ rfl).elim;rfl)
def Cq:RuE where
 is Γ lc e:=match e with
  | .Call (.Name x _) (a :: es) [] _=>k9 x&&glB lc.sc x&&(a :: es).all noStar&&mi Γ x λi n=>decide ((a :: es).length=n)&&decide (i∈Γ.qs)
  | _=>false
 run r Γ C lc e ρ:=match e with
  | .Call (.Name x _) es [] _=>(match Γ.gl.lookup x with
   | some (.fn i n)=>nx (bind (r8 r lc es ρ) λds=>if ds.length=n then C i ds else bad)
   | _=>bad)
  | _=>bad
 ok {T k r Γ C lc X} e R TX h hi:=by
  split at hi
  ·rename_i x p j es pos;simp only [Ey] at hi;obtain ⟨⟨⟨G,D⟩,m⟩,B⟩:=hi;obtain ⟨N,P,O⟩:=m3 G;obtain ⟨i,n,o,l⟩:=cm B;simp at l;obtain ⟨a,fd,ps,u,M,J,K,w⟩:=(TX.fnq x i n o l.2).ex;have d:FnOk X.prog X.w X.K X.mg X.base (CXq true) k a fd ps (spD X.K T.cl n (C i)):=by rw [h.prog,h.w,h.K,h.mg,h.base];exact M
   have F:FnOk X.prog X.w X.K X.mg X.base (CXq (quiet lc)) k a fd ps (spD X.K T.cl n (C i)):=by
    cases quiet lc with
    | true=>exact d
    | false=>exact ⟨d.len,λA b s H c us vs Q E y j f r h=>d.run A b s H c us vs Q E y.any j f r h⟩
   have v:PySem.W.keepIn X.K (.ref a)=true:=by rw [h.K];exact K
   have f:Binds X.K fd ps []:=by rw [h.K];exact w
   have I:X.mg x=some (.ref a):=by rw [h.mg];exact J
   show PE X _ (tD X.K T.cl (xOf X) λρ=>(match Γ.gl.lookup x with
    | some (.fn i n)=>nx (bind (r8 r lc (j :: es) ρ) λds=>if ds.length=n then C i ds else bad)
    | _=>bad))
   rw [o];have:=uD (p:=p) (pos:=pos) u F h.room (h.gl D) I v f Ay (PA.x0 (m4 R h m)) N m l.1;exact PE.imp this λσ H Q ⟨μ,S,ρ,L,z,p⟩=>⟨μ,S,ρ,L,z,p.nx⟩
  ·cases hi
 runK q Γ C lc e ρ _ k:=match e with
  | .Call (.Name x _) es [] _=>(match Γ.gl.lookup x with
   | some (.fn i n)=>bind (nx (u9 q lc es ρ λds=>if ds.length=n then C i ds else bad)) k
   | _=>bad)
  | _=>bad
 eq {r q Γ C lc} e ρ _ k h:=by
  split
  ·rename_i x p es pos;cases Γ.gl.lookup x with
   | none=>rfl
   | some g=>cases g <;> first | rfl | simp only [k7 h]
  ·first
   | rfl
   | (rename_i t;split;exact (t _ _ _ _ rfl).elim;rfl)
def kc (r:Ev) (Γ:Gm) (a:Lc) (x:Str) (es:List Expr) (ρ:Env):M D:=match Γ.gl.lookup x with
 | some (.err c fs)=>(match fs with
  | []=>bind (r8 r a es ρ) (nP c)
  | [g]=>bind (r8 r a es ρ) (L7 c [g])
  | [g,b]=>bind (r8 r a es ρ) (L7 c [g,b])
  | _=>bad)
 | _=>bad
def qG (q:EvK) (Γ:Gm) (a:Lc) (x:Str) (es:List Expr) (ρ:Env) {b:Type} (k:D->M b):M b:=match Γ.gl.lookup x with
 | some (.err c fs)=>(match fs with
  | []=>u9 q a es ρ λds=>bind (nP c ds) k
  | [g]=>u9 q a es ρ λds=>bind (L7 c [g] ds) k
  | [g,d]=>u9 q a es ρ λds=>bind (L7 c [g,d] ds) k
  | _=>bad)
 | _=>bad
theorem mZ (h:EqK r q) (x:Str) (es:List Expr) (ρ:Env) {α:Type} (k:D->M α):qG q Γ lc x es ρ k=bind (kc r Γ lc x es ρ) k:=by
 unfold qG kc;cases Γ.gl.lookup x with
 | none=>rfl
 | some g=>
  cases g with
  | err c fs=>
   match fs with
   | []=>simp only [k7 h,bind_assoc]
   | [g]=>simp only [k7 h,bind_assoc]
   | [g,g2]=>simp only [k7 h,bind_assoc]
   | _ :: _ :: _ :: _=>rfl
  | _=>rfl
theorem iA {C:Cf} {lc:Lc} {X:Cx} {x:Str} {p pos:Pos} {e:Expr} {es:List Expr} (R:EvOk T k r) (TX:TxOk T Γ k C) (h:CxOk T k lc X) (c1:k9 x=true) (c2:glB lc.sc x=true) (c3:(e :: es).all noStar=true) (c4:quiet lc=false) :
  PE X (.Call (.Name x p) (e :: es) [] pos) (tDf X.K T.cl (xOf X) (kc r Γ lc x (e :: es))):=by
 have bd:PE X (.Call (.Name x p) (e :: es) [] pos) (tDf X.K T.cl (xOf X) λρ=>bad):=λ_ _ _ _ _ _ ⟨_,_,_,_,_,z⟩=>z.elim;obtain ⟨n1,n2,n3⟩:=m3 c1;have ha:=m4 R h c3;unfold kc;cases e1:Γ.gl.lookup x with
 | none=>exact bd
 | some g=>
  cases g with
  | val d=>exact bd
  | fn i n=>exact bd
  | dct kvs=>exact bd
  | err c fs=>
   obtain ⟨ea,na⟩:=TX.err x c fs e1;obtain ⟨f,fd,ps,g1,g2,g3,g4⟩:=ea.ex;have xc:XC X.K (T.cl c):=by rw [h.K];exact ea.xc
   have hm:X.mg x=some (.ref (T.cl c)):=by rw [h.mg];exact ea.mg_
   have hr:=(h.room0 c4).mono TX.k3;have hi:PySem.W.findIn X.K (.ref (T.cl c)) "__init__" = some (some (.ref f)):=by rw [h.K];exact g1
   have hf:PySem.W.isFn X.K (.ref f)=true:=by rw [h.K];exact g2
   have hb:Binds X.K fd ps []:=by rw [h.K];exact g3
   match fs,g4,na with
   | [],g4,na=>exact pP xc hi hf (by rw [h.prog,h.w,h.K,h.mg,h.base];exact g4) hr (h.gl c2) hm hb U3 ha n1 c3
   | [g],g4,na=>exact lL xc (by rw [h.K];exact na g (by simp)) hi hf (by rw [h.prog,h.w,h.K,h.mg,h.base];exact g4) hr (h.gl c2) hm hb U3 ha n1 c3
   | [g,g'],g4,na=>exact ow xc (by rw [h.K];exact na g (by simp)) (by rw [h.K];exact na g' (by simp)) hi hf (by rw [h.prog,h.w,h.K,h.mg,h.base];exact g4) hr (h.gl c2) hm hb U3 ha n1 c3
   | _ :: _ :: _ :: _,g4,_=>exact g4.elim
def sv (Γ:Gm) (x:Str):Bool:=match Γ.gl.lookup x with
 | some (.err _ _)=>true
 | _=>false
def DP:RuE where
 is Γ lc e:=match e with
  | .Call (.Name x _) (a :: es) [] _=>k9 x&&glB lc.sc x&&(a :: es).all noStar&&!quiet lc&&sv Γ x
  | _=>false
 run r Γ C lc e ρ:=match e with
  | .Call (.Name x _) (a :: es) [] _=>kc r Γ lc x (a :: es) ρ
  | _=>bad
 ok {T k r Γ C lc X} e R TX h hi:=by
  split at hi
  ·simp only [Ey,FN] at hi;exact PE.unf (iA R TX h hi.1.1.1.1 hi.1.1.1.2 hi.1.1.2 hi.1.2)
  ·cases hi
 runK q Γ C lc e ρ _ k:=match e with
  | .Call (.Name x _) (a :: es) [] _=>qG q Γ lc x (a :: es) ρ k
  | _=>bad
 eq {r q Γ C lc} e ρ _ k h:=by
  split
  ·exact mZ h _ _ ρ k
  ·first
   | rfl
   | (rename_i b;split;exact (b _ _ _ _ _ rfl).elim;rfl)
def P8 (Γ:Gm) (b:Lc) (x:Str) (a:Expr):Bool:=decide (x = "isinstance")&&(Γ.gl.lookup ("isinstance" : Str)).isNone&&glB b.sc "isinstance" && noStar a
theorem M5 (h:P8 Γ lc x a=true):x = "isinstance"/\Γ.gl.lookup ("isinstance" : Str)=none/\glB lc.sc "isinstance" = true/\noStar a=true:=by
 simp only [P8,Ey,Fh,FH] at h;grind
def zf:RuE where
 is Γ lc e:=match e with
  | .Call (.Name x _) [a,.Name y _] [] _=>P8 Γ lc x a&&k9 y&&glB lc.sc y&&sv Γ y
  | _=>false
 run r Γ C lc e ρ:=match e with
  | .Call (.Name _ _) [a,.Name y _] [] _=>(match Γ.gl.lookup y with
   | some (.err c0 _)=>bind (r.e lc a ρ) (u6 λc=>Γ.sub c c0)
   | _=>bad)
  | _=>bad
 ok {T k r Γ C lc X} e R TX h hi:=by
  split at hi
  ·rename_i x p a y q pos;simp at hi;obtain ⟨⟨⟨c0,c1⟩,c2⟩,c3⟩:=hi;obtain ⟨rfl,i1,i2,i3⟩:=M5 c0;obtain ⟨n1,n2,n3⟩:=m3 c1;show PE X _ (tD X.K T.cl (xOf X) λρ=>(match Γ.gl.lookup y with
    | some (.err c0 _)=>bind (r.e lc a ρ) (u6 λc=>Γ.sub c c0)
    | _=>bad))
   cases e1:Γ.gl.lookup y with
   | none=>exact d6
   | some g=>
    cases g with
    | err c0 fs=>exact tY (λc xc=>by rw [h.K] at xc ⊢;exact TX.sub y c c0 fs e1 xc) (R.ex h a) (h.gl i2) (TX.none h (by decide) i1) (h.gl c2) (by rw [h.mg];exact (TX.err y c0 fs e1).1.mg_) n1 i3
    | val d=>exact d6
    | fn i n=>exact d6
    | dct kvs=>exact d6
  ·cases hi
 runK q Γ C lc e ρ _ k:=match e with
  | .Call (.Name _ _) [a,.Name y _] [] _=>(match Γ.gl.lookup y with
   | some (.err c0 _)=>q.e lc a ρ λd=>bind (u6 (λc=>Γ.sub c c0) d) k
   | _=>bad)
  | _=>bad
 eq {r q Γ C lc} e ρ _ k h:=by
  split
  ·rename_i x p a y q pos;cases Γ.gl.lookup y with
   | none=>rfl
   | some g=>cases g <;> first | rfl | simp only [h.e,bind_assoc]
  ·first
   | rfl
   | (rename_i hn;split;exact (hn _ _ _ _ _ _ rfl).elim;rfl)
def btys:List (Str×String):=[("int","int"),("bool","bool"),("str","str"),("tuple","tuple"),("list","list"),("dict","dict"),("ValueError","ValueError")]
theorem tZ:∀ {x:Str} {t:String},btys.lookup x=some t->bootBuiltins x=some (.type t)/\x∈bnames/\(t∈tys\/t = "ValueError"):=by
 intro x t e;have:∀ y∈btys,bootBuiltins y.1=some (.type y.2)/\y.1∈bnames/\(y.2∈tys\/y.2 = "ValueError"):=by
  intro y a;simp only [btys,EU,Hk,or_false] at a;rcases a with rfl | rfl | rfl | rfl | rfl | rfl | rfl <;> exact ⟨rfl,by decide,by decide⟩
 exact this _ (L2.mem_of_lookup e)
def Bi:RuE where
 is Γ lc e:=match e with
  | .Call (.Name x _) [a,.Name y _] [] _=>P8 Γ lc x a&&k9 y&&glB lc.sc y&&(Γ.gl.lookup y).isNone
  | _=>false
 run r Γ C lc e ρ:=match e with
  | .Call (.Name _ _) [a,.Name y _] [] _=>(match btys.lookup y with
   | some T=>bind (r.e lc a ρ) λd=>if T∈tys then dZ T (λ_=>false) d else u6 (λ_=>true) d
   | none=>bad)
  | _=>bad
 ok {T k r Γ C lc X} e R TX h hi:=by
  split at hi
  ·rename_i x p a y q pos;simp only [Ey,FH] at hi;obtain ⟨⟨⟨c0,w⟩,v⟩,l⟩:=hi;obtain ⟨rfl,B,s,i⟩:=M5 c0;obtain ⟨m,D,n⟩:=m3 w;have j:=TX.none h (by decide) B;show PE X _ (tD X.K T.cl (xOf X) λρ=>(match btys.lookup y with
    | some T=>bind (r.e lc a ρ) λd=>if T∈tys then dZ T (λ_=>false) d else u6 (λ_=>true) d
    | none=>bad))
   cases A:btys.lookup y with
   | none=>exact d6
   | some t=>
    obtain ⟨o,u,f⟩:=tZ A;by_cases g:t∈tys
    ·have:=gq (pos:=pos) (p:=p) (q:=q) (.inl g) (λc b=>by rw [h.K] at b ⊢;exact TX.subT c b t g) (R.ex h a) (h.gl s) j (h.gl v) (TX.none h u l) o n m i;simp only [if_pos g] at this ⊢;exact this
    ·rcases f with f | f
     ·exact absurd f g
     ·subst f;have:=gq (pos:=pos) (p:=p) (q:=q) (.inr rfl) (λc b=>by rw [h.K] at b ⊢;exact TX.subV c b) (R.ex h a) (h.gl s) j (h.gl v) (TX.none h u l) o n m i;exact this
  ·cases hi
 runK q Γ C lc e ρ _ k:=match e with
  | .Call (.Name _ _) [a,.Name y _] [] _=>(match btys.lookup y with
   | some T=>q.e lc a ρ λd=>if T∈tys then bind (dZ T (λ_=>false) d) k else bind (u6 (λ_=>true) d) k
   | none=>bad)
  | _=>bad
 eq {r q Γ C lc} e ρ _ k h:=by
  split
  ·rename_i x p a y q pos;cases btys.lookup y with
   | none=>rfl
   | some T=>simp only [h.e,bind_assoc,o9]
  ·first
   | rfl
   | (rename_i z;split;exact (z _ _ _ _ _ _ rfl).elim;rfl)
def aB (Γ:Gm) (a:Lc):List Expr->Option (List Nat)
 | []=>some []
 | .Name y _ :: ys=>if k9 y=true/\glB a.sc y=true then (match Γ.gl.lookup y,aB Γ a ys with
  | some (.err c0 _),some cs=>some (c0 :: cs)
  | _,_=>none) else none
 | _=>none
theorem iU {Γ:Gm} {C:Cf} {lc:Lc} {X:Cx} (TX:TxOk T Γ k C) (h:CxOk T k lc X):∀ {ys:List Expr} {cs:List Nat},aB Γ lc ys=some cs->NamesC X T.cl ys cs/\∀ c0∈cs,∀ c,XC X.K (T.cl c)->PySem.W.kitOne X.K (.ref (T.cl c)) (.ref (T.cl c0))=some (Γ.sub c c0)
 | [],cs,e=>by cases e;exact ⟨.nil,λc hc=>(by cases hc)⟩
 | y :: ys,cs,e=>by
  cases y with
  | Name y p=>
   simp only [aB] at e;by_cases hc:k9 y=true/\glB lc.sc y=true
   ·simp only [if_pos hc] at e;obtain ⟨n1,n2,n3⟩:=m3 hc.1;cases e1:Γ.gl.lookup y with
    | none=>rw [e1] at e;cases e
    | some g=>
     cases g with
     | val d=>rw [e1] at e;cases e
     | fn i n=>rw [e1] at e;cases e
     | dct kvs=>rw [e1] at e;cases e
     | err c0 fs=>
      cases e2:aB Γ lc ys with
      | none=>grind
      | some cs'=>
       rw [e1,e2] at e;cases e;obtain ⟨i1,i2⟩:=iU TX h e2;refine ⟨.cons (h.gl hc.2) (by rw [h.mg];exact (TX.err y c0 fs e1).1.mg_) n1 i1,λc1 hc1 c xc=>?_⟩;rcases EU.mp hc1 with rfl | hc1
       ·rw [h.K] at xc ⊢;exact TX.sub y c _ fs e1 xc
       ·exact i2 c1 hc1 c xc
   ·grind
  | _=>simp only [aB] at e;cases e
def zu:RuE where
 is Γ lc e:=match e with
  | .Call (.Name x _) [a,.Tuple ys _ _] [] _=>P8 Γ lc x a&&(aB Γ lc ys).isSome&&decide (ys.length<=1000)
  | _=>false
 run r Γ C lc e ρ:=match e with
  | .Call (.Name _ _) [a,.Tuple ys _ _] [] _=>(match aB Γ lc ys with
   | some cs=>if cs.length<=1000 then bind (r.e lc a ρ) (u6 λc=>cs.any λc0=>Γ.sub c c0) else bad
   | none=>bad)
  | _=>bad
 ok {T k r Γ C lc X} e R TX h hi:=by
  split at hi
  ·rename_i x p a ys n q pos;simp at hi;obtain ⟨⟨c0,o⟩,s⟩:=hi;obtain ⟨rfl,m,l,f⟩:=M5 c0;show PE X _ (tD X.K T.cl (xOf X) λρ=>(match aB Γ lc ys with
    | some cs=>if cs.length<=1000 then bind (r.e lc a ρ) (u6 λc=>cs.any λc0=>Γ.sub c c0) else bad
    | none=>bad))
   cases e:aB Γ lc ys with
   | none=>exact d6
   | some cs=>
    by_cases b:cs.length<=1000
    ·simp only [if_pos b];obtain ⟨j,i⟩:=iU TX h e;exact jZ i b (R.ex h a) (h.gl l) (TX.none h (by decide) m) j f
    ·simp only [if_neg b];exact d6
  ·cases hi
 runK q Γ C lc e ρ _ k:=match e with
  | .Call (.Name _ _) [a,.Tuple ys _ _] [] _=>(match aB Γ lc ys with
   | some cs=>if cs.length<=1000 then q.e lc a ρ λd=>bind (u6 (λc=>cs.any λc0=>Γ.sub c c0) d) k else bad
   | none=>bad)
  | _=>bad
 eq {r q Γ C lc} e ρ _ k h:=by
  split
  ·rename_i x p a ys n q pos;cases aB Γ lc ys with
   | none=>rfl
   | some cs=>simp only [h.e,bind_assoc,o9,aU]
  ·first
   | rfl
   | (rename_i g;split;exact (g _ _ _ _ _ _ _ rfl).elim;rfl)
def iI (x:Str) (c:Bool) (Γ:Gm) (b:Lc) (e:Expr):Bool:=match e with
 | .Call (.Name f _) (a :: es) [] _=>decide (f=x)&&(a :: es).all noStar&&(Γ.gl.lookup x).isNone&&glB b.sc x&&!(c&&quiet b)
 | _=>false
def tF (g:List D->M D) (r:Ev) (b:Lc) (e:Expr) (ρ:Env):M D:=match e with
 | .Call (.Name _ _) (a :: es) [] _=>bind (r8 r b (a :: es) ρ) g
 | _=>bad
def tj (g:List D->M D) (q:EvK) (c:Lc) (e:Expr) (ρ:Env) {b:Type} (k:D->M b):M b:=match e with
 | .Call (.Name _ _) (a :: es) [] _=>u9 q c (a :: es) ρ λds=>bind (g ds) k
 | _=>bad
theorem nO (g:List D->M D) {r:Ev} {q:EvK} {a:Lc} (e:Expr) (ρ:Env) {c:Type} (k:D->M c) (h:EqK r q):tj g q a e ρ k=bind (tF g r a e ρ) k:=by
 unfold tj tF;split
 ·simp only [k7 h,bind_assoc]
 ·first
  | rfl
  | (rename_i b;split;exact (b _ _ _ _ _ rfl).elim;rfl)
theorem dj {d:Bool} {Γ:Gm} {b:Lc} {e:Expr} (h:iI x d Γ b e=true):∃ p a es pos,e=.Call (.Name x p) (a :: es) [] pos/\(a :: es).all noStar=true/\Γ.gl.lookup x=none/\glB b.sc x=true/\(d=true->quiet b=false):=by
 unfold iI at h;split at h
 ·simp only [Ey,Fh,FH,FN] at h;obtain ⟨⟨⟨⟨rfl,f⟩,g⟩,i⟩,c⟩:=h;refine ⟨_,_,_,_,rfl,f,g,i,λz=>?_⟩;rw [z] at c;simpa using c
 ·cases h
def rBf (x:Str) (id:String) (ld:Bool) (g:List D->M D) (hx:x∈bnames/\x ≠ "__name__"/\(x==("__debug__" : Str))=false) (hv:bootBuiltins x=some (.builtin id))
  (hc:∀ {T:Tx} {k:Nat} {lc:Lc} {X:Cx} {cl:ClW} {xe:Addr->Hp->Prop},CxOk T k lc X->(ld=true->X.calm=true)->j8 X (.builtin id) (rPs X.K cl xe g)):RuE where
 is:=iI x ld
 run r _ _ lc e ρ:=tF g r lc e ρ
 ok {T k r Γ C lc X} e R TX h hi:=by
  obtain ⟨p,a,es,pos,rfl,h1,h2,h3,h4⟩:=dj hi;exact ls (hc h λz=>h.calm (h4 z)) (h.gl h3) (TX.none h hx.1 h2) hv (m4 R h h1) hx.2.1 hx.2.2 h1
 runK q _ _ lc e ρ _ k:=tj g q lc e ρ k
 eq e ρ _ k h:=nO g e ρ k h
def rBt (x:Str) (id:String) (ld:Bool) (g:List D->M D) (hx:x∈bnames/\x ≠ "__name__"/\(x==("__debug__" : Str))=false) (hv:bootBuiltins x=some (.type id))
  (hc:∀ {T:Tx} {k:Nat} {lc:Lc} {X:Cx} {cl:ClW} {xe:Addr->Hp->Prop},CxOk T k lc X->(ld=true->X.calm=true)->j8 X (.type id) (rPs X.K cl xe g)):RuE where
 is:=iI x ld
 run r _ _ lc e ρ:=tF g r lc e ρ
 ok {T k r Γ C lc X} e R TX h hi:=by
  obtain ⟨p,a,es,pos,rfl,h1,h2,h3,h4⟩:=dj hi;exact qA (hc h λz=>h.calm (h4 z)) (h.gl h3) (TX.none h hx.1 h2) hv (m4 R h h1) hx.2.1 hx.2.2 h1
 runK q _ _ lc e ρ _ k:=tj g q lc e ρ k
 eq e ρ _ k h:=nO g e ρ k h
def EB:RuE:=rBf "len" "len" false (one k8) (by decide) PySem.boot_len λ_ _=>BL
def yf:RuE:=rBt "tuple" "tuple" false (one O1) (by decide) rfl λ_ _=>tu
def CC:RuE:=rBf "repr" "repr" false (one u8) (by decide) rfl λh _=>zE h.room.gd h.u64
def Cg:RuE:=rBf "max" "max" true jw (by decide) rfl λ_ a=>Bn (a rfl)
def AI (n:Nat) (Γ:Gm) (a:Lc) (e:Expr):Bool:=match e with
 | .Call (.Name f _) es [] _=>decide (f = "range")&&decide (es.length=n)&&es.all noStar&&(Γ.gl.lookup ("range" : Str)).isNone&&glB a.sc "range"
 | _=>false
def rgE (n:Nat) (r:Ev) (a:Lc) (e:Expr) (ρ:Env):M (Src×Nat):=match e with
 | .Call (.Name _ _) es [] _=>bind (r8 r a es ρ) λds=>if ds.length=n then J7 ds else bad
 | _=>bad
def rgK (n:Nat) (q:EvK) (b:Lc) (e:Expr) (ρ:Env) {a:Type} (k:Src×Nat->M a):M a:=match e with
 | .Call (.Name _ _) es [] _=>u9 q b es ρ λds=>if ds.length=n then bind (J7 ds) k else bad
 | _=>bad
theorem Bg (n:Nat) {r:Ev} {q:EvK} {a:Lc} (e:Expr) (ρ:Env) {b:Type} (k:Src×Nat->M b) (h:EqK r q):rgK n q a e ρ k=bind (rgE n r a e ρ) k:=by
 unfold rgK rgE;split
 ·simp only [k7 h,bind_assoc,o9,aU]
 ·first
  | rfl
  | (rename_i c;split;exact (c _ _ _ _ rfl).elim;rfl)
def rE:RuI where
 is Γ lc _ e:=AI 1 Γ lc e
 run r _ _ lc e ρ:=rgE 1 r lc e ρ
 ok {T k r Γ C lc X} g e R TX h hi:=by
  unfold AI at hi;split at hi
  ·rename_i f p es pos;simp only [Ey,Fh,FH] at hi;obtain ⟨⟨⟨⟨rfl,c⟩,b⟩,i⟩,d⟩:=hi
   match es,c,b with
   | [a],_,b=>exact fZ (h.gl d) (TX.none h (by decide) i) (m4 R h b) (by simpa using b)
  ·cases hi
 runK q _ _ lc e ρ _ k:=rgK 1 q lc e ρ k
 eq e ρ _ k h:=Bg 1 e ρ k h
def Bw:RuI where
 is Γ lc g e:=match g,e with
  | .Tuple _ _ _,.Call (.Name f _) [a] [] _=>decide (f = "enumerate")&&noStar a&&(Γ.gl.lookup ("enumerate" : Str)).isNone&&glB lc.sc "enumerate"
  | _,_=>false
 run r _ _ lc e ρ:=match e with
  | .Call (.Name _ _) [a] [] _=>bind (r8 r lc [a] ρ) λds=>(match ds with
   | [d]=>eA d
   | _=>bad)
  | _=>bad
 ok {T k r Γ C lc X} g e R TX h hi:=by
  split at hi
  ·simp only [Ey,Fh,FH] at hi;obtain ⟨⟨⟨rfl,b⟩,c⟩,j⟩:=hi;exact oX (h.gl j) (TX.none h (by decide) c) (m4 R h (by simpa using b)) b
  ·cases hi
 runK q _ _ lc e ρ _ k:=match e with
  | .Call (.Name _ _) [a] [] _=>u9 q lc [a] ρ λds=>(match ds with
   | [d]=>bind (eA d) k
   | _=>bad)
  | _=>bad
 eq e ρ _ k h:=by
  split
  ·simp only [k7 h,bind_assoc];congr;funext ds
   match ds with
   | []=>rfl
   | [_]=>rfl
   | _ :: _ :: _=>rfl
  ·first
   | rfl
   | (rename_i i;split;exact (i _ _ _ _ rfl).elim;rfl)
def DC:RuI where
 is _ _ _ _:=true
 run r _ _ lc e ρ:=bind (r.e lc e ρ) N5
 ok g e R TX h hi:=rm (R.ex h e)
 runK q _ _ lc e ρ _ k:=q.e lc e ρ λd=>bind (N5 d) k
 eq e ρ _ k h:=by simp only [h.e,bind_assoc]
def fQ (a b:Scope):Scope:={ a with names:=a.names.map λ(n,k)=>if (k==.free&&b.kind==.function&&b.names.lookup n==some .cell) then (n,NameKind.cell) else (n,k) }
theorem je (a:Scope) (b:PySem.Env):relabel a b=fQ a b.scope:=rfl
def j7 (a:Scope):List Str:=(a.names.filter λy=>y.2==.free).map (·.1)
def v6 (b:Lc) (a:Scope) (xs:List Str):Bool:=
 decide (a.kind=.function)&&a.names.all (λy=>decide (y.2≠.cell))&&a.names.all (λy=>decide (y.2=.local->a.names.lookup y.1=some .local))
  && a.names.all (λy=>decide (y.2=.free->a.names.lookup y.1=some .free/\(b.sc.names.lookup y.1=some .cell\/b.sc.names.lookup y.1=some .free)))
  && (j7 a).all (λz=>decide (a.names.lookup z=some .free))&&decide ((xs++j7 a).Nodup)&&xs.all (λx=>decide (a.names.lookup x=some .local))&&!quiet b
theorem eV:∀ {xs:List α} {ys:List β},h9 f xs=some ys->ys.length=xs.length
 | [],_,e=>by cases e;rfl
 | x :: xs,ys,e=>by
  simp only [h9] at e;cases a:f x with
  | none=>rw [a] at e;cases e
  | some y=>
   cases b:h9 f xs with
   | none=>grind
   | some c=>rw [a,b] at e;cases e;simp [eV b]
theorem fE:∀ {xs:List α} {ys:List β} {j:Nat} {y:β},h9 f xs=some ys->ys[j]?=some y->∃ x,xs[j]?=some x/\f x=some y
 | [],_,_,_,e,h=>by cases e;simp at h
 | x :: xs,ys,j,y,e,h=>by
  simp only [h9] at e;cases a:f x with
  | none=>rw [a] at e;cases e
  | some z=>
   cases b:h9 f xs with
   | none=>grind
   | some c=>
    rw [a,b] at e;cases e;cases j with
    | zero=>grind
    | succ j=>simpa using fE b (by simpa using h)
def h8 (b:Lc) (a:Scope) (xs:List Str):Lc:=⟨xs++j7 a,fQ a b.sc,false,[]⟩
def testsE (r:Ev) (a:Lc) (ifs:List Expr) (ρ:Env):M Bool:=match ifs with
 | []=>ret true
 | [c]=>r.t a c ρ
 | _=>bad
def testsK (q:EvK) (a:Lc) (ifs:List Expr) (ρ:Env):M Bool:=match ifs with
 | []=>ret true
 | [c]=>q.t a c ρ ret
 | _=>bad
theorem tests_eq (h:EqK r q) (ifs:List Expr) (ρ:Env):testsK q lc ifs ρ=testsE r lc ifs ρ:=by
 match ifs with
 | []=>rfl
 | [c]=>simp only [testsK,testsE,h.t,v7]
 | _ :: _ :: _=>rfl
section
variable {T:Tx} {k:Nat} {r:Ev} {q:EvK} {Γ:Gm} {C:Cf} {lc:Lc} {X:Cx}
theorem tests_ok (R:EvOk T k r) (h:CxOk T k lc X) {ifs:List Expr}:PTL X ifs (tBo X.K T.cl (xOf X) (testsE r lc ifs)):=by
 match ifs with
 | []=>exact jf
 | [c]=>exact qD (R.tx h c)
 | _ :: _ :: _=>exact λ_ _ _ _ _ _ ⟨_,_,_,_,_,p⟩=>p.elim
theorem K5 (h:CxOk T k lc X) {a:Scope} {xs:List Str} {caps:List Nat} (f:v6 lc a xs=true) (c:h9 (e9 lc.N) (j7 a)=some caps):CompText X.N X.env (xs++j7 a) xs.length caps a/\(xs++j7 a).Nodup/\(∀ x∈xs,a.names.lookup x=some .local)/\quiet lc=false/\a.kind=.function:=by
 simp only [v6,Ey,Fh,Fa,FN] at f;obtain ⟨⟨⟨⟨⟨⟨⟨b,s⟩,o⟩,r⟩,l⟩,n⟩,t⟩,p⟩:=f;refine ⟨⟨b,s,o,λy m q=>?_,λj i e=>?_,?_⟩,n,t,p,b⟩
 ·rw [h.sc];exact r y m q
 ·obtain ⟨z,d,g⟩:=fE c e;refine ⟨z,by rw [h.N];exact o1 g,?_,l z (EY d)⟩;rw [Fp (by omega)];simpa using d
 ·simp [eV c,Nat.add_comm]
theorem A4 (h:CxOk T k lc X) (b:quiet lc=false) {a:Scope} {xs:List Str} (d:a.kind=.function) (e:(xs++j7 a).Nodup) (pins:List (Addr×Obj)) (C:Addr) (c:List Addr) (s:Shared) (H:Hp):CxOk T k (h8 lc a xs) (c9 X pins (xs++j7 a) a C c s H):=
 ⟨h.prog,h.w,h.K,h.mg,h.base,rfl,e,by show relabel a X.env=fQ a lc.sc;rw [je,h.sc],λ_=>h.calm b,(by have:=h.room;rw [b] at this;exact this),PassesOwn.never,rfl,d,λz=>Bool.noConfusion z⟩
end
def j0 (src:Src) (t:D->M Bool) (f:D->M D):Nat->Nat->List D->M (List D)
 | 0,_,_=>bad
 | m+1,i,es=>λS=>match src i S with
  | none=>.bad
  | some none=>.ok es S
  | some (some d)=>bind (t d) (λb=>if b=true then bind (f d) (λy=>if es.length<sizeLine then j0 src t f m (i+1) (es++[y]) else bad) else j0 src t f m (i+1) es) S
theorem Q7 (src:Src) (t:Env->M Bool) (f:Env->M D) (mk:D->Env):∀ m i es,m9 src t f mk m i es=j0 src (λd=>t (mk d)) (λd=>f (mk d)) m i es
 | 0,_,_=>rfl
 | m+1,i,es=>by
  funext S;simp only [m9,j0,Q7 src t f mk m]
  all_goals (cases src i S with
  | none=>rfl
  | some o=>cases o <;> rfl)
def N4 (r:Ev) (c:Lc) (d:Expr) (x:Str) (e:Pos) (b:Expr) (ifs:List Expr) (a:Scope) (ρ:Env):M (List D):=match h9 (e9 c.N) (j7 a) with
 | some caps=>nx (hZ caps (r.i c (.Name x e) b) (testsE r (h8 c a [x]) ifs) (r.e (h8 c a [x]) d) ρ)
 | none=>bad
def cX (q:EvK) (c:Lc) (e:Expr) (x:Str) (h:Pos) (b:Expr) (ifs:List Expr) (a:Scope) (ρ:Env) {f:Type} (k:List D->M f):M f:=match h9 (e9 c.N) (j7 a) with
 | some caps=>bind (nx (q.i c (.Name x h) b ρ λg=>j0 g.1 (λd=>testsK q (h8 c a [x]) ifs (some d :: A0 caps ρ)) (λd=>q.e (h8 c a [x]) e (some d :: A0 caps ρ) ret) g.2 0 [])) k
 | none=>bad
theorem dW (h:EqK r q) (c:Expr) (x:Str) (d:Pos) (b:Expr) (ifs:List Expr) (a:Scope) (ρ:Env) {e:Type} (k:List D->M e):cX q lc c x d b ifs a ρ k=bind (N4 r lc c x d b ifs a ρ) k:=by
 unfold cX N4;cases h9 (e9 lc.N) (j7 a) with
 | none=>rfl
 | some caps=>simp only [h.i,h.e,v7,tests_eq h,hZ,Q7]
theorem pO (R:EvOk T k r) (h:CxOk T k lc X) {c:Expr} {x:Str} {g pos:Pos} {b:Expr} {ifs:List Expr} {a:Scope} (m:v6 lc a [x]=true) (o:q5 b=true) :
  PE X (.ListComp c [⟨.Name x g,b,ifs,0⟩] a pos) (tD X.K T.cl (xOf X) λρ=>bind (N4 r lc c x g b ifs a ρ) λds=>ret (.lst ds)):=by
 unfold N4;cases l:h9 (e9 lc.N) (j7 a) with
 | none=>exact d6
 | some caps=>
  obtain ⟨n,e,j,f,i⟩:=K5 h m l;refine iq (dO n (h.calm f) e rfl (j x (by simp)) (PI.x0 (R.ix h _ _)) (λpins C d s H=>?_) (λpins C d s H=>?_) o)
  ·exact PTL.x0 (tests_ok R (A4 h f i e pins C d s H))
  ·exact PE.x0 (R.ex (A4 h f i e pins C d s H) c)
def ym:RuE where
 is _ lc e:=match e with
  | .ListComp _ [⟨.Name x _,b,_,0⟩] a _=>v6 lc a [x]&&q5 b
  | _=>false
 run r _ _ lc e ρ:=match e with
  | .ListComp c [⟨.Name x d,b,ifs,0⟩] a _=>bind (N4 r lc c x d b ifs a ρ) λds=>ret (.lst ds)
  | _=>bad
 ok e R TX h hi:=by
  split at hi
  ·rw [Ey] at hi;exact pO R h hi.1 hi.2
  ·cases hi
 runK q _ _ lc e ρ _ k:=match e with
  | .ListComp c [⟨.Name x d,b,ifs,0⟩] a _=>cX q lc c x d b ifs a ρ λds=>k (.lst ds)
  | _=>bad
 eq e ρ _ k h:=by
  split
  ·simp only [dW h,bind_assoc,h7]
  ·first
   | rfl
   | (rename_i f;split;exact (f _ _ _ _ _ _ _ rfl).elim;rfl)
def Y8 (r:Ev) (c:Lc) (d:Expr) (x y:Str) (f h g:Pos) (e:Nat) (b:Expr) (ifs:List Expr) (a:Scope) (ρ:Env):M (List D):=match h9 (e9 c.N) (j7 a) with
 | some caps=>nx (cQ caps (r.i c (.Tuple [.Name x f,.Name y h] e g) b) (testsE r (h8 c a [x,y]) ifs) (r.e (h8 c a [x,y]) d) ρ)
 | none=>bad
def gO (q:EvK) (c:Lc) (e:Expr) (x y:Str) (i l j:Pos) (h:Nat) (b:Expr) (ifs:List Expr) (a:Scope) (ρ:Env) {f:Type} (k:List D->M f):M f:=match h9 (e9 c.N) (j7 a) with
 | some caps=>bind (nx (q.i c (.Tuple [.Name x i,.Name y l] h j) b ρ λg=>j0 g.1 (λd=>qZ (testsK q (h8 c a [x,y]) ifs) (mk2 (A0 caps ρ) d)) (λd=>q.e (h8 c a [x,y]) e (mk2 (A0 caps ρ) d) ret) g.2 0 [])) k
 | none=>bad
theorem lO (h:EqK r q) (c:Expr) (x y:Str) (f i g:Pos) (d:Nat) (b:Expr) (ifs:List Expr) (a:Scope) (ρ:Env) {j:Type} (k:List D->M j):gO q lc c x y f i g d b ifs a ρ k=bind (Y8 r lc c x y f i g d b ifs a ρ) k:=by
 unfold gO Y8;cases h9 (e9 lc.N) (j7 a) with
 | none=>rfl
 | some caps=>
  have e:testsK q (h8 lc a [x,y]) ifs=testsE r (h8 lc a [x,y]) ifs:=funext λρ=>tests_eq h ifs ρ;simp only [h.i,h.e,v7,e,cQ,Q7]
theorem oQ (R:EvOk T k r) (h:CxOk T k lc X) {c:Expr} {x y:Str} {l n m pos:Pos} {i:Nat} {b:Expr} {ifs:List Expr} {a:Scope} (p:v6 lc a [x,y]=true) (t:q5 b=true) :
  PE X (.ListComp c [⟨.Tuple [.Name x l,.Name y n] i m,b,ifs,0⟩] a pos) (tD X.K T.cl (xOf X) λρ=>bind (Y8 r lc c x y l n m i b ifs a ρ) λds=>ret (.lst ds)):=by
 unfold Y8;cases o:h9 (e9 lc.N) (j7 a) with
 | none=>exact d6
 | some caps=>
  obtain ⟨q,e,g,f,j⟩:=K5 h p o;refine iq (kL q (h.calm f) e rfl rfl (g x (by simp)) (g y (by simp)) (PI.x0 (R.ix h _ _)) (λpins C d s H=>?_) (λpins C d s H=>?_) t)
  ·exact PTL.x0 (tests_ok R (A4 h f j e pins C d s H))
  ·exact PE.x0 (R.ex (A4 h f j e pins C d s H) c)
def xq:RuE where
 is _ lc e:=match e with
  | .ListComp _ [⟨.Tuple [.Name x _,.Name y _] _ _,b,_,0⟩] a _=>v6 lc a [x,y]&&q5 b
  | _=>false
 run r _ _ lc e ρ:=match e with
  | .ListComp c [⟨.Tuple [.Name x f,.Name y i] d g,b,ifs,0⟩] a _=>bind (Y8 r lc c x y f i g d b ifs a ρ) λds=>ret (.lst ds)
  | _=>bad
 ok e R TX h hi:=by
  split at hi
  ·rw [Ey] at hi;exact oQ R h hi.1 hi.2
  ·cases hi
 runK q _ _ lc e ρ _ k:=match e with
  | .ListComp c [⟨.Tuple [.Name x f,.Name y i] d g,b,ifs,0⟩] a _=>gO q lc c x y f i g d b ifs a ρ λds=>k (.lst ds)
  | _=>bad
 eq e ρ _ k h:=by
  split
  ·simp only [lO h,bind_assoc,h7]
  ·first
   | rfl
   | (rename_i j;split;exact (j _ _ _ _ _ _ _ _ _ _ rfl).elim;rfl)
def yD (m:Str) (e:Expr):Bool:=match e with
 | .Call (.Attribute o n b) (a :: es) [] c=>decide (n=m)&&p9 o&&(a :: es).all noStar&&K9 (a :: es)&&(b.endLine==c.line)
 | _=>false
theorem sL (h:yD m e=true):∃ o b a es c,e=.Call (.Attribute o m b) (a :: es) [] c/\p9 o=true/\(a :: es).all noStar=true/\K9 (a :: es)=true/\(b.endLine==c.line)=true:=by
 unfold yD at h;grind
def mtE {c:Type} (g:D->M c) (op:D->List D->M D) (r:Ev) (b:Lc) (e:Expr) (ρ:Env):M D:=match e with
 | .Call (.Attribute o _ _) (a :: es) [] _=>bind (r.e b o ρ) λx=>bind (g x) λ_=>bind (r8 r b (a :: es) ρ) λds=>op x ds
 | _=>bad
def mtK {d:Type} (g:D->M d) (op:D->List D->M D) (q:EvK) (b:Lc) (e:Expr) (ρ:Env) {c:Type} (k:D->M c):M c:=match e with
 | .Call (.Attribute o _ _) (a :: es) [] _=>q.e b o ρ λx=>bind (g x) λ_=>u9 q b (a :: es) ρ λds=>bind (op x ds) k
 | _=>bad
theorem AZ (g:D->M α) (op:D->List D->M D) {r:Ev} {q:EvK} {a:Lc} (e:Expr) (ρ:Env) {b:Type} (k:D->M b) (h:EqK r q):mtK g op q a e ρ k=bind (mtE g op r a e ρ) k:=by
 unfold mtK mtE;split
 ·simp only [h.e,k7 h,bind_assoc]
 ·first
  | rfl
  | (rename_i c;split;exact (c _ _ _ _ _ _ rfl).elim;rfl)
def rMt {α:Type} (m:Str) (g:D->M α) (op:D->List D->M D)
  (ok:∀ {T:Tx} {k:Nat} {lc:Lc} {X:Cx} {xe:Addr->Hp->Prop} {o a:Expr} {es:List Expr} {apos cpos:Pos} {f:Env->M D} {fs:Env->M (List D)},CxOk T k lc X->PE X o (tD X.K T.cl xe f)->PA X (a :: es) (tDs X.K T.cl xe fs)->p9 o=true->(a :: es).all noStar=true->K9 (a :: es)=true->(apos.endLine==cpos.line)=true->PE X (.Call (.Attribute o m apos) (a :: es) [] cpos) (tD X.K T.cl xe λρ=>bind (f ρ) λx=>bind (g x) λ_=>bind (fs ρ) λds=>op x ds)):RuE where
 is _ _ e:=yD m e
 run r _ _ lc e ρ:=mtE g op r lc e ρ
 ok {T k r Γ C lc X} e R TX h hi:=by
  obtain ⟨o,apos,a,es,cpos,rfl,c1,c2,c3,c4⟩:=sL hi;exact ok h (R.ex h o) (m4 R h c2) c1 c2 c3 c4
 runK q _ _ lc e ρ _ k:=mtK g op q lc e ρ k
 eq e ρ _ k h:=AZ g op e ρ k h
def rAppend:RuE:=rMt "append" lstOf Q9 λ_ e d c f a b=>kl e d c f a b
def zv:RuS where
 is _ _ e:=match e with
  | .Expr e _=>j3 e
  | _=>false
 run r _ _ lc e ρ:=match e with
  | .Expr e _=>bind (r.e lc e ρ) λ_=>ret (.nx ρ)
  | _=>bad
 ok e R TX h hf hi:=by
  cases e with
  | Expr e p=>exact nF (R.ex h _) hi
  | _=>exact N6
 runK q _ _ lc e ρ _ k:=match e with
  | .Expr e _=>q.e lc e ρ λ_=>k (.nx ρ)
  | _=>bad
 eq e ρ _ k h:=by
  cases e with
  | Expr e p=>simp only [h.e,bind_assoc,h7]
  | _=>rfl
def Dv:RuS where
 is _ _ e:=match e with
  | .Return (some _) _=>true
  | _=>false
 run r _ _ lc e ρ:=match e with
  | .Return (some e) _=>bind (r.e lc e ρ) λd=>ret (.rt d)
  | _=>bad
 ok e R TX h hf hi:=by
  split at hi
  ·exact hB (R.ex h _)
  ·cases hi
 runK q _ _ lc e ρ _ k:=match e with
  | .Return (some e) _=>q.e lc e ρ λd=>k (.rt d)
  | _=>bad
 eq e ρ _ k h:=by
  split
  ·simp only [h.e,bind_assoc,h7]
  ·first
   | rfl
   | (rename_i a;split;exact (a _ _ rfl).elim;rfl)
def sIf:RuS where
 is _ _ e:=match e with
  | .If _ _ _ _=>true
  | _=>false
 run r _ _ lc e ρ:=match e with
  | .If c a b _=>bind (r.t lc c ρ) λq=>if q=true then M8 r lc a ρ else M8 r lc b ρ
  | _=>bad
 ok e R TX h hf hi:=by
  cases e with
  | If c a b p=>exact yn (R.tx h _) (G4 R h hf) (G4 R h hf)
  | _=>exact N6
 runK q _ _ lc e ρ _ k:=match e with
  | .If c a b _=>q.t lc c ρ λz=>if z=true then i6 q lc a ρ k else i6 q lc b ρ k
  | _=>bad
 eq e ρ _ k h:=by
  cases e with
  | If c a b p=>simp only [h.t,S9 h,bind_assoc,o9]
  | _=>rfl
def eG (a:Lc) (x:Str):Bool:=(e9 a.N x).isSome&&av a.sc x
def ax (a:Lc) (x:Str) (ρ:Env) (d:D):M Fl:=match e9 a.N x with
 | some i=>ret (.nx (ρ.set i (some d)))
 | none=>bad
def v5 (b:Lc) (x:Str) (ρ:Env) (d:D) {a:Type} (k:Fl->M a):M a:=match e9 b.N x with
 | some i=>k (.nx (ρ.set i (some d)))
 | none=>bad
theorem fb (a:Lc) (x:Str) (ρ:Env) (d:D) {b:Type} (k:Fl->M b):bind (ax a x ρ d) k=v5 a x ρ d k:=by
 unfold ax v5;cases e9 a.N x <;> rfl
theorem pV {x:Str} {p pos:Pos} {e:Expr} {f:Env->M D} (h:CxOk T k lc X) (l:lc.fr=true) (a:eG lc x=true) (g:PE X e (tD X.K T.cl xe f)) (c:j3 e=true):PS X (.Assign [.Name x p] e pos) (sD X.K T.cl xe λρ=>bind (f ρ) (ax lc x ρ)):=by
 rw [eG,Ey,Fe] at a;obtain ⟨⟨i,b⟩,j⟩:=a;have:=rX (pos:=pos) (pos':=p) h.nd' (by rw [h.N];exact o1 b) (by rw [h.sc];exact D7 j) g c (.inl (h.fn1 l));have e:ax lc x=λρ d=>ret (.nx (ρ.set i (some d))):=by funext ρ d;simp only [ax,b]
 simp_all
def DB:RuS where
 is _ lc e:=match e with
  | .Assign [.Name x _] e _=>eG lc x&&j3 e
  | _=>false
 run r _ _ lc e ρ:=match e with
  | .Assign [.Name x _] e _=>bind (r.e lc e ρ) (ax lc x ρ)
  | _=>bad
 ok e R TX h hf hi:=by
  split at hi
  ·rw [Ey] at hi;exact pV h hf hi.1 (R.ex h _) hi.2
  ·cases hi
 runK q _ _ lc e ρ _ k:=match e with
  | .Assign [.Name x _] e _=>q.e lc e ρ λd=>v5 lc x ρ d k
  | _=>bad
 eq e ρ _ k h:=by
  split
  ·simp only [h.e,bind_assoc,fb]
  ·first
   | rfl
   | (rename_i a;split;exact (a _ _ _ _ rfl).elim;rfl)
def BX:RuS where
 is _ lc e:=match e with
  | .Assign [.Name x _] (.List es _) _=>eG lc x&&decide (x∈lc.mu)&&es.all noStar
  | _=>false
 run r _ _ lc e ρ:=match e with
  | .Assign [.Name x _] (.List es _) _=>bind (bind (r8 r lc es ρ) newL) (ax lc x ρ)
  | _=>bad
 ok e R TX h hf hi:=by
  split at hi
  ·rw [Ey,Ey] at hi;exact pV h hf hi.1.1 (tN (m4 R h hi.2)) rfl
  ·cases hi
 runK q _ _ lc e ρ _ k:=match e with
  | .Assign [.Name x _] (.List es _) _=>u9 q lc es ρ λds=>bind (newL ds) λd=>v5 lc x ρ d k
  | _=>bad
 eq e ρ _ k h:=by
  split
  ·simp only [k7 h,bind_assoc,fb]
  ·first
   | rfl
   | (rename_i a;split;exact (a _ _ _ _ _ rfl).elim;rfl)
def swB (c:Lc) (b:Expr) (a:Scope) (t:Str) (pos:Pos):Bool:=c.sc.names.lookup t==some .local&&pos.line==b.pos.line&&!(a.names.any λ(n,k)=>n==t&&(k==.local||k==.cell))
theorem AA (h:CxOk T k lc X) (d:Expr) (c:List Comprehension) (a:Scope) (x:Str) (pos' pos b:Pos):swapsWith (.ListComp d c a b) (some (.Name x pos')) pos.line X.env=pure (swB lc (.ListComp d c a b) a x pos'):=by
 show pure (X.env.blockKind==.function&&X.env.kindOf x==some .local&&pos'.line==(Expr.ListComp d c a b).pos.line&&!(a.names.any λ(n,k)=>n==x&&(k==.local||k==.cell)))=_;have f:X.env.blockKind=.function:=by unfold PySem.Env.blockKind;rw [h.sc,h.kd];rfl
 have e:X.env.kindOf x=lc.sc.names.lookup x:=by unfold PySem.Env.kindOf;rw [h.sc]
 rw [f,e];rfl
theorem lN {T:Tx} {k i:Nat} {f:Lc} {X:Cx} {x:Str} {p pos:Pos} {e:Expr} {fs:Env->M (List D)} {xe:Addr->Hp->Prop} (r:e9 f.N x=some i) (h:PS X (.Assign [.Name x p] e pos) (tS (nW X.K T.cl x0 fs) (bM i))):PS X (.Assign [.Name x p] e pos) (sD X.K T.cl xe λρ=>bind (bind (nx (fs ρ)) λds=>ret (.lst ds)) (ax f x ρ)):=PS.imp h λD σ H ⟨μ,S,ρ,g,n,p⟩=>
 ⟨μ,S,ρ,g,n,p.bind.bind.nx.imp λds S1 a j l c o m ys q b=>by
  have d:=o.ret a j (Lat.refl _ _) c;simp only [ax,r] at d;exact d.ret a j (Lat.refl _ _) c _ ((g.later l).set (.lst q b) i)⟩
def mH:RuS where
 is _ lc e:=match e with
  | .Assign [.Name x _] (.ListComp _ [⟨.Name y _,b,_,0⟩] a _) _=>eG lc x&&v6 lc a [y]&&q5 b
  | _=>false
 run r _ _ lc e ρ:=match e with
  | .Assign [.Name x _] (.ListComp c [⟨.Name y g,b,ifs,0⟩] a _) _=>bind (bind (N4 r lc c y g b ifs a ρ) λds=>ret (.lst ds)) (ax lc x ρ)
  | _=>bad
 ok {T k r Γ C lc X} e R TX h hf f:=by
  split at f
  ·rename_i x p c y g b ifs a d pos;rw [Ey,Ey] at f;obtain ⟨⟨N,K⟩,t⟩:=f;have m:=N;rw [eG,Ey,Fe] at m;obtain ⟨⟨i,f⟩,M⟩:=m;have j:X.N[i]?=some x:=by rw [h.N];exact o1 f
   have n:L2.Loc X.env.scope x:=by rw [h.sc];exact D7 M
   have l:X.fn x=true\/X.env.scope.names.lookup x=some .local:=.inl (h.fn1 hf);have u:=AA h c [⟨.Name y g,b,ifs,0⟩] a x p pos d;unfold N4;cases L:h9 (e9 lc.N) (j7 a) with
   | none=>exact PS.imp nC λD σ H ⟨μ,S,ρ,J,F,p⟩=>p.bind.elim
   | some caps=>
    obtain ⟨z,o,I,v,E⟩:=K5 h K L;have G:=λpins C w s H=>PTL.x0 (tests_ok (ifs:=ifs) R (A4 h v E o pins C w s H));have A:=λpins C w s H=>PE.x0 (R.ex (A4 h v E o pins C w s H) c);refine lN (k:=k) f ?_;cases B:swB lc (.ListComp c [⟨.Name y g,b,ifs,0⟩] a d) a x p with
    | false=>
     rw [B] at u;exact kq h.nd' j n (dO z (h.calm v) o rfl (I y (by simp)) (PI.x0 (R.ix h _ _)) G A t) u l
    | true=>
     rw [B] at u;exact PS.imp (fw u h.nd' j n l z (h.calm v) o rfl (I y (by simp)) (PI.x0 (R.ix h _ _)) G A (D0 t)) λD σ H ⟨μ,S,ρ,J,F,p⟩=>aG J F p
  ·cases f
 runK q _ _ lc e ρ _ k:=match e with
  | .Assign [.Name x _] (.ListComp c [⟨.Name y g,b,ifs,0⟩] a _) _=>cX q lc c y g b ifs a ρ λds=>v5 lc x ρ (.lst ds) k
  | _=>bad
 eq e ρ _ k h:=by
  split
  ·simp only [dW h,bind_assoc,h7,fb]
  ·first
   | rfl
   | (rename_i t;split;exact (t _ _ _ _ _ _ _ _ _ _ rfl).elim;rfl)
def t8 (a:Lc):List Expr->Option (List Nat)
 | []=>some []
 | .Name x _ :: b=>if av a.sc x=true then (match e9 a.N x,t8 a b with
   | some i,some c=>some (i :: c)
   | _,_=>none) else none
 | _=>none
theorem ab (h:CxOk T k lc X) (hf:lc.fr=true):∀ {ts:List Expr} {is:List Nat},t8 lc ts=some is->NamesAt X ts is
 | [],is,e=>by cases e;exact .nil
 | t :: ts,is,e=>by
  cases t with
  | Name x p=>
   simp only [t8] at e;by_cases hl:av lc.sc x=true
   ·simp only [if_pos hl] at e;cases e1:e9 lc.N x with
    | none=>rw [e1] at e;cases e
    | some i=>
     cases e2:t8 lc ts with
     | none=>grind
     | some is'=>
      rw [e1,e2] at e;cases e;exact .cons (by rw [h.N];exact o1 e1) (by rw [h.sc];exact D7 hl) (.inl (h.fn1 hf)) (ab h hf e2)
   ·grind
  | _=>simp only [t8] at e;cases e
def Ds:RuS where
 is _ lc e:=match e with
  | .Assign [.Tuple ts _ _] e _=>(t8 lc ts).isSome&&j3 e&&oT e&&!quiet lc
  | _=>false
 run r _ _ lc e ρ:=match e with
  | .Assign [.Tuple ts _ _] e _=>(match t8 lc ts with
   | some is=>bind (r.e lc e ρ) λd=>C8 (n4 is) d ρ
   | none=>bad)
  | _=>bad
 ok {T k r Γ C lc X} e R TX h hf hi:=by
  split at hi
  ·rename_i ts n p e pos;simp at hi;obtain ⟨⟨⟨h1,h2⟩,h3⟩,h4⟩:=hi;show PS X _ (sD X.K T.cl (xOf X) λρ=>(match t8 lc ts with
    | some is=>bind (r.e lc e ρ) λd=>C8 (n4 is) d ρ
    | none=>bad))
   cases e1:t8 lc ts with
   | none=>exact N6
   | some is=>exact qT (h.calm h4) h.nd' (ab h hf e1) (R.ex h _) h2 h3
  ·cases hi
 runK q _ _ lc e ρ _ k:=match e with
  | .Assign [.Tuple ts _ _] e _=>(match t8 lc ts with
   | some is=>q.e lc e ρ λd=>bind (C8 (n4 is) d ρ) k
   | none=>bad)
  | _=>bad
 eq {r q Γ C lc} e ρ _ k h:=by
  split
  ·rename_i ts n p e pos;cases t8 lc ts with
   | none=>rfl
   | some is=>simp only [h.e,bind_assoc]
  ·first
   | rfl
   | (rename_i hn;split;exact (hn _ _ _ _ _ rfl).elim;rfl)
def Aw:RuS where
 is _ _ e:=match e with
  | .Assign [.Subscript _ b _] e _=>j3 e&&v3 b
  | _=>false
 run r _ _ lc e ρ:=match e with
  | .Assign [.Subscript a b _] e _=>bind (r.e lc e ρ) λv=>bind (r.e lc a ρ) λx=>bind (r.e lc b ρ) λy=>bind (B7 x y v) λ_=>ret (.nx ρ)
  | _=>bad
 ok e R TX h hf hi:=by
  split at hi
  ·rw [Ey] at hi;exact oZ h.u1 (R.ex h _) (R.ex h _) (R.ex h _) hi.1 hi.2
  ·cases hi
 runK q _ _ lc e ρ _ k:=match e with
  | .Assign [.Subscript a b _] e _=>q.e lc e ρ λv=>q.e lc a ρ λx=>q.e lc b ρ λy=>bind (B7 x y v) λ_=>k (.nx ρ)
  | _=>bad
 eq e ρ _ k h:=by
  split
  ·simp only [h.e,bind_assoc,h7]
  ·first
   | rfl
   | (rename_i c;split;exact (c _ _ _ _ _ rfl).elim;rfl)
def tgE (b:Lc) (a:Expr):Option (D->Env->Option Env):=match a with
 | .Name x _=>if av b.sc x=true then (e9 b.N x).map λi=>λd ρ=>some (ρ.set i (some d)) else none
 | .Tuple c _ _=>(t8 b c).map n4
 | _=>none
theorem AF (h:CxOk T k lc X) (d:lc.fr=true) (g:quiet lc=false) {b:Expr} {tg:D->Env->Option Env} (e:tgE lc b=some tg):PG X b (uU X.K T.cl tg):=by
 unfold tgE at e;split at e
 ·rename_i x p;by_cases c:av lc.sc x=true
  ·simp only [if_pos c] at e;cases a:e9 lc.N x with
   | none=>rw [a] at e;cases e
   | some i=>rw [a] at e;cases e;exact ni h.nd' (by rw [h.N];exact o1 a) (by rw [h.sc];exact D7 c) (.inl (h.fn1 d))
  ·grind
 ·rename_i f n p;cases a:t8 lc f with
  | none=>rw [a] at e;cases e
  | some j=>rw [a] at e;cases e;exact hQ (h.calm g) h.nd' (ab h d a)
 ·cases e
def Db:RuS where
 is _ lc e:=match e with
  | .For _ a _ [] _=>q5 a&&!quiet lc
  | _=>false
 run r _ _ lc e ρ:=match e with
  | .For b a body [] _=>(match tgE lc b with
   | some tg=>bind (r.i lc b a ρ) λp=>z0 p.1 tg (M8 r lc body) p.2 0 ρ
   | none=>bad)
  | _=>bad
 ok {T k r Γ C lc X} e R TX h hf hi:=by
  split at hi
  ·rename_i b a body pos;simp at hi;show PS X _ (sD X.K T.cl (xOf X) λρ=>(match tgE lc b with
    | some tg=>bind (r.i lc b a ρ) λp=>z0 p.1 tg (M8 r lc body) p.2 0 ρ
    | none=>bad))
   cases e:tgE lc b with
   | none=>exact N6
   | some tg=>exact sK h.po (h.calm hi.2) (R.ix h _ _) (AF h hf hi.2 e) (G4 R h hf) hi.1
  ·cases hi
 runK q _ _ lc e ρ _ k:=match e with
  | .For b a body [] _=>(match tgE lc b with
   | some tg=>q.i lc b a ρ λp=>bind (z0 p.1 tg (λc=>i6 q lc body c ret) p.2 0 ρ) k
   | none=>bad)
  | _=>bad
 eq {r q Γ C lc} e ρ _ k h:=by
  split
  ·rename_i b a body pos;cases tgE lc b with
   | none=>rfl
   | some tg=>
    have:(λc=>i6 q lc body c ret)=M8 r lc body:=funext λc=>by rw [S9 h,v7]
    simp only [h.i,bind_assoc,this]
  ·first
   | rfl
   | (rename_i d;split;exact (d _ _ _ _ rfl).elim;rfl)
def t6 (t:Env->M Bool) (g:Env->M Fl):Nat->Env->M Fl
 | 0,_=>bad
 | m+1,ρ=>bind (t ρ) λq=>if q=true then bind (g ρ) (λb=>match b with
   | .nx a=>t6 t g m a
   | .ct a=>t6 t g m a
   | .bk a=>ret (.nx a)
   | .rt d=>ret (.rt d)) else ret (.nx ρ)
theorem jm {X:Cx} {cl:ClW} {xe:Addr->Hp->Prop} {c:Expr} {body:List Stmt} {pos:Pos} {t:Env->M Bool} {g:Env->M Fl} (n:Nat) (hp:PassesOwn (model X.prog X.w) X.A X.env X.xe) (hc:PT X c (tBo X.K cl xe t)) (hb:PSs X body (sD X.K cl xe g)) :
  PS X (.While c body [] pos) (sD X.K cl xe λρ=>t6 t g n ρ):=PS.imp (nv hp hc hb) λD σ H ⟨μ,S,ρ,eo,rp,p⟩=>by
 refine ⟨λm σ H=>∃ μ2 S2 ρ2,EnvOk X.K μ2 H ρ2 σ/\Rep X.K cl μ2 S2 H/\Post X.K cl xe μ2 H (t6 t g m ρ2 S2) (λfl _ μ' H'=>FlOk X.K D fl μ' H'),⟨n,μ,S,ρ,eo,rp,p⟩,?_⟩;rintro m σ2 H2 ⟨μ2,S2,ρ2,eo2,r2,p2⟩;cases m with
 | zero=>exact p2.elim
 | succ m=>
  refine ⟨μ2,S2,ρ2,eo2,r2,p2.bind.imp λq S3 μ3 H3 l3 r3 p3=>?_⟩;cases q with
  | false=>exact p3.ret μ3 H3 (Lat.refl _ _) r3 σ2 (eo2.later l3)
  | true=>
   refine rq ?_;rw [if_pos rfl] at p3;refine ⟨λσ' H'=>∃ μ4 S4 ρ4,EnvOk X.K μ4 H' ρ4 σ'/\Rep X.K cl μ4 S4 H'/\Post X.K cl xe μ4 H' (t6 t g m ρ4 S4) (λfl _ μ' H'=>FlOk X.K D fl μ' H'),λσ' H' q=>⟨m,Fn _,q⟩,?_⟩;refine ⟨μ3,S3,ρ2,eo2.later l3,r3,p3.bind.imp λfl S4 μ4 H4 l4 r4 p4=>?_⟩;cases fl with
   | nx ρ4=>exact λσ4 eo4=>⟨μ4,S4,ρ4,eo4,r4,p4⟩
   | ct ρ4=>exact λσ4 eo4=>⟨μ4,S4,ρ4,eo4,r4,p4⟩
   | bk ρ4=>exact p4.ret μ4 H4 (Lat.refl _ _) r4
   | rt d=>exact p4.ret μ4 H4 (Lat.refl _ _) r4
def ye:RuS where
 is _ _ e:=match e with
  | .While _ _ [] _=>true
  | _=>false
 run r _ _ lc e ρ:=match e with
  | .While c body [] _=>t6 (r.t lc c) (M8 r lc body) 10000 ρ
  | _=>bad
 ok e R TX h hf hi:=by
  split at hi
  ·exact jm 10000 h.po (R.tx h _) (G4 R h hf)
  ·cases hi
 runK q _ _ lc e ρ _ k:=match e with
  | .While c body [] _=>bind (t6 (λa=>q.t lc c a ret) (λa=>i6 q lc body a ret) 10000 ρ) k
  | _=>bad
 eq {r q Γ C lc} e ρ _ k h:=by
  split
  ·rename_i c body pos;have b:(λa=>i6 q lc body a ret)=M8 r lc body:=funext λa=>by rw [S9 h,v7]
   have f:(λa=>q.t lc c a ret)=r.t lc c:=funext λa=>by rw [h.t,v7]
   rw [b,f]
  ·first
   | rfl
   | (rename_i d;split;exact (d _ _ _ rfl).elim;rfl)
def PB (X:Cx) (cl:ClW) (st:Stmt) (g:Env->M Fl):Prop:=∀ (pins:List (Addr×Obj)) (s:Shared) (σ:L2.St) (H:Hp) (D:Ends) (F:Addr->Hp->Prop),L2.Inv X pins σ H s->sD X.K cl F g D σ H ->
 wpAny (model X.prog X.w) X.A (exec st X.env) (SP X pins D) (vL X pins σ F) s
def jO (b:Option Nat) (a:Fl):Fl:=match b with
 | none=>a
 | some i=>match a with
  | .nx ρ=>.nx (ρ.set i none)
  | .bk ρ=>.bk (ρ.set i none)
  | .ct ρ=>.ct (ρ.set i none)
  | .rt d=>.rt d
def lg (a:Option Nat) (n:Nat) (ρ:Env):Env:=match a with
 | none=>ρ
 | some i=>ρ.set i (some (.ref n))
def V8 (g:Env->M Fl) (a:Nat->Bool) (b:Option Nat) (h:Env->M Fl) (ρ:Env):M Fl:=λS=>match g ρ S with
 | .exn n S1=>(match S1[n]? with
  | some (.exc c _)=>if a c=true then bind (nx (h (lg b n ρ))) (λd=>ret (jO b d)) S1 else .bad
  | _=>.bad)
 | r=>r
section
variable {X:Cx} {cl:ClW} {e:Expr} {f:Env->M D} {pos:Pos} {st:Stmt} {g:Env->M Fl}
theorem tR (h:PX X cl e f) (m:j3 e=true):PB X cl (.Expr e pos) λρ=>bind (f ρ) λ_=>ret (.nx ρ):=by
 intro pins s σ H D F I ⟨μ,S,ρ,c,l,p⟩;exact wpAny_Expr_any (thn (h pins s σ H (λ_ a=>D.nx σ a) F I ⟨μ,S,ρ,c,l,p.bind.imp λd S1 b a j g n v o=>n.ret b a (Lat.refl _ _) g σ (c.later j)⟩) λv q ⟨x,a,k,g,i⟩=>⟨σ,a,k,i⟩) I.quiet (y3 m)
theorem xa (h:PX X cl e f):PB X cl (.Return (some e) pos) λρ=>bind (f ρ) λd=>ret (.rt d):=by
 intro pins s σ H D F I ⟨μ,S,ρ,j,l,p⟩;exact wpAny_Return_some (thn (h pins s σ H D.rt F I ⟨μ,S,ρ,j,l,p.bind.imp λd S1 a c n b m v i=>m.ret a c (Lat.refl _ _) b v i⟩) λv o ⟨x,c,k,b,g⟩=>⟨x,σ,c,k,b,g⟩)
theorem xF (r:X.N.Nodup) (z:X.N[i]?=some x) (t:Loc X.env.scope x) (h:PX X cl e f) (u:j3 e=true) (o:X.fn x=true\/X.env.scope.names.lookup x=some .local) :
  PB X cl (.Assign [.Name x pos'] e pos) λρ=>bind (f ρ) λd=>ret (.nx (ρ.set i (some d))):=by
 intro pins s σ H D F I ⟨μ,S,ρ,g,q,p⟩;exact wpAny_Assign_Name (thn (h pins s σ H (λv a=>D.nx (σ.set i (some v)) a) F I ⟨μ,S,ρ,g,q,p.bind.imp λd S1 b a k c w v l=>w.ret b a (Lat.refl _ _) c _ ((g.later k).set l i)⟩) λv B ⟨y,a,m,c,j⟩=>G3 m r z t c (λA n=>⟨_,a,n,j⟩) o) (y3 u)
theorem EnvOk.setN {K:PySem.W.Frag} {μ:Mp} {H:Hp} {ρ:Env} {σ:L2.St} (h:EnvOk K μ H ρ σ) (i:Nat):EnvOk K μ H (ρ.set i none) (σ.set i none):=by
 refine ⟨by simp [h.1],λj d e=>?_⟩;by_cases hij:i=j
 ·subst hij;have hi:i<ρ.length:=by simpa using (Et.mp e).1
  rw [Fg hi] at e;cases e
 ·rw [ER hij] at e;obtain ⟨v,q,r⟩:=h.2 j d e;exact ⟨v,by rw [ER hij];exact q,r⟩
def jL (a:Option Nat) (D:Ends):Ends:=match a with
 | none=>D
 | some i=>{ nx:=λσ H=>D.nx (σ.set i none) H,rt:=D.rt,bk:=λσ H=>D.bk (σ.set i none) H,ct:=λσ H=>D.ct (σ.set i none) H }
theorem FlOk.goes {K:PySem.W.Frag} {D:Ends} {ie:Option Nat} {fl:Fl} {μ:Mp} {H:Hp} (h:FlOk K D (jO ie fl) μ H):FlOk K (jL ie D) fl μ H:=by
 cases ie with
 | none=>exact h
 | some i=>
  cases fl with
  | nx ρ=>exact λσ eo=>h _ (eo.setN i)
  | bk ρ=>exact λσ eo=>h _ (eo.setN i)
  | ct ρ=>exact λσ eo=>h _ (eo.setN i)
  | rt d=>exact h
structure TryAt (X:Cx) (nm:Option Str) (ie:Option Nat):Prop where
 nd:X.N.Nodup
 ex:(nm=none/\ie=none)\/∃ x i,nm=some x/\ie=some i/\X.N[i]?=some x/\X.env.scope.names.lookup x=some .local
theorem wE {Tn:Str} {c0:Nat} {b0:Stmt} {suite:List Stmt} {hp tp:Pos} {sub:Nat->Bool} {h:Env->M Fl} (hst:X.stack=X.env :: X.outer) (hfr:X.env.frame=some X.env.locals) (hb:PB X cl st g)
  (hg:Gl X Tn) (hm:X.mg Tn=some (.ref (cl c0))) (hdb:(Tn==("__debug__" : Str))=false) (MT:XC X.K (cl c0)) (hk:∀ c,XC X.K (cl c)->PySem.W.kitOne X.K (.ref (cl c)) (.ref (cl c0))=some (sub c))
  (ta:TryAt X nm ie) (hs:∀ v,PSs (eE X v) (b0 :: suite) (sD X.K cl x0 h)) :
  PS X (.Try [st] [.ExceptHandler (some (.Name Tn tp)) nm (b0 :: suite) hp] [] [] pos) (sD X.K cl (xOf X) (V8 g sub ie h)):=by
 intro pins s σ H D I ⟨μ,S,ρ,eo,rp,p⟩;rw [arm_exec_Try];have hpost:sD X.K cl (λa H1=>∃ n S1 μ1,g ρ S=.exn n S1/\Lat μ H μ1 H1/\Rep X.K cl μ1 S1 H1/\μ1.pl[n]?=some a) g D σ H:=⟨μ,S,ρ,eo,rp,by
  unfold V8 at p;cases e:g ρ S with
  | ok fl S1=>rw [e] at p;exact p
  | exn n S1=>exact λμ' H' a l r q=>⟨n,S1,μ',rfl,l,r,q⟩
  | bad=>rw [e] at p;exact p⟩
 refine Er (GJ (wpAny_tryStmt_except (HJ (Fo (hb pins s σ H D _ I hpost) (λf s1 q=>?_) λev s1 fl=>?_))))
 ·cases f with
  | next=>exact Gp (Gp q)
  | ret v=>exact q
  | brk=>exact q
  | cont=>exact q
 ·obtain ⟨a,H1,C,d,tb,he,I1,fx,n,S1,μ1,eg,l1,r1,e1⟩:=fl;subst he;refine gw I1 I1.ok.frames hst hfr fx λH2 s2 T I2 fx2 m2=>K1 I2 fx2 λs3 I3=>?_;obtain ⟨l2,r2⟩:=r1.mv I1.hok e1 fx.at_ m2;unfold V8 at p;rw [eg] at p;simp only at p;cases eo1:S1[n]? with
  | none=>rw [eo1] at p;exact p.elim
  | some o=>
   rw [eo1] at p;cases o with
   | dcT _=>exact p.elim
   | lst _=>exact p.elim
   | dct _=>exact p.elim
   | exc c fs=>
    simp only at p;by_cases hsub:sub c=true
    case neg=>rw [if_neg hsub] at p;exact p.elim
    rw [if_pos hsub] at p;have ec:=(nt I1.hok (r1.ats n _ a eo1 e1) fx.at_ fx.tb_).1;have hkc:=hk c (ec▸fx.xc);rw [<- ec,hsub] at hkc;have J3:=I3.hushed (.ref a);have p':=(Post.later p (l1.trans l2)).bind.nx (xe':=x0);have post:∀ σ',EnvOk X.K μ1 H2 (lg ie n ρ) σ'->sD X.K cl x0 h (jL ie D) σ' H2:=λσ' eo'=>⟨μ1,S1,_,eo',r2,p'.imp λfl S2 μ2 H3 l3 r3 p3=>FlOk.goes (p3.ret μ2 H3 (Lat.refl _ _) r3)⟩;refine wpAny_handleBy_cons (codeAny_handlers_test (D5 J3 hg hm ?_ hdb)) (by intro z;cases z);refine gZ J3.kIn fx2.xc MT (fx2.isX (X:=eE X (.ref a)) J3) hkc ?_;rcases ta.ex with ⟨rfl,rfl⟩ | ⟨x,i,rfl,rfl,hi,hl⟩
    ·refine codeAny_handlers_suite (K1 (X:=eE X (.ref a)) J3 fx2 λs4 J4=>?_);refine Fo (hs (.ref a) pins s4 σ H2 (jL none D) J4 (post σ (eo.later (l1.trans l2)))) (λf s5 q=>?_) λ_ _ z=>False.elim z;cases f with
     | next=>obtain ⟨σ',H',J,q⟩:=q;exact ⟨σ',H',J.unhush I.ok,q⟩
     | brk=>obtain ⟨σ',H',J,q⟩:=q;exact ⟨σ',H',J.unhush I.ok,q⟩
     | cont=>obtain ⟨σ',H',J,q⟩:=q;exact ⟨σ',H',J.unhush I.ok,q⟩
     | ret u=>obtain ⟨v,σ',H',J,r,q⟩:=q;exact ⟨v,σ',H',J.unhush I.ok,r,q⟩
    ·refine codeAny_handlers_suite_as (K1 (X:=eE X (.ref a)) J3 fx2 λs4 J4=>?_);refine G3 (X:=eE X (.ref a)) (v:=.ref a) J4 ta.nd hi (.inl hl) rfl (λs5 J5=>?_) (.inr hl);refine Fo (hs (.ref a) pins s5 _ H2 (jL (some i) D) J5 (post _ ((eo.later (l1.trans l2)).set (.ref e1) i))) (λf s6 q=>?_) λ_ _ z=>False.elim z;cases f with
     | next=>obtain ⟨σ',H',J,q⟩:=q;exact X2 (J.unhush I.ok) ta.nd hi hl λs7 I7=>⟨_,H',I7,q⟩
     | brk=>obtain ⟨σ',H',J,q⟩:=q;exact X2 (J.unhush I.ok) ta.nd hi hl λs7 I7=>⟨_,H',I7,q⟩
     | cont=>obtain ⟨σ',H',J,q⟩:=q;exact X2 (J.unhush I.ok) ta.nd hi hl λs7 I7=>⟨_,H',I7,q⟩
     | ret u=>obtain ⟨v,σ',H',J,r,q⟩:=q;exact X2 (J.unhush I.ok) ta.nd hi hl λs7 I7=>⟨v,_,H',I7,r,q⟩
end
def xA:RuS where
 is Γ lc e:=match e with
  | .Raise (some (.Call (.Name x _) (a :: es) [] _)) none _=>k9 x&&glB lc.sc x&&(a :: es).all noStar&&!quiet lc
  | _=>false
 run r Γ _ lc e ρ:=match e with
  | .Raise (some (.Call (.Name x _) (a :: es) [] _)) none _=>bind (kc r Γ lc x (a :: es) ρ) w5
  | _=>bad
 ok {T k r Γ C lc X} e R TX h hf hi:=by
  split at hi
  ·simp only [Ey,FN] at hi;exact lD (h.calm hi.2) (iA R TX h hi.1.1.1 hi.1.1.2 hi.1.2 hi.2)
  ·cases hi
 runK q Γ _ lc e ρ _ k:=match e with
  | .Raise (some (.Call (.Name x _) (a :: es) [] _)) none _=>qG q Γ lc x (a :: es) ρ λd=>bind (w5 d) k
  | _=>bad
 eq {r q Γ C lc} e ρ _ k h:=by
  split
  ·simp only [mZ h,bind_assoc]
  ·first
   | rfl
   | (rename_i b;split;exact (b _ _ _ _ _ _ rfl).elim;rfl)
def isR (Γ:Gm):Expr->Bool
 | .Call (.Name x _) (_ :: _) [] _=>mi Γ x λi _=>decide (i∉Γ.qs)
 | _=>false
def lb (r:Ev) (Γ:Gm) (C:Cf) (a:Lc) (x:Str) (es:List Expr) (ρ:Env):M D:=if k9 x=true/\glB a.sc x=true/\es.all noStar=true then (match Γ.gl.lookup x with
 | some (.fn i n)=>bind (nx (r8 r a es ρ)) λds=>if ds.length=n then C i ds else bad
 | _=>bad) else bad
def eB (r:Ev) (Γ:Gm) (C:Cf) (a:Lc) (e:Expr) (ρ:Env):M D:=if isR Γ e=true then (match e with
 | .Call (.Name x _) es [] _=>lb r Γ C a x es ρ
 | _=>bad) else nx (r.e a e ρ)
def pC (q:EvK) (Γ:Gm) (C:Cf) (a:Lc) (x:Str) (es:List Expr) (ρ:Env):M D:=if k9 x=true/\glB a.sc x=true/\es.all noStar=true then (match Γ.gl.lookup x with
 | some (.fn i n)=>bind (nx (u9 q a es ρ ret)) λds=>if ds.length=n then C i ds else bad
 | _=>bad) else bad
def eBK (q:EvK) (Γ:Gm) (C:Cf) (a:Lc) (e:Expr) (ρ:Env):M D:=if isR Γ e=true then (match e with
 | .Call (.Name x _) es [] _=>pC q Γ C a x es ρ
 | _=>bad) else nx (q.e a e ρ ret)
theorem Bp (h:EqK r q) (e:Expr) (ρ:Env):eBK q Γ C lc e ρ=eB r Γ C lc e ρ:=by
 unfold eBK eB pC lb;simp only [k7 h,h.e,v7]
theorem zT {T:Tx} {k:Nat} {r:Ev} {Γ:Gm} {C:Cf} {lc:Lc} {X:Cx} (R:EvOk T k r) (TX:TxOk T Γ k C) (h:CxOk T k lc X) (hq:quiet lc=false) (e:Expr):PX X T.cl e (eB r Γ C lc e):=by
 have pbad:PX X T.cl e λ_=>bad:=λ_ _ _ _ _ _ _ ⟨_,_,_,_,_,z⟩=>z.elim;unfold eB;by_cases hr:isR Γ e=true
 ·simp only [if_pos hr];unfold isR at hr;split at hr
  ·rename_i x p e0 es pos;obtain ⟨i,n,e1,hi⟩:=cm hr;simp only;unfold lb;by_cases hc:k9 x=true/\glB lc.sc x=true/\(e0 :: es).all noStar=true
   ·simp only [if_pos hc,e1];obtain ⟨c1,c2,c3⟩:=hc;obtain ⟨n1,n2,n3⟩:=m3 c1;obtain ⟨a,fd,ps,f1,f2,f3,f4,f5⟩:=(TX.fn x i n e1 (Ge hi)).ex;exact sd f1 (by rw [h.prog,h.w,h.K,h.mg,h.base];exact f2) (h.room0 hq) (h.gl c2) (by rw [h.mg];exact f3) (by rw [h.K];exact f4) (by rw [h.K];exact f5) (PA.x0 (m4 R h.nox c3)) n1 c3
   ·simp only [if_neg hc];exact pbad
  ·cases hr
 ·simp only [if_neg hr];exact PX.of (PE.x0 (R.ex h.nox e))
def bX (g:Expr->Env->M D) (a:Lc) (st:Stmt) (ρ:Env):M Fl:=match st with
 | .Expr e _=>if j3 e=true then bind (g e ρ) λ_=>ret (.nx ρ) else bad
 | .Return (some e) _=>bind (g e ρ) λd=>ret (.rt d)
 | .Assign [.Name x _] e _=>(match e9 a.N x with
  | some i=>if av a.sc x=true/\j3 e=true then bind (g e ρ) λd=>ret (.nx (ρ.set i (some d))) else bad
  | none=>bad)
 | _=>bad
theorem zY (h:CxOk T k lc X) (f:lc.fr=true) (b:∀ e,PX X T.cl e (g e)) (st:Stmt):PB X T.cl st (bX g lc st):=by
 have a:PB X T.cl st λ_=>bad:=λ_ _ _ _ _ _ _ ⟨_,_,_,_,_,z⟩=>z.elim;unfold bX;split
 ·rename_i e p;by_cases d:j3 e=true
  ·simp only [if_pos d];exact tR (b e) d
  ·grind
 ·exact xa (b _)
 ·rename_i x l e p;cases j:e9 lc.N x with
  | none=>exact a
  | some i=>
   by_cases c:av lc.sc x=true/\j3 e=true
   ·simp only [if_pos c];exact xF h.nd' (by rw [h.N];exact o1 j) (by rw [h.sc];exact D7 c.1) (b e) c.2 (.inl (h.fn1 f))
   ·grind
 ·exact a
def nmI (a:Lc) (b:Option Str):Option (Option Nat):=match b with
 | none=>some none
 | some x=>match e9 a.N x with
  | some i=>if a.sc.names.lookup x=some .local then some (some i) else none
  | none=>none
def F4 (a:Lc):Lc:=⟨a.N,a.sc,a.fr,"~" :: a.mu⟩
theorem CxOk.hushed (h:CxOk T k lc X) (v:Value):CxOk T k (F4 lc) (eE X v):=by
 have a:quiet (F4 lc)=true:=by simp [quiet,F4]
 exact ⟨h.prog,h.w,h.K,h.mg,h.base,h.N,h.nd,h.sc,λz=>(by rw [a] at z;exact absurd z (by decide)),⟨λz=>(by rw [a] at z;exact absurd z (by decide)),h.room.dp,h.room.un,h.room.gd⟩,PassesOwn.never,h.fn,h.kd,λ_ z=>(by rw [a] at z;exact absurd z (by decide))⟩
def vH (Γ:Gm) (a:Lc) (e:Stmt):Bool:=match e with
 | .Try [_] [.ExceptHandler (some (.Name b _)) c (_ :: _) _] [] [] _=>k9 b&&glB a.sc b&&!quiet a&&sv Γ b&&(nmI a c).isSome
 | _=>false
def BM (g:Ev->Gm->Cf->Lc->Expr->Env->M D) (r:Ev) (Γ:Gm) (C:Cf) (b:Lc) (e:Stmt) (ρ:Env):M Fl:=match e with
 | .Try [st] [.ExceptHandler (some (.Name i _)) d (f :: a) _] [] [] _=>(match Γ.gl.lookup i,nmI b d with
  | some (.err c0 _),some h=>V8 (bX (g r Γ C b) b st) (λc=>Γ.sub c c0) h (M8 r (F4 b) (f :: a)) ρ
  | _,_=>bad)
 | _=>bad
def zR (g:EvK->Gm->Cf->Lc->Expr->Env->M D) (q:EvK) (Γ:Gm) (C:Cf) (b:Lc) (e:Stmt) (ρ:Env) {f:Type} (k:Fl->M f):M f:=match e with
 | .Try [st] [.ExceptHandler (some (.Name l _)) h (i :: a) _] [] [] _=>(match Γ.gl.lookup l,nmI b h with
  | some (.err c0 _),some j=>bind (V8 (bX (g q Γ C b) b st) (λc=>Γ.sub c c0) j (λd=>i6 q (F4 b) (i :: a) d ret) ρ) k
  | _,_=>bad)
 | _=>bad
def CF (g:Ev->Gm->Cf->Lc->Expr->Env->M D) (gK:EvK->Gm->Cf->Lc->Expr->Env->M D) (hg:∀ {T:Tx} {k:Nat} {r:Ev} {Γ:Gm} {C:Cf} {lc:Lc} {X:Cx},EvOk T k r->TxOk T Γ k C->CxOk T k lc X->quiet lc=false->∀ e,PX X T.cl e (g r Γ C lc e))
  (hk:∀ {r:Ev} {q:EvK} {Γ:Gm} {C:Cf} {lc:Lc},EqK r q->∀ e ρ,gK q Γ C lc e ρ=g r Γ C lc e ρ):RuS where
 is:=vH
 run r Γ C lc e ρ:=BM g r Γ C lc e ρ
 ok {T k r Γ C lc X} e R TX h hf hi:=by
  unfold vH at hi;split at hi
  ·rename_i st Tn tp nm b0 suite hp pos;simp at hi;obtain ⟨⟨⟨⟨c1,c2⟩,c3⟩,c4⟩,c5⟩:=hi;obtain ⟨n1,n2,n3⟩:=m3 c1;obtain ⟨hst,hfr⟩:=h.own hf c3;show PS X _ (sD X.K T.cl (xOf X) λρ=>(match Γ.gl.lookup Tn,nmI lc nm with
    | some (.err c0 _),some ie=>V8 (bX (g r Γ C lc) lc st) (λc=>Γ.sub c c0) ie (M8 r (F4 lc) (b0 :: suite)) ρ
    | _,_=>bad))
   unfold sv at c4;split at c4
   ·rename_i c0 fs e;rw [e];obtain ⟨ea,na⟩:=TX.err Tn c0 fs e;cases hi:nmI lc nm with
    | none=>exact N6
    | some ie=>
     have ta:TryAt X nm ie:=by
      refine ⟨h.nd',?_⟩;unfold nmI at hi;split at hi
      ·grind
      ·rename_i x;split at hi
       ·rename_i i e1;split at hi
        ·rename_i hl;cases hi;exact .inr ⟨x,i,rfl,rfl,by rw [h.N];exact o1 e1,by rw [h.sc];exact hl⟩
        ·cases hi
       ·cases hi
     exact wE hst hfr (zY h hf (hg R TX h c3) st) (h.gl c2) (by rw [h.mg];exact ea.mg_) n1 (by rw [h.K];exact ea.xc) (λc xc=>by rw [h.K] at xc ⊢;exact TX.sub Tn c c0 fs e xc) ta λv=>PSs.x0 (G4 R (h.hushed v) hf)
   ·cases c4
  ·cases hi
 runK q Γ C lc e ρ _ k:=zR gK q Γ C lc e ρ k
 eq {r q Γ C lc} e ρ _ k h:=by
  unfold zR BM;split
  ·rename_i st Tn tp nm b0 suite hp pos;have e1:(λρ'=>i6 q (F4 lc) (b0 :: suite) ρ' ret)=M8 r (F4 lc) (b0 :: suite):=funext λρ'=>by rw [S9 h,v7]
   have e2:gK q Γ C lc=g r Γ C lc:=funext λe=>funext λρ=>hk h e ρ;rw [e1,e2];cases Γ.gl.lookup Tn with
   | none=>rfl
   | some z=>
    cases z with
    | err c fs=>cases nmI lc nm <;> rfl
    | _=>rfl
  ·first
   | rfl
   | (rename_i hn;split;exact (hn _ _ _ _ _ _ _ _ rfl).elim;rfl)
def Cj:RuS:=CF (λr Γ C a e ρ=>eB r Γ C a e ρ) (λq Γ C a e ρ=>eBK q Γ C a e ρ) (λR c h b e=>zT R c h b e) (λh e ρ=>Bp h e ρ)
structure Fd where
 ps:List Str
 N:List Str
 sc:Scope
 body:List Stmt
 mu:List Str
def R7 (N:List Str) (ds:List D):Env:=ds.map some++List.replicate (N.length-ds.length) none
def endD (a:Fl):M D:=match a with
 | .rt d=>ret d
 | .nx _=>ret .non
 | _=>bad
abbrev u0 (fd:Fd):Lc:=⟨fd.N,fd.sc,true,fd.mu⟩
def M4 (Rs:Rules) (Γ:Gm) (a:List Fd):Nat->Nat->List D->M D
 | 0,_,_=>bad
 | k+1,i,ds=>match a[i]? with
  | none=>bad
  | some fd=>if ds.length=fd.ps.length then bind (M8 (ev Rs Γ (M4 Rs Γ a k) 40) (u0 fd) fd.body (R7 fd.N ds)) endD else bad
structure FnTx (T:Tx) (x:Str) (fd:Fd):Prop where
 ex:∃ (f:Addr) (da:FuncData) (qual:Str) (st:Stmt),Fun T.K x qual st f da/\f7 st=fd.body/\b8 st=fd.sc/\FnScope fd.N fd.ps fd.sc/\Binds T.K da fd.ps []/\T.mg x=some (.ref f)
theorem eN {K:PySem.W.Frag} {μ:Mp} {H:Hp} {N:List Str} {ds:List D} {vs:List V} (r:RDs K μ H ds vs):EnvOk K μ H (R7 N ds) (L2.start N vs):=by
 unfold R7 L2.start;refine ⟨by simp [r.length],λi d e=>?_⟩;by_cases hi:i<ds.length
 ·rw [EJ (by simpa using hi),Fq] at e;cases q:ds[i]? with
  | none=>rw [q] at e;cases e
  | some d'=>
   rw [q] at e;cases e;obtain ⟨v,e1,r1⟩:=r.get q;refine ⟨v,?_,r1⟩;rw [EJ (by rw [Es,<- r.length];exact hi),Fq,e1];rfl
 ·rw [Fp (by simpa using FE hi),FK] at e;split at e <;> cases e
section
variable {P:Program} {w:World} {K:PySem.W.Frag} {mg:Str->Option Value} {base:Heap}
theorem og {x b:Str} {st:Stmt} {f:Addr} {fd:FuncData} {N ps:List Str} {k:Nat} {sp:Sp} (F:Fun K x b st f fd) (S:FnScope N ps (b8 st)) (g:∀ vs H Q E,sp vs H Q E->vs.length=ps.length)
  (d:∀ (c:Value) (A:Around) (a:List PySem.Env) (s:Shared) (H:Hp) (vs:List V) (Q:VK) (E:XK),Room CX.q k (A.deeper (envOfC b (b8 st) s.heap.objs.size f c))->sp vs H Q E ->
   ∃ t,PSs (bF CX P w K mg base N b (b8 st) f c A a s H E) (f7 st) t/\t { nx:=λ_ H'=>Q .non H',rt:=Q } (start N vs) H):FnOk P w K mg base CX (k+1) f fd ps sp:=by
 obtain ⟨r,od,n,i,o,p,c,q,l,rfl,m,h⟩:=F.ex;exact vT m h S g λA a s H vs Q E j e=>d c A a s H vs Q E j e
theorem Post.fly {α:Type} {cl:ClW} {N:List Str} {qual:Str} {scope:Scope} {f:Addr} {cd:Value} {A:Around} {outer:List PySem.Env} {s:Shared} {H0 H:Hp} {E:XK} {μ:Mp} {r:R α} {G:α->Sto->Mp->Hp->Prop} (p:Post K cl (gT E) μ H r G) :
  Post K cl (xOf (bF (CXd P w K) P w K mg base N qual scope f cd A outer s H0 E)) μ H r G:=by
 cases r with
 | ok a S=>exact p
 | bad=>exact p
 | exn n S=>
  intro μ' H' a l rp e pins σ s' C d tb I fx;refine gU I I.ok.frames rfl rfl fx λH2 s2 T I2 fx2 m2=>?_;obtain ⟨l2,r2⟩:=rp.mv I.hok e fx.at_ m2;exact ⟨a,C,d,some T,H2,rfl,I2.os,I2.bare,I2.base,I2.hok,fx2,p μ' H2 a (l.trans l2) r2 e⟩
end
theorem FnOk.unX {P:Program} {w:World} {K:PySem.W.Frag} {mg:Str->Option Value} {base:Heap} {k n:Nat} {f:Addr} {fd:FuncData} {ps:List Str} {cl:ClW} {run:List D->M D} (F:FnOk P w K mg base (CXd P w K) k f fd ps (spX K cl n run)):FnOk P w K mg base (CXq false) k f fd ps (spD K cl n run):=
 ⟨λvs H Q E h=>F.len vs H Q E0 h,λA outer s H args us vs Q E hr e0 hb r h=>GA (F.run A outer s H args us vs Q E0 hr e0 hb r h) λres s' hq=>by
  cases res with
  | ok fl=>cases fl <;> exact hq
  | error e=>obtain ⟨_,_,_,_,_,_,_,_,_,_,_,z⟩:=hq;exact z⟩
section
variable {Rs:Rules} {T:Tx} {Γ:Gm} {Tb:List Fd} {k i:Nat} {x qual:Str} {st:Stmt} {f:Addr} {da:FuncData} {fd:Fd}
theorem eM (TX:TxOk T Γ (k+3) (M4 Rs Γ Tb k)) (hi:Tb[i]?=some fd) (F:Fun T.K x qual st f da) (h1:f7 st=fd.body) (h2:b8 st=fd.sc) (S:FnScope fd.N fd.ps fd.sc) (hq:quiet (u0 fd)=false) :
  FnOk T.P T.w T.K T.mg T.base (CXd T.P T.w T.K) (k+4) f da fd.ps (spX T.K T.cl fd.ps.length (M4 Rs Γ Tb (k+1) i)):=by
 have S':FnScope fd.N fd.ps (b8 st):=by rw [h2];exact S
 refine og F S' (λvs H Q E h=>h.1) λcdv A outer s H vs Q E hr hsp=>?_;obtain ⟨hl,μ,S0,ds,rds,rp,p⟩:=hsp;have cx:CxOk T (k+3) (u0 fd) (bF (CXd T.P T.w T.K) T.P T.w T.K T.mg T.base fd.N qual (b8 st) f cdv A outer s H E):=⟨rfl,rfl,rfl,rfl,rfl,rfl,S.nd,h2,λ_=>rfl,by rw [hq];exact hr,λe s' z=>wpAny_leaving_again (SameStack.refl _) z,rfl,S.kind,λ_ _=>⟨rfl,rfl⟩⟩;have R:=oI (Rs:=Rs) TX 40;refine ⟨_,by rw [h1];exact G4 R cx rfl,?_⟩;refine ⟨μ,S0,R7 fd.N ds,eN rds,rp,?_⟩;have hd:ds.length=fd.ps.length:=by rw [rds.length];exact hl
 simp only [M4,hi,if_pos hd] at p;refine Post.fly (p.bind.imp λfl S1 μ1 H1 l1 r1 p1=>?_);cases fl with
 | nx ρ=>exact λσ _=>p1 μ1 H1 (Lat.refl _ _) r1 _ .non
 | rt d=>exact λv rv=>p1 μ1 H1 (Lat.refl _ _) r1 v rv
 | bk ρ=>exact False.elim p1
 | ct ρ=>exact False.elim p1
theorem mL (TX:TxOk T Γ (k+3) (M4 Rs Γ Tb k)) (hi:Tb[i]?=some fd) (F:Fun T.K x qual st f da) (h1:f7 st=fd.body) (h2:b8 st=fd.sc) (S:FnScope fd.N fd.ps fd.sc) (hq:quiet (u0 fd)=true) :
  FnOk T.P T.w T.K T.mg T.base (CXq true) (k+4) f da fd.ps (spD T.K T.cl fd.ps.length (M4 Rs Γ Tb (k+1) i)):=by
 have S':FnScope fd.N fd.ps (b8 st):=by rw [h2];exact S
 refine og F S' (λvs H Q E h=>h.1) λcdv A outer s H vs Q E hr hsp=>?_;obtain ⟨hl,μ,S0,ds,rds,rp,p⟩:=hsp;have cx:CxOk T (k+3) (u0 fd) (bF (CXq true) T.P T.w T.K T.mg T.base fd.N qual (b8 st) f cdv A outer s H E).nox:=⟨rfl,rfl,rfl,rfl,rfl,rfl,S.nd,h2,λz=>(by rw [hq] at z;exact absurd z (by decide)),by rw [hq];exact hr,PassesOwn.never,rfl,S.kind,λ_ z=>(by rw [hq] at z;exact absurd z (by decide))⟩;have R:=oI (Rs:=Rs) TX 40;refine ⟨_,by rw [h1];exact PSs.nox (PSs.x0 (G4 R cx rfl)),?_⟩;refine ⟨μ,S0,R7 fd.N ds,eN rds,rp,?_⟩;have hd:ds.length=fd.ps.length:=by rw [rds.length];exact hl
 simp only [M4,hi,if_pos hd] at p;refine p.bind.imp λfl S1 μ1 H1 l1 r1 p1=>?_;cases fl with
 | nx ρ=>exact λσ _=>p1 μ1 H1 (Lat.refl _ _) r1 _ .non
 | rt d=>exact λv rv=>p1 μ1 H1 (Lat.refl _ _) r1 v rv
 | bk ρ=>exact False.elim p1
 | ct ρ=>exact False.elim p1
theorem tK (d:TxOk T Γ (k+3) (M4 Rs Γ Tb k)) (a:Tb[i]?=some fd) (F:Fun T.K x qual st f da) (e:f7 st=fd.body) (b:b8 st=fd.sc) (S:FnScope fd.N fd.ps fd.sc) (c:quiet (u0 fd)=false:=by rfl) :
  FnOk T.P T.w T.K T.mg T.base (CXq false) (k+4) f da fd.ps (spD T.K T.cl fd.ps.length (M4 Rs Γ Tb (k+1) i)):=FnOk.unX (eM d a F e b S c)
def wV (Γ:Gm) (a:List Fd):Bool:=(List.range a.length).all λi=>match a[i]? with
 | some fd=>quiet (u0 fd)==Γ.qs.contains i
 | none=>false
theorem ic (h:wV Γ Tb=true) (hi:Tb[i]?=some fd):quiet (u0 fd)=Γ.qs.contains i:=by
 unfold wV at h;have:=(Fa.mp h) i (Gx.mpr (Et.mp hi).1);rw [hi] at this;simpa using this
end
structure TxSt (T:Tx) (Γ:Gm):Prop where
 blt:∀ x∈bnames,Γ.gl.lookup x=none->T.mg x=none
 val:∀ x d,Γ.gl.lookup x=some (.val d)->∃ u v,T.mg x=some u/\RelV v u/\∀ μ H,RD T.K μ H d v
 err:∀ x c fs,Γ.gl.lookup x=some (.err c fs)->ErrAt T x c fs/\(∀ g∈fs,t9 T.K (T.cl c) g)
 sub:∀ x c c0 fs,Γ.gl.lookup x=some (.err c0 fs)->XC T.K (T.cl c)->PySem.W.kitOne T.K (.ref (T.cl c)) (.ref (T.cl c0))=some (Γ.sub c c0)
 subV:∀ c,XC T.K (T.cl c)->PySem.W.kitOne T.K (.ref (T.cl c)) (.type "ValueError")=some true
 subT:∀ c,XC T.K (T.cl c)->∀ t∈tys,PySem.W.kitOne T.K (.ref (T.cl c)) (.type t)=some false
 fld:∀ g∈Γ.flds,∀ c,XC T.K (T.cl c)->t9 T.K (T.cl c) g
 dct:∀ x kvs,Γ.gl.lookup x=some (.dct kvs)->pM T x kvs
def mG (T:Tx) (Γ:Gm) (a:List Fd):Prop:=∀ x i n,Γ.gl.lookup x=some (.fn i n)->∃ fd,a[i]?=some fd/\fd.ps.length=n/\FnTx T x fd
theorem TxSt.ok (h:TxSt T Γ) {k:Nat} {C:Cf} (f:∀ x i n,Γ.gl.lookup x=some (.fn i n)->i∉Γ.qs->FnX T (k+3) i n x (C i)) (a:∀ x i n,Γ.gl.lookup x=some (.fn i n)->i∈Γ.qs->FnAt T (k+3) i n x (C i)):TxOk T Γ (k+3) C:=⟨h.blt,h.val,f,a,h.err,h.sub,h.subV,h.subT,h.fld,h.dct,by omega⟩
theorem sN {T:Tx} {Γ:Gm} {q:List Fd} (h:TxSt T Γ) (fs:mG T Γ q) (k:Nat) (w:wV Γ q=true:=by rfl):TxOk T Γ (k+3) (M4 Rs Γ q k):=by
 induction k with
 | zero=>
  have l:∀ x i n,Γ.gl.lookup x=some (.fn i n)->∃ (a:Addr) (fd:FuncData) (ps:List Str),ps.length=n/\(∀ CX,FnOk T.P T.w T.K T.mg T.base CX 3 a fd ps (spX T.K T.cl n (M4 Rs Γ q 0 i)))/\T.mg x=some (.ref a)/\PySem.W.keepIn T.K (.ref a)=true/\Binds T.K fd ps []:=λx i n e=>by
   obtain ⟨fd,d,c,g⟩:=fs x i n e;obtain ⟨f,o,j,st,F,_,_,_,b,m⟩:=g.ex;refine ⟨f,o,fd.ps,c,λCX=>⟨λvs H Q E h=>by rw [c];exact h.1,λA v s H z us vs Q E _ _ _ _ u=>?_⟩,m,F.kp,b⟩;obtain ⟨_,μ,S,ds,_,_,p⟩:=u;exact p.elim
  refine h.ok (λx i n e _=>?_) λx i n e _=>?_
  ·obtain ⟨a,fd,ps,d,c,g⟩:=l x i n e;exact ⟨a,fd,ps,d,c _,g⟩
  ·obtain ⟨a,fd,ps,d,c,g⟩:=l x i n e;exact ⟨a,fd,ps,d,FnOk.imp (c _) λvs H Q E ⟨_,μ,S,ds,_,_,p⟩=>p.elim,g⟩
 | succ k y=>
  refine h.ok (λx i n e B=>?_) λx i n e m=>?_
  ·obtain ⟨fd,d,c,g⟩:=fs x i n e;subst c;obtain ⟨f,o,j,st,F,r,t,S,b,m2⟩:=g.ex;exact ⟨f,o,fd.ps,rfl,eM y d F r t S (by rw [ic w d];simpa using B),m2,F.kp,b⟩
  ·obtain ⟨fd,d,c,g⟩:=fs x i n e;subst c;obtain ⟨f,o,j,st,F,r,t,S,b,m2⟩:=g.ex;exact ⟨f,o,fd.ps,rfl,mL y d F r t S (by rw [ic w d];simpa using m),m2,F.kp,b⟩
def runK (Rs:Rules) (Γ:Gm) (C:Cf) (fd:Fd) (ds:List D):M D:=if ds.length=fd.ps.length then i6 (evK Rs Γ C 40) ⟨fd.N,fd.sc,true,fd.mu⟩ fd.body (R7 fd.N ds) endD else bad
theorem a8 {a:List Fd} {k i:Nat} {fd:Fd} (h:a[i]?=some fd) (ds:List D):M4 Rs Γ a (k+1) i ds=runK Rs Γ (M4 Rs Γ a k) fd ds:=by
 simp only [M4,h,runK];split
 ·rw [S9 (vj 40)]
 ·rfl
def oP (a:Arguments):List Str:=a.args.map (·.arg)
def rJ (ps:List Str) (a:Scope):List Str:=ps++(a.names.filter λy=>(y.2==.local||y.2==.cell)&&!ps.contains y.1).map (·.1)
def f9 (st:Stmt) (a:List Str):Fd:=⟨oP (j2 st),rJ (oP (j2 st)) (b8 st),b8 st,f7 st,a⟩
def cf (fd:Fd):Bool:=decide (fd.sc.kind=.function)&&!fd.sc.isCoroutine&&!fd.sc.isGenerator&&decide fd.N.Nodup&&decide (fd.N.take fd.ps.length=fd.ps)&&fd.ps.all (λx=>av fd.sc x)&&fd.sc.names.all (λy=>decide (y.2≠.free))
theorem aS (h:cf fd=true):FnScope fd.N fd.ps fd.sc:=by
 simp only [cf,Ey,Fh,Fa,FN] at h;obtain ⟨⟨⟨⟨⟨⟨i,b⟩,c⟩,d⟩,f⟩,e⟩,a⟩:=h;exact ⟨i,b,c,d,f,λx g=>D7 (e x g),a⟩
def Cm:RuE:=rBf "sum" "sum" true (one qF) (by decide) rfl λ_ a=>By (a rfl)
def uB:RuE:=rMt "count" tupOf countT λ_ e c b f d a=>uW PySem.F.plainAttrs_tuple HH PySem.F.type_tuple_count jc jS fF e c b f d a
section
variable {K:PySem.W.Frag} {cl:ClW} {xe:Addr->Hp->Prop} {μ:Mp} {H:Hp} {S:Sto}
theorem eU {p:Addr} {u:HO} {ob:O} {rs:List Addr} {kz:List V} (er:μ.rs=p :: rs) (nr:p∉rs) (hp:H p=some (.lst kz)) (rp:Rep K cl μ S H) (ho:OAt K cl ⟨μ.pl++[p],rs⟩ (upd H p u) p ob):Rep K cl ⟨μ.pl++[p],rs⟩ (S++[ob]) (upd H p u):=by
 have np:p∉μ.pl:=(rp.res p (by rw [er];exact EL)).1;have hp':∀ (n:Nat) (a:Addr),μ.pl[n]?=some a->(μ.pl++[p])[n]?=some a:=λn a e=>by rw [EJ (Et.mp e).1];exact e
 have ho':∀ a w,H a=some w->a∉μ.pl->a∉μ.rs->upd H p u a=some w/\a∉(⟨μ.pl++[p],rs⟩:Mp).pl/\a∉(⟨μ.pl++[p],rs⟩:Mp).rs:=λa w e n1 n2=>by
  have ne:a≠p:=λz=>n2 (by rw [er,z];exact EL);refine ⟨by rw [a7 ne];exact e,λz=>?_,λz=>n2 (by rw [er];exact EM _ z)⟩;rcases Ff.mp z with z | z
  ·exact n1 z
  ·exact ne (EZ.mp z)
 refine ⟨by simp [rp.len],?_,λn o a e1 e2=>?_,λa m=>?_⟩
 ·show (μ.pl++[p]).Nodup;rw [Gw];exact ⟨rp.nd,by simp,λa m b m2=>by rw [EZ.mp m2];rintro rfl;exact np m⟩
 ·have e2:(μ.pl++[p])[n]?=some a:=e2;by_cases hn:n<S.length
  ·rw [EJ hn] at e1;rw [EJ (by rw [rp.len];exact hn)] at e2;have h:=rp.ats n o a e1 e2;have ka:upd H p u a=H a:=a7 λz=>np (z▸EY e2);cases o with
   | lst ds=>obtain ⟨xs,e,q⟩:=h;exact ⟨xs,by rw [ka];exact e,q.move hp' ho'⟩
   | dct kvs=>obtain ⟨xs,e,q⟩:=h;exact ⟨xs,by rw [ka];exact e,Paired.mono (λ_ _ ⟨z,w⟩=>⟨z,w.move hp' ho'⟩) q⟩
   | dcT kvs=>obtain ⟨es,e,h1,h2,q⟩:=h;exact ⟨es,by rw [ka];exact e,h1,h2,Paired.mono (λ_ _ ⟨b,v,z,a1,a2,a3,a4,a5,a6⟩=>⟨b,v,z,a1,a2.move hp' ho',a3,a4,a5,a6.move hp' ho'⟩) q⟩
   | exc c fs=>
    obtain ⟨xc,gs,q,fr,h⟩:=h;refine ⟨xc,gs,Paired.mono (λ_ _ ⟨z,w⟩=>⟨z,w.move hp' ho'⟩) q,fr,?_⟩;rcases h with ⟨z,e⟩ | ⟨d,h1,h2,e,e3⟩
    ·exact .inl ⟨z,by rw [ka];exact e⟩
    ·have ne:d≠p:=jD e3 hp (by intro z;cases z);refine .inr ⟨d,h1,λz=>?_,by rw [ka];exact e,by rw [a7 ne];exact e3⟩;rcases Ff.mp z with z | z
     ·exact h2 z
     ·exact ne (EZ.mp z)
  ·have hn2:n=S.length:=by
    have:=(Et.mp e1).1;simp at this;omega
   subst hn2;rw [<- rp.len] at e2;simp at e1 e2;subst e1;subst e2;exact ho
 ·have m:a∈rs:=m;obtain ⟨h1,w,h2⟩:=rp.res a (by rw [er];exact EM _ m);have ne:a≠p:=λz=>nr (z▸m);refine ⟨λz=>?_,w,by rw [a7 ne];exact h2⟩;rcases Ff.mp z with z | z
  ·exact h1 z
  ·exact ne (EZ.mp z)
theorem eP (h:H p=some u):upd H p u=H:=by
 funext a;by_cases e:a=p
 ·rw [e,b6,h]
 ·rw [a7 e]
theorem tt (src:Src) (t:Env->M Bool) (f:Env->M D) (mk:D->Env) (m i:Nat) (es:List D) (S:Sto):bind (m9 src t f mk (m+1) i es) newL S=(match src i S with
  | none=>.bad
  | some none=>newL es S
  | some (some d)=>bind (t (mk d)) (λb=>if b=true then bind (f (mk d)) (λy=>if es.length<sizeLine then bind (m9 src t f mk m (i+1) (es++[y])) newL else bad) else bind (m9 src t f mk m (i+1) es) newL) S):=by
 have a:∀ {c m2:M (List D)},c S=m2 S->bind c newL S=bind m2 newL S:=λe=>by unfold L3.bind;rw [e]
 cases h:src i S with
 | none=>exact (a (by simp only [m9,h];rfl)).trans rfl
 | some o=>
  cases o with
  | none=>exact (a (by simp only [m9,h];rfl)).trans rfl
  | some d=>
   refine (a (m2:=bind (t (mk d)) (λb=>if b=true then bind (f (mk d)) (λy=>if es.length<sizeLine then m9 src t f mk m (i+1) (es++[y]) else bad) else m9 src t f mk m (i+1) es)) (by simp only [m9,h])).trans ?_;rw [bind_assoc];congr 1;congr 1;funext b;cases b with
   | true=>
    rw [if_pos rfl,if_pos rfl,bind_assoc];congr 1;funext y;split <;> rfl
   | false=>rfl
end
theorem tf (m:M (List D)) (S:Sto):bind (nx m) newL S=nx (bind m newL) S:=by
 cases h:m S with
 | ok a S1=>
  have e2:nx m S=.ok a S1:=by unfold L3.nx;rw [h]
  have e3:bind (nx m) newL S=newL a S1:=by unfold L3.bind;rw [e2]
  have e:bind m newL S=newL a S1:=by unfold L3.bind;rw [h]
  rw [e3];unfold L3.nx;rw [e];simp only [newL];split <;> rfl
 | exn n S1=>
  have e:bind m newL S=.exn n S1:=by unfold L3.bind;rw [h]
  have e2:nx m S=.bad:=by unfold L3.nx;rw [h]
  have e3:bind (nx m) newL S=.bad:=by unfold L3.bind;rw [e2]
  rw [e3];unfold L3.nx;rw [e]
 | bad=>
  have e:bind m newL S=.bad:=by unfold L3.bind;rw [h]
  have e2:nx m S=.bad:=by unfold L3.nx;rw [h]
  have e3:bind (nx m) newL S=.bad:=by unfold L3.bind;rw [e2]
  rw [e3];unfold L3.nx;rw [e]
def gM (b:Bool) (x y:D):M D:=match y with
 | .ref n=>λS=>match S[n]? with
  | some (.dct a)=>(match B5 x with
   | some k=>.ok (.bl (if b then !(Y7 a k).isSome else (Y7 a k).isSome)) S
   | none=>.bad)
  | _=>.bad
 | _=>bad
section
variable {X:Cx} {cl:ClW} {xe:Addr->Hp->Prop}
theorem Ao (neg:Bool) (hu:X.A.units+1<cLine):OpR X (compareOp (if neg then .NotIn else .In)) (rP2 X.K cl xe (gM neg)):=by
 intro pins s σ H x y v u Q I rx ry ⟨μ,S,d,e,rd,re,rp,p⟩;cases re <;> try (exact False.elim p)
 rename_i n a h;simp only [gM] at p;cases q1:S[n]? with
 | none=>rw [q1] at p;exact p.elim
 | some o=>
  rw [q1] at p;cases o with
  | lst _=>exact p.elim
  | exc _ _=>exact p.elim
  | dcT _=>exact p.elim
  | dct kvs=>
   obtain ⟨ks,h1,h2⟩:=rp.ats n _ a q1 h;cases q2:B5 d with
   | none=>rw [q2] at p;exact p.elim
   | some k=>
    rw [q2] at p;have hy:=Q5 rd q2;subst hy;cases ry;have iS:(O2 ks k).isSome=(Y7 kvs k).isSome:=by
     cases q3:Y7 kvs k with
     | some z=>obtain ⟨w,e3,_⟩:=cr h2 q3;rw [e3];rfl
     | none=>rw [dR h2 q3];rfl
    cases neg with
    | false=>exact DX hu I (DGet.k h1) rx λs' I'=>⟨.bl _,H,I',rfl,by rw [iS];exact p μ H (Lat.refl _ _) rp _ (.bl _)⟩
    | true=>exact qE hu I (DGet.k h1) rx λs' I'=>⟨.bl _,H,I',rfl,by rw [iS];exact p μ H (Lat.refl _ _) rp _ (.bl _)⟩
end
def DL:RuT where
 is _ lc e:=match e with
  | .Compare _ [.NotIn] [b] _=>q5 b&&decide (("in{}" : Str)∈lc.mu)
  | _=>false
 run r _ _ lc e ρ:=match e with
  | .Compare a [.NotIn] [b] _=>bind (r.e lc a ρ) λx=>bind (r.e lc b ρ) λy=>bind (gM true x y) asB
  | _=>bad
 ok e R TX h hi:=by
  split at hi
  ·rw [Ey] at hi;exact cE (R.ex h _) (R.ex h _) (Ao true h.u1) (B6 hi.1)
  ·cases hi
 runK q _ _ lc e ρ _ k:=match e with
  | .Compare a [.NotIn] [b] _=>q.e lc a ρ λx=>q.e lc b ρ λy=>bind (gM true x y) λd=>bind (asB d) k
  | _=>bad
 eq e ρ _ k h:=by
  split
  ·simp only [h.e,bind_assoc]
  ·first
   | rfl
   | (rename_i c;split;exact (c _ _ _ rfl).elim;rfl)
def W2 (i:Nat) (ρ:Env):M D:=match ρ[i]? with
 | some (some d)=>ret d
 | _=>bad
def gk (f:Int->Int->Int) (x y:D):M D:=match x,y with
 | .int i,.int j=>ret (.int (f i j))
 | _,_=>bad
section
variable {X:Cx} {cl:ClW} {xe:Addr->Hp->Prop} {e:Expr} {f:Env->M D} {pos:Pos}
theorem tV {op:Operator} {g:Int->Int->Int} (ho:PIp X op (ipI g)) (hN:X.N.Nodup) (hi:X.N[i]?=some x) (hx:Loc X.env.scope x) (he:PE X e (tD X.K cl xe f)) (hf:X.fn x=true\/X.env.scope.names.lookup x=some .local) :
  PS X (.AugAssign (.Name x pos') op e pos) (sD X.K cl xe λρ=>bind (W2 i ρ) λa=>bind (f ρ) λb=>bind (gk g a b) λd=>ret (.nx (ρ.set i (some d)))):=PS.imp (yy hN hi hx he ho hf) λD σ H ⟨μ,S,ρ,eo,rp,p⟩=>by
 have p:Post X.K cl xe μ H (bind (W2 i ρ) (λa=>bind (f ρ) λb=>bind (gk g a b) λd=>ret (Fl.nx (ρ.set i (some d)))) S) _:=p;cases q:ρ[i]? with
 | none=>
  have e0:W2 i ρ=bad:=by unfold W2;rw [q]
  rw [e0] at p;exact p.elim
 | some o=>
  cases o with
  | none=>
   have e0:W2 i ρ=bad:=by unfold W2;rw [q]
   rw [e0] at p;exact p.elim
  | some a=>
   have e0:W2 i ρ=ret a:=by unfold W2;rw [q]
   rw [e0] at p;have p:Post X.K cl xe μ H (bind (f ρ) (λb=>bind (gk g a b) λd=>ret (Fl.nx (ρ.set i (some d)))) S) _:=p;obtain ⟨v,e1,rv⟩:=eo.2 i a q;refine ⟨v,e1,μ,S,ρ,eo,rp,p.bind.imp λb S1 μ1 H1 l1 r1 p1 w rw'=>?_⟩;have rv1:=rv.later l1;cases a with
   | int i1=>
    cases b with
    | int j1=>
     cases rv1;cases rw';have p1:=p1;exact ⟨i1,j1,rfl,rfl,p1 μ1 H1 (Lat.refl _ _) r1 _ ((eo.later l1).set (.int _) i)⟩
    | _=>exact False.elim p1
   | _=>exact False.elim p1
end
def sn (c:Lc) (x:Str) (ρ:Env) (m:M D):M Fl:=match e9 c.N x with
 | some i=>bind (W2 i ρ) λa=>bind m λb=>bind (gk (λi j=>i+j) a b) λd=>ret (.nx (ρ.set i (some d)))
 | none=>bad
def xl (b:Lc) (x:Str) (ρ:Env) {a:Type} (k:Nat->D->M a):M a:=match e9 b.N x with
 | some i=>(match ρ[i]? with
  | some (some d)=>k i d
  | _=>bad)
 | none=>bad
theorem xr (c:Lc) (x:Str) (ρ:Env) (m:M D) {e:Type} (k:Fl->M e):bind (sn c x ρ m) k=xl c x ρ λi a=>bind m λb=>bind (gk (λi j=>i+j) a b) λd=>k (.nx (ρ.set i (some d))):=by
 unfold sn xl;cases e9 c.N x with
 | none=>rfl
 | some i=>
  cases q:ρ[i]? with
  | none=>simp only [W2,q];rfl
  | some o=>
   cases o with
   | none=>simp only [W2,q];rfl
   | some a=>simp only [W2,q,bind_assoc,h7]
def DS:RuS where
 is _ lc e:=match e with
  | .AugAssign (.Name x _) .Add _ _=>eG lc x
  | _=>false
 run r _ _ lc e ρ:=match e with
  | .AugAssign (.Name x _) .Add e _=>sn lc x ρ (r.e lc e ρ)
  | _=>bad
 ok e R TX h hf c:=by
  split at c
  ·rename_i x p e pos;rw [eG,Ey,Fe] at c;obtain ⟨⟨i,c⟩,g⟩:=c;have:=tV (pos:=pos) (pos':=p) yi h.nd' (by rw [h.N];exact o1 c) (by rw [h.sc];exact D7 g) (R.ex h e) (.inl (h.fn1 hf));simp only [sn,c];exact this
  ·cases c
 runK q _ _ lc e ρ _ k:=match e with
  | .AugAssign (.Name x _) .Add e _=>xl lc x ρ λi a=>q.e lc e ρ λb=>bind (gk (λi j=>i+j) a b) λd=>k (.nx (ρ.set i (some d)))
  | _=>bad
 eq e ρ _ k h:=by
  split
  ·simp only [xr,h.e]
  ·first
   | rfl
   | (rename_i f;split;exact (f _ _ _ _ rfl).elim;rfl)
theorem a9 {k:α->M β} {S S':Sto} {a:α} (e:m S=.ok a S'):bind m k S=k a S':=by unfold bind;rw [e]
theorem W9 {d:D} (h:S[p]?=some (.dct kvs)) (e:Y7 kvs (.inr x)=some d):ixD (.ref p) (.str x) S=.ok d S:=by
 simp only [ixD,h,B5,FX,e,dD,ret]
theorem Z9 {v:D} (h:S[p]?=some (.dct kvs)) (a:kvs.length<sizeLine) (e:gm kvs (.inr x) v=kvs'):B7 (.ref p) (.str x) v S=.ok .non (S.set p (.dct kvs')):=by
 simp only [B7,h,B5,if_pos a,e]
theorem fj {S:Sto} {p:Nat} {o o':O} (h:S[p]?=some o):(S.set p o')[p]?=some o':=Fg (Et.mp h).1
def k5 (ns:List Int) (a l t:Int):O:=.dct [(.inr "cells",.lst (ns.map D.int)),(.inr "at",.int a),(.inr "left",.int l),(.inr "turn",.int t)]
section
variable {S:Sto} {p:Nat} {ns:List Int} {a l t:Int} (h:S[p]?=some (k5 ns a l t))
include h
theorem su:ixD (.ref p) (.str "cells") S=.ok (.lst (ns.map D.int)) S:=W9 h rfl
theorem Do:ixD (.ref p) (.str "at") S=.ok (.int a) S:=W9 h rfl
theorem fY:ixD (.ref p) (.str "left") S=.ok (.int l) S:=W9 h rfl
theorem mr:ixD (.ref p) (.str "turn") S=.ok (.int t) S:=W9 h rfl
theorem Aj (v:Int):B7 (.ref p) (.str "at") (.int v) S=.ok .non (S.set p (k5 ns v l t)):=Z9 h (by show 4<sizeLine;decide) rfl
theorem iD (v:Int):B7 (.ref p) (.str "left") (.int v) S=.ok .non (S.set p (k5 ns a v t)):=Z9 h (by show 4<sizeLine;decide) rfl
theorem qX (v:Int):B7 (.ref p) (.str "turn") (.int v) S=.ok .non (S.set p (k5 ns a l v)):=Z9 h (by show 4<sizeLine;decide) rfl
end
theorem cD (i j:Int) (S:Sto):i9 (.int i) (.int j) S=.ok (.int (i+j)) S:=rfl
theorem V5 {i j:Int} (h:0<j) (S:Sto):R8 (.int i) (.int j) S=.ok (.int (i % j)) S:=by simp only [R8,if_pos h,ret]
theorem N3 {i j:Int} (h:0<j) (b:j<1073741824) (S:Sto):I0 (.int i) (.int j) S=.ok (.int (i / j)) S:=by
 have a:mj i j:=⟨h,b⟩;simp only [I0,if_pos a,ret]
theorem V2 (h:CMul i j) (S:Sto):m7 (.int i) (.int j) S=.ok (.int (i * j)) S:=by simp only [m7,if_pos h,ret]
theorem Y2 (ns:List Int) (S:Sto):k8 (.lst (ns.map D.int)) S=.ok (.int ns.length) S:=by
 show R.ok (D.int ((ns.map D.int).length:Nat)) S=_;grind
theorem qJ {ns:List Int} {a:Int} (f:0<=a) (g:0<ns.length) (S:Sto):∃ z:Int,ixD (.lst (ns.map D.int)) (.int (a % (ns.length:Int))) S=.ok (.int z) S:=by
 have c:(0:Int)<(ns.length:Int):=by omega
 have e:=Hu a (HU c);have h:=GT a c;obtain ⟨j,d⟩:=GW e;have b:j<ns.length:=by omega
 refine ⟨ns[j],?_⟩;rw [d];show dD (atI (ns.map D.int) (j:Int)) S=_;rw [X1 (by rw [Fq,Ez b];rfl)];rfl
theorem set_set {S:Sto} {p:Nat} {o o':O}:(S.set p o).set p o'=S.set p o':=List.set_set ..
def cJ (p m e d:D):M D:=
 bind (ixD p (.str "turn")) λa=>bind (R8 d (.int 1000003)) λl=>bind (m7 l (.int 48271)) λk=>bind (m7 (.int 7919) a) λg=>bind (i9 k g) λi=>bind (i9 i (.int 104729)) λj=>bind (R8 j (.int 2147483647)) λc=>
 bind (I0 c (.int 64)) λf=>bind (m7 f (.int 69621)) λt=>bind (m7 (.int 31) a) λh=>bind (m7 h a) λq=>bind (i9 t q) λo=>bind (i9 o e) λn=>bind (R8 n (.int 2147483587)) λb=>
 bind (I0 b (.int 64)) λs=>bind (R8 s m) λr=>ret r
def cZ (p m b a:D) (z:Bool):M D:=
 if z=true then bind (I0 a m) λv=>bind (B7 p (.str "left") v) λ_=>bind (R8 a m) λd=>ret d
 else cJ p m b a
def G8 (p m b cells a:D):M D:=
 bind (fG (.int 10) (.int 18)) λy=>bind (c8 .GtE a y) λd=>bind (asB d) λc=>
 if c=true then bind (k8 cells) λy=>bind (c8 .Lt b y) λd=>bind (asB d) λz=>cZ p m b a z
 else cZ p m b a false
def il (p m:D):M D:=
 bind (ixD p (.str "turn")) λx=>bind (i9 x (.int 1)) λe=>bind (B7 p (.str "turn") e) λ_=>
 bind (ixD p (.str "left")) λx=>bind (c8 .Gt x (.int 0)) λd=>bind (asB d) λz=>
 if z=true then bind (ixD p (.str "left")) λx=>bind (R8 x m) λb=>bind (ixD p (.str "left")) λx=>bind (I0 x m) λv=>bind (B7 p (.str "left") v) λ_=>ret b
 else bind (ixD p (.str "cells")) λcells=>bind (ixD p (.str "at")) λa=>bind (i9 a (.int 1)) λv=>bind (B7 p (.str "at") v) λ_=>bind (k8 cells) λx=>bind (c8 .Gt x (.int 0)) λd=>bind (asB d) λz=>
  if z=true then bind (k8 cells) λy=>bind (R8 a y) λi=>bind (ixD cells i) λc=>G8 p m a cells c
  else G8 p m a cells (.int 0)
theorem gh {a l t m c b:Int} (h:S[p]?=some (k5 ns a l t)) (d:0<m) (f:0<=t) (e:t<2000000):∃ r:Int,cJ (.ref p) (.int m) (.int b) (.int c) S=.ok (.int r) S/\0<=r/\r<m:=by
 unfold cJ;rw [a9 (mr h),a9 (V5 (by decide) S),a9 (V2 (.inr ⟨by decide,by decide⟩) S),a9 (V2 (.inl ⟨by decide,by decide⟩) S),a9 (cD _ _ S),a9 (cD _ _ S),a9 (V5 (by decide) S),
  a9 (N3 (by decide) (by decide) S),a9 (V2 (.inr ⟨by decide,by decide⟩) S),a9 (V2 (.inl ⟨by decide,by decide⟩) S),a9 (V2 (.inr ⟨by omega,by omega⟩) S),a9 (cD _ _ S),a9 (cD _ _ S),a9 (V5 (by decide) S),a9 (N3 (by decide) (by decide) S),a9 (V5 d S)]
 exact ⟨_,rfl,Hu _ (HU d),GT _ d⟩
theorem eQ {S:Sto} {p:Nat} {ns:List Int} {a l t m c b:Int} (h:S[p]?=some (k5 ns a l t)) (ha:0<=a) (hl:0<=l) (ht:0<=t) (htb:t<2000000) (hm:0<m) (hm2:m<1073741824) :
  ∃ r l',G8 (.ref p) (.int m) (.int b) (.lst (ns.map D.int)) (.int c) S=.ok (.int r) (S.set p (k5 ns a l' t))/\0<=r/\r<m/\0<=l':=by
 unfold G8;have hp:fG (.int 10) (.int 18) S=.ok (.int 1000000000000000000) S:=rfl;rw [a9 hp];have hc:c8 .GtE (.int c) (.int 1000000000000000000) S=.ok (.bl (decide (1000000000000000000<=c))) S:=rfl;rw [a9 hc,a9 (show asB _ _=_ from rfl)];have same:S.set p (k5 ns a l t)=S:=by
  apply List.ext_getElem?;intro i;by_cases e:p=i
  ·subst e;rw [fj h,h]
  ·rw [ER e]
 have fin:∀ z:Bool,(z=true->1000000000000000000<=c)->∃ r l',cZ (.ref p) (.int m) (.int b) (.int c) z S=.ok (.int r) (S.set p (k5 ns a l' t))/\0<=r/\r<m/\0<=l':=λz hz=>by
  unfold cZ;cases z with
  | true=>
   rw [if_pos rfl,a9 (N3 hm hm2 _),a9 (iD h _),a9 (V5 hm _)];exact ⟨_,c / m,rfl,Hu _ (HU hm),GT _ hm,Int.ediv_nonneg (Int.le_trans (by decide) (hz rfl)) (Int.le_of_lt hm)⟩
  | false=>
   rw [if_neg EH];obtain ⟨r,e,r1,r2⟩:=gh (c:=c) (b:=b) h hm ht htb;exact ⟨r,l,by rw [e,same],r1,r2,hl⟩
 by_cases hz:(1000000000000000000:Int)<=c
 ·rw [EO hz,if_pos rfl,a9 (Y2 ns _)];have hc2:c8 .Lt (.int b) (.int (ns.length:Int)) S=.ok (.bl (decide (b<(ns.length:Int)))) S:=rfl;rw [a9 hc2,a9 (show asB _ _=_ from rfl)];exact fin _ λ_=>hz
 ·rw [EX hz,if_neg EH];exact fin _ λz=>by cases z
theorem pS (h:S[p]?=some (k5 ns a l t)) (q:0<=a) (o:0<=l) (A:0<=t) (s:t<1000000) (f:0<m) (i:m<1073741824) :
  ∃ r g d,il (.ref p) (.int m) S=.ok (.int r) (S.set p (k5 ns g d (t+1)))/\0<=r/\r<m/\0<=g/\0<=d:=by
 unfold il;rw [a9 (mr h),a9 (cD _ _ S),a9 (qX h _)];have b:=fj (o':=k5 ns a l (t+1)) h;have w:c8 .Gt (.int l) (.int 0) (S.set p (k5 ns a l (t+1)))=.ok (.bl (decide (0<l))) (S.set p (k5 ns a l (t+1))):=rfl;rw [a9 (fY b),a9 w,a9 (show asB _ _=_ from rfl)];by_cases hz:0<l
 ·rw [EO hz,if_pos rfl,a9 (fY b),a9 (V5 f _),a9 (fY b),a9 (N3 f i _),a9 (iD b _),set_set];exact ⟨_,a,l / m,rfl,Hu _ (HU f),GT _ f,q,Int.ediv_nonneg o (Int.le_of_lt f)⟩
 ·rw [EX hz,if_neg EH,a9 (su b),a9 (Do b),a9 (cD _ _ _),a9 (Aj b _),set_set,a9 (Y2 ns _)];have y:=fj (o':=k5 ns (a+1) l (t+1)) h;have j:c8 .Gt (.int (ns.length:Int)) (.int 0) (S.set p (k5 ns (a+1) l (t+1)))=.ok (.bl (decide (0<(ns.length:Int)))) (S.set p (k5 ns (a+1) l (t+1))):=rfl;rw [a9 j,a9 (show asB _ _=_ from rfl)];have k:∀ c:Int,∃ r g d,G8 (.ref p) (.int m) (.int a) (.lst (ns.map D.int)) (.int c) (S.set p (k5 ns (a+1) l (t+1)))=.ok (.int r) (S.set p (k5 ns g d (t+1)))/\0<=r/\r<m/\0<=g/\0<=d:=λc=>by
   obtain ⟨r,d,e,u,x,v⟩:=eQ y (by omega) o (by omega) (by omega) f i;rw [set_set] at e;exact ⟨r,a+1,d,e,u,x,by omega,v⟩
  by_cases n:0<(ns.length:Int)
  ·rw [EO n,if_pos rfl,a9 (Y2 ns _),a9 (V5 n _)];obtain ⟨z,e⟩:=qJ (ns:=ns) q (by omega) (S.set p (k5 ns (a+1) l (t+1)));rw [a9 e];exact k z
  ·simp_all
mutual
noncomputable def szP:PyData->Nat
 | .none=>4
 | .bool _=>5
 | .int _=>13
 | .str x=>(PyData.shown (.str x)).length
 | .list xs=>kf xs+3
 | .tuple xs=>kf xs+3
 | .dict _=>0
noncomputable def kf:List PyData->Nat
 | []=>0
 | x :: xs=>szP x+2+kf xs
end
def SmI (i:Int):Prop:=-999999999999<=i/\i<=999999999999
mutual
def Sm:PyData->Prop
 | .none=>True
 | .bool _=>True
 | .int i=>SmI i
 | .str _=>True
 | .list xs=>Sms xs
 | .tuple xs=>Sms xs
 | .dict _=>False
def Sms:List PyData->Prop
 | []=>True
 | x :: xs=>Sm x/\Sms xs
end
mutual
theorem vS:∀ p:PyData,Sm p->p.shown.length<=szP p
 | .none,_=>by decide
 | .bool b,_=>by cases b <;> decide
 | .int i,h=>PyData.shown_int_le2 h.1 h.2
 | .str x,_=>EI _
 | .list xs,h=>by
  have c:=fW xs h;have a:=listText_len_le (PyData.shownAll xs);have d:=Go xs;simp only [PyData.shown,szP];omega
 | .tuple xs,h=>by
  have c:=fW xs h;have a:=tupleText_len_le (PyData.shownAll xs);have d:=Go xs;simp only [PyData.shown,szP];omega
 | .dict _,h=>h.elim
theorem fW:∀ xs:List PyData,Sms xs->((PyData.shownAll xs).map (·.length)).sum+2 * xs.length<=kf xs
 | [],_=>by simp [PyData.shownAll,kf]
 | x :: xs,h=>by
  have h1:=vS x h.1;have h2:=fW xs h.2;simp only [PyData.shownAll,kf,Fb,List.sum_cons,Fy];omega
end
theorem gG {i:Int} (h:i.natAbs<2 ^ 40):decide (i.natAbs.log2<1920)=true:=by
 refine EO ?_;by_cases z:i.natAbs=0
 ·rw [z];decide
 ·have:=(Nat.log2_lt z).mpr h;omega
theorem wx (h:SmI i):PyData.showable (.int i)=true:=gG (by have:=h.1;have:=h.2;omega)
mutual
theorem iN:∀ p:PyData,Sm p->p.showable=true
 | .none,_=>rfl
 | .bool b,_=>rfl
 | .int i,h=>wx h
 | .str x,_=>rfl
 | .list xs,h=>by simp only [PyData.showable];exact aO xs h
 | .tuple xs,h=>by simp only [PyData.showable];exact aO xs h
 | .dict _,h=>h.elim
theorem aO:∀ xs:List PyData,Sms xs->PyData.showableAll xs=true
 | [],_=>rfl
 | x :: xs,h=>by simp only [PyData.showableAll,iN x h.1,aO xs h.2,HI]
end
mutual
theorem ig:∀ p:PyData,Sm p->p.hasDict=false
 | .none,_=>rfl
 | .bool b,_=>rfl
 | .int i,h=>rfl
 | .str x,_=>rfl
 | .list xs,h=>by simp only [PyData.hasDict];exact aa xs h
 | .tuple xs,h=>by simp only [PyData.hasDict];exact aa xs h
 | .dict _,h=>h.elim
theorem aa:∀ xs:List PyData,Sms xs->PyData.hasDictAll xs=false
 | [],_=>rfl
 | x :: xs,h=>by simp only [PyData.hasDictAll,ig x h.1,aa xs h.2,Bool.or_self]
end
structure Nice (p:PyData):Prop where
 sm:Sm p
 dp:p.depth<=60
 sz:szP p<=4000
theorem Nice.len (h:Nice p):p.shown.length<=4000:=Fk (vS p h.sm) h.sz
theorem Nice.shows (h:Nice p):Shows p:=⟨iN p h.sm,ig p h.sm,h.dp,by have:=h.len;rw [Fj];omega⟩
theorem Ae (e:i5 64 S d=some p) (h:Nice p) (hd:∀ x,d=.str x->x.length<=4000):B0 S d=true:=by
 unfold B0;rw [e];simp;refine ⟨⟨h.shows,h.len⟩,?_⟩;grind
theorem nq (h:SmI i):Nice (.int i):=⟨h,by show PyData.depth (.int i)<=60;simp [PyData.depth],by show (13:Nat)<=4000;decide⟩
theorem cM {i:Int} (h:SmI i):B0 S (.int i)=true:=Ae rfl (nq h) (λx e=>by cases e)
theorem xY (b:ds.length=fs.length) (a:ds.all (B0 S)=true):L7 c fs ds S=.ok (.ref S.length) (S++[.exc c (fs.zip ds)]):=by
 unfold L7;grind
theorem td (h:B0 S a=true):[a].all (B0 S)=true:=by simp [h]
theorem k4 (b:Bool) (S:Sto):asB (.bl b) S=.ok b S:=rfl
def br (o:Option (Option Value)) (x:String):Bool:=match o with
 | some (some (.builtin y))=>decide (y=x)
 | _=>false
theorem P4 (h:br o x=true):o=some (some (.builtin x)):=by
 unfold br at h;grind
def isNo (o:Option (Option Value)):Bool:=match o with
 | some none=>true
 | _=>false
theorem W6 (h:isNo o=true):o=some none:=by
 unfold isNo at h;grind
def isB (o:Option Bool) (b:Bool):Bool:=match o with
 | some c=>c==b
 | none=>false
theorem R4 (h:isB o b=true):o=some b:=by
 unfold isB at h;grind
def xcB (K:PySem.W.Frag) (C:Addr):Bool:=
 br (PySem.W.findIn K (.ref C) "__getattribute__") "BaseException.__getattribute__" && (isNo (PySem.W.findIn K (.ref C) "__getattr__")&&(isB (PySem.W.mroIn K C (.type "BaseException")) true&&(isB (PySem.W.mroIn K C (.type "object")) true &&
 (PySem.W.hasDictIn K C&&(br (PySem.W.findIn K (.ref C) "__class__") "object.__class__" && (br (PySem.W.specialIn K (.builtin "object.__class__") "__get__") "getset_descriptor.__get__" && (isB (PySem.W.takesIn K (.builtin "object.__class__")) true &&
 (U7 K C&&((PySem.W.clsIn K C).any (λa=>y7 a.mro)&&(br (PySem.W.findIn K (.ref C) "__setattr__") "object.__setattr__" && PySem.W.keepIn K (.ref C)))))))))))
theorem N8 {K:PySem.W.Frag} {C:Addr} (h:xcB K C=true):XC K C:=by
 simp only [xcB,Ey] at h;obtain ⟨d,e,l,m,j,f,g,i,k,a,b,c⟩:=h;exact ⟨⟨P4 d,W6 e,R4 l,R4 m,j,P4 f,P4 g,R4 i⟩,k,a,P4 b,c⟩
def aM (cs:List Addr) (a:Addr) (c:Nat):Addr:=cs.getD c a
structure RowB (K:PySem.W.Frag) (Γ:Gm) (cs:List Addr) (junk:Addr):Prop where
 xc:cs.all (xcB K)=true
 jk:U7 K junk=false
 sub:((List.range cs.length).all λc=>(List.range cs.length).all λc0=>isB (PySem.W.kitOne K (.ref (aM cs junk c)) (.ref (aM cs junk c0))) (Γ.sub c c0))=true
 sV:(cs.all λC=>isB (PySem.W.kitOne K (.ref C) (.type "ValueError")) true)=true
 sT:(cs.all λC=>tys.all λt=>isB (PySem.W.kitOne K (.ref C) (.type t)) false)=true
 fl:(Γ.flds.all λg=>cs.all λC=>isNo (PySem.W.findIn K (.ref C) g))=true
 bl:(bnames.all λx=>(Γ.gl.lookup x).isSome||isNo (PySem.W.nsIn K mainGlobals x))=true
theorem zS {K:PySem.W.Frag} {cs:List Addr} {a:Addr} (d:U7 K a=false) {c:Nat} (h:XC K (aM cs a c)):c<cs.length/\aM cs a c∈cs:=by
 by_cases b:c<cs.length
 ·refine ⟨b,?_⟩;unfold aM;rw [Hz,Ez b];exact FI b
 ·have e:aM cs a c=a:=by
   unfold aM;rw [Hz,Gr (FE b)];rfl
  rw [e] at h;have:=h.ex;rw [d] at this;cases this
theorem RowB.st {Γ:Gm} {cs:List Addr} {j:Addr} {h:Heap} (B:RowB T.K Γ cs j) (X:T.K.In h) (G:h.Ns mainGlobals T.mg) (o:T.cl=aM cs j) (w:∀ x d,Γ.gl.lookup x=some (.val d)->∃ u v,T.mg x=some u/\RelV v u/\∀ μ H,RD T.K μ H d v)
  (r:∀ x c fs,Γ.gl.lookup x=some (.err c fs)->c<cs.length/\ErrAt T x c fs/\∀ g∈fs,g∈Γ.flds) (hd:∀ x k,Γ.gl.lookup x=some (.dct k)->pM T x k):TxSt T Γ:=by
 have i:∀ c,XC T.K (T.cl c)->c<cs.length/\T.cl c∈cs:=λc f=>by rw [o] at f ⊢;exact zS B.jk f
 have p:=λg l c f=>by
  have:=(Fa.mp B.fl) g l;exact W6 ((Fa.mp this) _ (i c f).2)
 refine ⟨λx s y=>?_,w,λx c fs e=>?_,λx c c0 fs e f=>?_,λc f=>?_,λc f t z=>?_,p,hd⟩
 ·have:=(Fa.mp B.bl) x s;rw [y] at this;exact PySem.W.mg_none_of X G (W6 this)
 ·obtain ⟨n,m,q⟩:=r x c fs e;exact ⟨m,λg l=>p g (q g l) c m.xc⟩
 ·obtain ⟨n,m,q⟩:=r x c0 fs e;have a:=(Fa.mp B.sub) c (Gx.mpr (i c f).1);have b:=(Fa.mp a) c0 (Gx.mpr n);rw [o];exact R4 b
 ·exact R4 ((Fa.mp B.sV) _ (i c f).2)
 ·have a:=(Fa.mp B.sT) _ (i c f).2;exact R4 ((Fa.mp a) t z)
def cY (K:PySem.W.Frag):Sp:=λvs H Q _=>∃ (a:Addr) (ns:List Int),vs=[.ref a]/\SqL K H a (ns.map V.int)/\∀ H',Q (.bl true) H'
theorem jr {K:PySem.W.Frag} {cl:ClW} {run:List D->M D} (hr:∀ ns:List Int,∃ S',run [.scr (ns.map D.int)] []=.ok (.bl true) S'):∀ vs H Q E,cY K vs H Q E->spD K cl 1 run vs H Q E:=by
 rintro vs H Q E ⟨a,ns,rfl,hS,q⟩;obtain ⟨S',e⟩:=hr ns;refine ⟨rfl,⟨[],[]⟩,[],[.scr (ns.map D.int)],.cons (.scr ?_ (RDs.ints ns)) .nil,⟨rfl,by simp,λn o a e=>by simp at e,λa m=>by simp at m⟩,?_⟩
 ·rcases hS with h | h
  ·exact .inl ⟨h,by simp,by simp⟩
  ·exact .inr h
 ·rw [e];intro μ' H' l r v rv;cases rv;exact q H'
theorem ln1 {α:Type} {p:List α->Prop} {us:List α} (hl:us.length=1) (h:∀ a,p [a]):p us:=by
 obtain ⟨a,rfl⟩:=List.length_eq_one_iff.mp hl;exact h a
theorem lnS {α:Type} {p:List α->Prop} {us:List α} {n:Nat} (hl:us.length=n+1) (h:∀ a ws,ws.length=n->p (a :: ws)):p us:=by
 cases us with
 | nil=>cases hl
 | cons a ws=>exact h a ws (Nat.succ.inj hl)
theorem ln2 {α:Type} {p:List α->Prop} {us:List α} (hl:us.length=2) (h:∀ a b,p [a,b]):p us:=lnS hl λa _ e=>ln1 (p:=λw=>p (a :: w)) e (h a)
theorem ln3 {α:Type} {p:List α->Prop} {us:List α} (hl:us.length=3) (h:∀ a b c,p [a,b,c]):p us:=lnS hl λa _ e=>ln2 (p:=λw=>p (a :: w)) e (h a)
theorem ln4 {α:Type} {p:List α->Prop} {us:List α} (hl:us.length=4) (h:∀ a b c d,p [a,b,c,d]):p us:=lnS hl λa _ e=>ln3 (p:=λw=>p (a :: w)) e (h a)
theorem K0 {fd:FuncData} {ps:List Str} {us:List Value} (hl:us.length=1) (h:∀ a,bindArgs fd ⟨[a],[]⟩=pure (ps.zip [a])):bindArgs fd ⟨us,[]⟩=pure (ps.zip us):=ln1 (p:=λus=>bindArgs fd ⟨us,[]⟩=pure (ps.zip us)) hl h
theorem y8 {fd:FuncData} {ps:List Str} {us:List Value} (hl:us.length=2) (h:∀ a b,bindArgs fd ⟨[a,b],[]⟩=pure (ps.zip [a,b])):bindArgs fd ⟨us,[]⟩=pure (ps.zip us):=ln2 (p:=λus=>bindArgs fd ⟨us,[]⟩=pure (ps.zip us)) hl h
theorem bC {fd:FuncData} {ps:List Str} {us:List Value} (hl:us.length=3) (h:∀ a b c,bindArgs fd ⟨[a,b,c],[]⟩=pure (ps.zip [a,b,c])):bindArgs fd ⟨us,[]⟩=pure (ps.zip us):=ln3 (p:=λus=>bindArgs fd ⟨us,[]⟩=pure (ps.zip us)) hl h
theorem DM {fd:FuncData} {ps:List Str} {us:List Value} (hl:us.length=4) (h:∀ a b c d,bindArgs fd ⟨[a,b,c,d],[]⟩=pure (ps.zip [a,b,c,d])):bindArgs fd ⟨us,[]⟩=pure (ps.zip us):=ln4 (p:=λus=>bindArgs fd ⟨us,[]⟩=pure (ps.zip us)) hl h
structure GF (K:PySem.W.Frag) (x:Str) (st:Stmt) (g:Addr):Prop where
 a:PySem.W.nsIn K mainGlobals x=some (some (.ref g))
 f:∃ fd,Fun K x x st g fd
theorem gf_mk {K:PySem.W.Frag} {x:Str} {st:Stmt} {g:Addr} {oc:Value} {od an:Option Addr} {osl:Array (Option Value)} {kV doc pm cdv ct:Value} (a:PySem.W.nsIn K mainGlobals x=some (some (.ref g))) (l:K.lookup g=some ⟨oc,od,.func (PySem.W.fnOf x x (j2 st) (f7 st) (b8 st) .none kV doc pm an cdv ct),osl⟩) (c:PySem.W.codeIn K cdv x=true) (k:PySem.W.keepIn K (.ref g)=true):GF K x st g:=⟨a,_,G6 l c k⟩
theorem fe {T:Tx} {h:Heap} (X:T.K.In h) (G:h.Ns mainGlobals T.mg) {x:Str} {st:Stmt} {g:Addr} {m:List Str} {Tb:List Fd} {i n:Nat} (d:GF T.K x st g) (sc:cf (f9 st m)=true) (hb:∀ (kV doc pm:Value) (an:Option Addr) (cdv ct:Value) (us:List Value),us.length=(f9 st m).ps.length->bindArgs (PySem.W.fnOf x x (j2 st) (f7 st) (b8 st) .none kV doc pm an cdv ct) ⟨us,[]⟩=pure ((f9 st m).ps.zip us)) (hT:Tb[i]?=some (f9 st m)) (hn:(f9 st m).ps.length=n):∃ fd,Tb[i]?=some fd/\fd.ps.length=n/\FnTx T x fd:=by
 obtain ⟨fd,F⟩:=d.f;exact ⟨_,hT,hn,⟨g,_,_,st,F,rfl,rfl,aS sc,F.binds hb,FA X G d.a⟩⟩
def yW (T:Tx) (Tb:List Fd):List (Str×G)->Prop
 | []=>True
 | (x,.fn i n) :: l=>(∃ fd,Tb[i]?=some fd/\fd.ps.length=n/\FnTx T x fd)/\yW T Tb l
 | _ :: l=>yW T Tb l
theorem CQ {T:Tx} {Γ:Gm} {Tb:List Fd} (h:yW T Tb Γ.gl):mG T Γ Tb:=λx i n e=>by
 have m:=L2.mem_of_lookup e;generalize Γ.gl=l at h m;induction l with
 | nil=>cases m
 | cons y l ih=>
  obtain ⟨z,g⟩:=y;rcases EU.mp m with q | q
  ·cases q;exact h.1
  ·refine ih ?_ q;cases g with
   | fn j k=>exact h.2
   | _=>exact h
theorem Y3 {n:Nat} (I:Nat->Sto->List D->Prop) (a:∀ S es,I n S es->src n S=some none)
  (c:∀ i S es,i<n->I i S es->∃ d b S1,src i S=some (some d)/\t d S=.ok b S1/\(if b=true then ∃ y S2,f d S1=.ok y S2/\es.length<sizeLine/\I (i+1) S2 (es++[y]) else I (i+1) S1 es)) :
  ∀ (k i:Nat) (S:Sto) (es:List D),k+i=n->I i S es->∃ es' S',j0 src t f (k+1) i es S=.ok es' S'/\I n S' es'
 | 0,i,S,es,j,h=>by
  have:i=n:=by omega
  subst this;refine ⟨es,S,?_,h⟩;simp only [j0,a S es h]
 | k+1,i,S,es,j,h=>by
  obtain ⟨d,b,S1,l,m,e⟩:=c i S es (by omega) h;have g:j0 src t f (k+1+1) i es S=bind (t d) (λb=>if b=true then bind (f d) (λy=>if es.length<sizeLine then j0 src t f (k+1) (i+1) (es++[y]) else bad) else j0 src t f (k+1) (i+1) es) S:=by
   conv=>lhs;unfold j0
   simp only [l]
  rw [g,a9 m];cases b with
  | true=>
   rw [if_pos rfl] at e ⊢;obtain ⟨y,S2,p,o,q⟩:=e;rw [a9 p,if_pos o];exact Y3 I a c k (i+1) S2 _ (by omega) q
  | false=>
   rw [if_neg EH] at e ⊢;exact Y3 I a c k (i+1) S1 _ (by omega) e
def Ok {b:Type} (m:M b) (S:Sto) (Q:b->Sto->Prop):Prop:=∃ a S',m S=.ok a S'/\Q a S'
section
variable {α β:Type} {S S1:Sto} {m m':M α} {k:α->M β} {a:α} {Q Q':α->Sto->Prop} {P:β->Sto->Prop}
theorem Ok.ret (h:Q a S):Ok (ret a) S Q:=⟨a,S,rfl,h⟩
theorem Ok.of (e:m S=.ok a S1) (h:Q a S1):Ok m S Q:=⟨a,S1,e,h⟩
theorem Ok.bind (h:Ok m S λa S1=>Ok (k a) S1 P):Ok (L3.bind m k) S P:=by
 obtain ⟨a,S1,e,b,S2,c,q⟩:=h;exact ⟨b,S2,by rw [a9 e];exact c,q⟩
theorem Ok.eq (e:m S=.ok a S1) (h:Ok (k a) S1 P):Ok (L3.bind m k) S P:=Ok.bind ⟨a,S1,e,h⟩
theorem Ok.mono (h:Ok m S Q) (i:∀ a S1,Q a S1->Q' a S1):Ok m S Q':=by
 obtain ⟨a,S1,e,q⟩:=h;exact ⟨a,S1,e,i _ _ q⟩
theorem Ok.cg (e:m=m') (h:Ok m' S Q):Ok m S Q:=e▸h
theorem Ok.cgS (e:m S=m' S) (h:Ok m' S Q):Ok m S Q:=by
 obtain ⟨a,S1,b,q⟩:=h;exact ⟨a,S1,by rw [e];exact b,q⟩
theorem Ok.ite {c:Prop} [Decidable c] {a m2:M α} (b:c->Ok a S Q) (d:¬ c->Ok m2 S Q):Ok (if c then a else m2) S Q:=by grind
end
theorem Ok.comp {n:Nat} (I:Nat->Sto->List D->Prop) (c:∀ S es,I n S es->src n S=some none)
  (a:∀ i S es,i<n->I i S es->∃ d,src i S=some (some d)/\Ok (t d) S λb S1=>if b=true then Ok (f d) S1 λy S2=>es.length<sizeLine/\I (i+1) S2 (es++[y]) else I (i+1) S1 es) {S:Sto} (h:I 0 S []) :
  Ok (j0 src t f (n+1) 0 []) S λes S'=>I n S' es:=by
 obtain ⟨es,S',e,q⟩:=Y3 I c (λi S es o h=>by
  obtain ⟨d,l,b,S1,m,q⟩:=a i S es o h;refine ⟨d,b,S1,l,m,?_⟩;cases b with
  | true=>
   rw [if_pos rfl] at q ⊢;obtain ⟨y,S2,g,j,k⟩:=q;exact ⟨y,S2,g,j,k⟩
  | false=>
   rw [if_neg EH] at q ⊢;exact q) n 0 S [] (by omega) h
 exact ⟨es,S',e,q⟩
def FlI (I:L3.Env->Sto->Prop) (J:L3.Env->Sto->Prop) (R:D->Sto->Prop) (a:Fl) (S:Sto):Prop:=match a with
 | .nx ρ=>I ρ S
 | .ct ρ=>I ρ S
 | .bk ρ=>J ρ S
 | .rt d=>R d S
theorem Ok.for_ {n:Nat} (I:Nat->L3.Env->Sto->Prop) (J:L3.Env->Sto->Prop) (R:D->Sto->Prop) (hend:∀ ρ S,I n ρ S->src n S=some none)
  (step:∀ i ρ S,i<n->I i ρ S->∃ d ρ1,src i S=some (some d)/\tg d ρ=some ρ1/\Ok (body ρ1) S (FlI (I (i+1)) J R)) :
  ∀ (k i:Nat) (ρ:L3.Env) (S:Sto),k+i=n->I i ρ S->Ok (z0 src tg body (k+1) i ρ) S λfl S'=>match fl with
   | .nx ρ'=>I n ρ' S'\/J ρ' S'
   | .rt d=>R d S'
   | _=>False
 | 0,i,ρ,S,hk,h=>by
  have:i=n:=by omega
  subst this;exact ⟨.nx ρ,S,by simp only [z0,hend ρ S h],.inl h⟩
 | k+1,i,ρ,S,hk,h=>by
  obtain ⟨d,ρ1,e1,e2,h2⟩:=step i ρ S (by omega) h;have un:z0 src tg body (k+1+1) i ρ S=L3.bind (body ρ1) (λfl=>match fl with
    | .nx ρ2=>z0 src tg body (k+1) (i+1) ρ2
    | .ct ρ2=>z0 src tg body (k+1) (i+1) ρ2
    | .bk ρ2=>L3.ret (.nx ρ2)
    | .rt d=>L3.ret (.rt d)) S:=by
   conv=>lhs;unfold z0
   simp only [e1,e2]
   all_goals rfl
  refine Ok.cgS un (Ok.bind (h2.mono λfl S1 q=>?_));cases fl with
  | nx ρ2=>exact Ok.for_ I J R hend step k (i+1) ρ2 S1 (by omega) q
  | ct ρ2=>exact Ok.for_ I J R hend step k (i+1) ρ2 S1 (by omega) q
  | bk ρ2=>exact Ok.ret (.inr q)
  | rt d=>exact Ok.ret q
theorem Ok.while_ (I:Nat->L3.Env->Sto->Prop) (J:L3.Env->Sto->Prop) (R:D->Sto->Prop)
  (step:∀ k ρ S,I k ρ S->Ok (t ρ) S λb S1=>if b=true then Ok (body ρ) S1 (FlI (λρ2 S2=>∃ j,j<k/\I j ρ2 S2) J R) else J ρ S1) :
  ∀ (m k:Nat) (ρ:L3.Env) (S:Sto),k<m->I k ρ S->Ok (t6 t body m ρ) S λfl S'=>match fl with
   | .nx ρ'=>J ρ' S'
   | .rt d=>R d S'
   | _=>False
 | 0,k,ρ,S,hk,h=>by omega
 | m+1,k,ρ,S,hk,h=>by
  refine Ok.bind ((step k ρ S h).mono λb S1 q=>?_);cases b with
  | false=>
   rw [if_neg EH] at q ⊢;exact Ok.ret q
  | true=>
   rw [if_pos rfl] at q ⊢;refine Ok.bind (q.mono λfl S2 q2=>?_);cases fl with
   | nx ρ2=>obtain ⟨j,hj,q3⟩:=q2;exact Ok.while_ I J R step m j ρ2 S2 (by omega) q3
   | ct ρ2=>obtain ⟨j,hj,q3⟩:=q2;exact Ok.while_ I J R step m j ρ2 S2 (by omega) q3
   | bk ρ2=>exact Ok.ret q2
   | rt d=>exact Ok.ret q2
theorem v8 {c:Type} {l:List c} {h g:c->D} {p:c->Bool} {t:D->M Bool} {f:D->M D} {S:Sto} (s:l.length<sizeLine) (m:∀ a∈l,t (h a) S=.ok (p a) S) (k:∀ a∈l,p a=true->f (h a) S=.ok (g a) S):j0 (F9 (l.map h)) t f (l.length+1) 0 [] S=.ok ((l.filter p).map g) S:=by
 obtain ⟨es,S',e,q,r⟩:=Ok.comp (src:=F9 (l.map h)) (λi S' es=>S'=S/\es=((l.take i).filter p).map g) (λS es _=>by show some (l.map h)[l.length]?=some none;rw [Gr (by simp)])
  (λi S' es b ⟨j,o⟩=>by
   subst j o;refine ⟨h l[i],?_,p l[i],S',m _ (FI b),?_⟩
   ·show some (l.map h)[i]?=some (some (h l[i]));rw [Fq,Ez b];rfl
   ·have n:=He b;cases d:p l[i] with
    | true=>
     dsimp only;rw [if_pos rfl];refine ⟨g l[i],S',k _ (FI b) d,?_,rfl,?_⟩
     ·grind
     ·grind
    | false=>
     dsimp only;rw [if_neg EH];refine ⟨rfl,?_⟩;rw [n,FD,HN (by rw [d];exact EH),List.filter_nil,Fm]) ⟨rfl,rfl⟩
 grind
def Asc (x:Str):Prop:=∀ c∈x.cps.toList,c<128
def M9 (j:Nat):Nat:=1000000000000000000000000000000000000000+j
mutual
def Pln (j:Nat):D->Prop
 | .non=>True
 | .bl _=>True
 | .int i=>i.natAbs<=M9 j
 | .str x=>x.length<=45+j/\Asc x
 | .tup ds=>Plns j ds
 | .lst ds=>Plns j ds
 | .scr _=>False
 | .ref _=>False
def Plns (j:Nat):List D->Prop
 | []=>True
 | d :: ds=>Pln j d/\Plns j ds
end
mutual
noncomputable def py:D->PyData
 | .non=>.none
 | .bl b=>.bool b
 | .int i=>.int i
 | .str x=>.str x
 | .tup ds=>.tuple (pys ds)
 | .lst ds=>.list (pys ds)
 | .scr _=>.none
 | .ref _=>.none
noncomputable def pys:List D->List PyData
 | []=>[]
 | d :: ds=>py d :: pys ds
end
mutual
noncomputable def dp:D->Nat
 | .tup ds=>dps ds+1
 | .lst ds=>dps ds+1
 | _=>0
noncomputable def dps:List D->Nat
 | []=>0
 | d :: ds=>max (dp d) (dps ds)
end
mutual
noncomputable def sz:D->Nat
 | .int _=>60
 | .str x=>10 * x.length+2
 | .tup ds=>szs ds+3
 | .lst ds=>szs ds+3
 | _=>5
noncomputable def szs:List D->Nat
 | []=>0
 | d :: ds=>sz d+2+szs ds
end
theorem Plns.of:∀ {ds:List D},(∀ d∈ds,Pln j d)->Plns j ds
 | [],_=>trivial
 | d :: ds,h=>⟨h d (EL ..),Plns.of λe a=>h e (EM _ a)⟩
mutual
theorem Pln.up:∀ (d:D),Pln j d->Pln (j+1) d
 | .non,_=>trivial
 | .bl _,_=>trivial
 | .int i,h=>by have h:i.natAbs<=M9 j:=h;show i.natAbs<=M9 (j+1);unfold M9 at *;omega
 | .str x,h=>⟨by have:=h.1;omega,h.2⟩
 | .tup ds,h=>Plns.up ds h
 | .lst ds,h=>Plns.up ds h
 | .scr _,h=>h.elim
 | .ref _,h=>h.elim
theorem Plns.up:∀ (ds:List D),Plns j ds->Plns (j+1) ds
 | [],_=>trivial
 | d :: ds,h=>⟨Pln.up d h.1,Plns.up ds h.2⟩
end
theorem gX:∀ {ds:List D},(∀ d∈ds,dp d<=n)->dps ds<=n
 | [],_=>FU _
 | d :: ds,h=>by
  have:=h d (EL ..);have:=gX λe a=>h e (EM _ a);show max (dp d) (dps ds)<=n;omega
mutual
theorem cN (S:Sto):∀ (d:D) (n:Nat),Pln j d->dp d<n->i5 n S d=some (py d)
 | .non,n+1,_,_=>rfl
 | .bl _,n+1,_,_=>rfl
 | .int _,n+1,_,_=>rfl
 | .str _,n+1,_,_=>rfl
 | .tup ds,n+1,h,a=>by
  show (h9 (i5 n S) ds).map PyData.tuple=_;rw [Y5 S ds n h (by have:dps ds+1<n+1:=a;omega)];rfl
 | .lst ds,n+1,h,a=>by
  show (h9 (i5 n S) ds).map PyData.list=_;rw [Y5 S ds n h (by have:dps ds+1<n+1:=a;omega)];rfl
 | .scr _,_,h,_=>h.elim
 | .ref _,_,h,_=>h.elim
 | .non,0,_,h=>by omega
 | .bl _,0,_,h=>by omega
 | .int _,0,_,h=>by omega
 | .str _,0,_,h=>by omega
 | .tup _,0,_,h=>by omega
 | .lst _,0,_,h=>by omega
theorem Y5 (S:Sto):∀ (ds:List D) (n:Nat),Plns j ds->dps ds<n->h9 (i5 n S) ds=some (pys ds)
 | [],n,_,_=>rfl
 | d :: ds,n,h,hn=>by
  have hn:max (dp d) (dps ds)<n:=hn;simp only [h9,cN S d n h.1 (by omega),Y5 S ds n h.2 (by omega)];rfl
end
theorem yw (h:Asc x):PyData.strOk x=true:=by
 unfold PyData.strOk;rw [Array.all_eq_true'];intro c a;have:=h c (by simpa using a);grind
mutual
theorem nH:∀ d:D,Pln j d->(py d).canLay0=true
 | .non,_=>rfl
 | .bl _,_=>rfl
 | .int _,_=>rfl
 | .str x,h=>by show PyData.canLay0 (.str x)=true;simp only [PyData.canLay0];exact yw h.2
 | .tup ds,h=>by show PyData.canLay0 (.tuple (pys ds))=true;simp only [PyData.canLay0];exact dG ds h
 | .lst ds,h=>by show PyData.canLay0 (.list (pys ds))=true;simp only [PyData.canLay0];exact dG ds h
 | .scr _,h=>h.elim
 | .ref _,h=>h.elim
theorem dG:∀ ds:List D,Plns j ds->PyData.canLayAll0 (pys ds)=true
 | [],_=>rfl
 | d :: ds,h=>by show PyData.canLayAll0 (py d :: pys ds)=true;simp only [PyData.canLayAll0,nH d h.1,dG ds h.2,HI]
end
mutual
theorem O5:∀ d:D,(py d).depth<=dp d
 | .non=>by show PyData.depth .none<=_;simp [PyData.depth]
 | .bl b=>by show PyData.depth (.bool b)<=_;simp [PyData.depth]
 | .int i=>by show PyData.depth (.int i)<=_;simp [PyData.depth]
 | .str x=>by show PyData.depth (.str x)<=_;simp [PyData.depth]
 | .tup ds=>by show PyData.depth (.tuple (pys ds))<=dps ds+1;simp only [PyData.depth];have:=T1 ds;omega
 | .lst ds=>by show PyData.depth (.list (pys ds))<=dps ds+1;simp only [PyData.depth];have:=T1 ds;omega
 | .scr _=>by show PyData.depth .none<=_;simp [PyData.depth]
 | .ref _=>by show PyData.depth .none<=_;simp [PyData.depth]
theorem T1:∀ ds:List D,PyData.depthAll (pys ds)<=dps ds
 | []=>by show PyData.depthAll []<=0;simp [PyData.depthAll]
 | d :: ds=>by
  have:=O5 d;have:=T1 ds;show PyData.depthAll (py d :: pys ds)<=max (dp d) (dps ds);simp only [PyData.depthAll];omega
end
theorem qU {i:Int} (h:i.natAbs<=M9 j) (hj:j<=1000):decide (i.natAbs.log2<1920)=true:=by
 refine EO ?_;by_cases z:i.natAbs=0
 ·rw [z];decide
 ·have:i.natAbs<2 ^ 140:=by unfold M9 at h;omega
  have:=(Nat.log2_lt z).mpr this;omega
mutual
theorem cy (f:j<=1000):∀ d:D,Pln j d->(py d).showable=true/\(py d).hasDict=false/\(py d).shown.length<=sz d
 | .non,_=>⟨rfl,rfl,by show (PyData.shown .none).length<=5;decide⟩
 | .bl b,_=>⟨rfl,rfl,by show (PyData.shown (.bool b)).length<=5;cases b <;> decide⟩
 | .int i,h=>⟨qU h f,rfl,by
   have h:i.natAbs<=M9 j:=h;have e:=int_text_length_le10 (k:=40) (a:=i) (by decide) (by unfold M9 at h;omega);show (Str.ofString (toString i)).length<=60;rw [PySem.ofString_length];omega⟩
 | .str x,h=>⟨rfl,rfl,by
   show (PyData.shown (.str x)).length<=10 * x.length+2;rw [PyData.shown_str];exact StrLaws.reprText_len x λc m=>by have:=h.2 c m;omega⟩
 | .tup ds,h=>by
  obtain ⟨a,b,c⟩:=Z3 f ds h;refine ⟨by show PyData.showable (.tuple (pys ds))=true;simp only [PyData.showable];exact a,by show PyData.hasDict (.tuple (pys ds))=false;simp only [PyData.hasDict];exact b,?_⟩;have g:=tupleText_len_le (PyData.shownAll (pys ds));have l:=Go (pys ds);show (PyData.shown (.tuple (pys ds))).length<=szs ds+3;simp only [PyData.shown];omega
 | .lst ds,h=>by
  obtain ⟨a,b,c⟩:=Z3 f ds h;refine ⟨by show PyData.showable (.list (pys ds))=true;simp only [PyData.showable];exact a,by show PyData.hasDict (.list (pys ds))=false;simp only [PyData.hasDict];exact b,?_⟩;have g:=listText_len_le (PyData.shownAll (pys ds));have l:=Go (pys ds);show (PyData.shown (.list (pys ds))).length<=szs ds+3;simp only [PyData.shown];omega
 | .scr _,h=>h.elim
 | .ref _,h=>h.elim
theorem Z3 (hj:j<=1000):∀ ds:List D,Plns j ds->PyData.showableAll (pys ds)=true/\PyData.hasDictAll (pys ds)=false/\((PyData.shownAll (pys ds)).map (·.length)).sum+2 * (pys ds).length<=szs ds
 | [],_=>⟨rfl,rfl,by show ((PyData.shownAll []).map (·.length)).sum+2 * 0<=0;simp [PyData.shownAll]⟩
 | d :: ds,h=>by
  obtain ⟨a,b,c⟩:=cy hj d h.1;obtain ⟨a2,b2,c2⟩:=Z3 hj ds h.2;refine ⟨by show PyData.showableAll (py d :: pys ds)=true;simp only [PyData.showableAll,a,a2,HI],by show PyData.hasDictAll (py d :: pys ds)=false;simp only [PyData.hasDictAll,b,b2,Bool.or_self],?_⟩;show ((PyData.shownAll (py d :: pys ds)).map (·.length)).sum+2 * (py d :: pys ds).length<=sz d+2+szs ds;simp only [PyData.shownAll,Fb,List.sum_cons,Fy];omega
end
structure Any (j N:Nat) (d:D):Prop where
 pl:Pln j d
 dp:dp d<=3+j
 sz:sz d<=N
theorem pJ (h:Any j N d) (i:j<=40) (g:N<=10000000) (S:Sto):u8 d S=.ok (.str (py d).shown) S:=by
 obtain ⟨a,b,c⟩:=cy (by omega) d h.pl;have e:=cN S d 64 h.pl (by have:=h.dp;omega);have f:u8 d S=(match i5 64 S d with
  | some p=>(if Shows p then ret (D.str p.shown) else bad) S
  | none=>.bad):=rfl
 rw [f,e];show (if Shows (py d) then ret (D.str (py d).shown) else bad) S=_;rw [if_pos ⟨a,b,by have:=O5 d;have:=h.dp;omega,by have:=h.sz;rw [Fj];omega⟩];rfl
mutual
noncomputable def plB:D->Bool
 | .non=>true
 | .bl _=>true
 | .int i=>decide (i.natAbs<=M9 0)
 | .str x=>decide (x.length<=45)&&x.cps.toList.all (· < 128)
 | .tup ds=>mN ds
 | .lst ds=>mN ds
 | .scr _=>false
 | .ref _=>false
noncomputable def mN:List D->Bool
 | []=>true
 | d :: ds=>plB d&&mN ds
end
mutual
theorem fm:∀ d:D,plB d=true->Pln 0 d
 | .non,_=>trivial
 | .bl _,_=>trivial
 | .int i,h=>by
  have h:decide (i.natAbs<=M9 0)=true:=h;exact (Ge h:i.natAbs<=M9 0)
 | .str x,h=>by
  have h:(decide (x.length<=45)&&x.cps.toList.all (· < 128))=true:=h;rw [Ey,Fh,Fa] at h;exact ⟨h.1,λc hc=>Ge (h.2 c hc)⟩
 | .tup ds,h=>cI ds h
 | .lst ds,h=>cI ds h
 | .scr _,h=>Bool.noConfusion h
 | .ref _,h=>Bool.noConfusion h
theorem cI:∀ ds:List D,mN ds=true->Plns 0 ds
 | [],_=>trivial
 | d :: ds,h=>by
  have h:(plB d&&mN ds)=true:=h;rw [Ey] at h;exact ⟨fm d h.1,cI ds h.2⟩
end
def smB (n N:Nat) (d:D):Bool:=plB d&&decide (dp d<=n)&&decide (sz d<=N)
theorem gc (h:smB n N d=true):Pln 0 d/\dp d<=n/\sz d<=N:=by
 unfold smB at h;rw [Ey,Ey,Fh,Fh] at h;exact ⟨fm d h.1.1,h.1.2,h.2⟩
theorem Pln.ups {d:D} (h:Pln 0 d):Pln j d:=by
 induction j with
 | zero=>exact h
 | succ j a=>exact a.up
theorem cp (n:Nat) (S:Sto):∀ ns:List Int,h9 (i5 (n+1) S) (ns.map D.int)=some (ns.map PyData.int)
 | []=>rfl
 | b :: a=>by
  have e:i5 (n+1) S (.int b)=some (.int b):=rfl;simp only [Fb,h9,e,cp n S a]
theorem cU:∀ ns:List Int,PyData.canLayAll0 (ns.map PyData.int)=true
 | []=>rfl
 | b :: a=>by simp only [Fb,PyData.canLayAll0,PyData.canLay0,cU a,HI]
theorem Z0 {i:Nat} (h:i<=ds.length):F8 ds none (some (i:Int))=ds.take i:=by
 have e:HT.sIx ds.length ds.length (some (i:Int))=i:=by
  show (if (i:Int)<0 then ((i:Int)+(ds.length:Int)).toNat else min (i:Int).toNat ds.length)=i;rw [if_neg (by omega)];simp;omega
 unfold F8;rw [e,HT.sIx_none];simp
theorem oz {i:Nat} (h:i<=ds.length):F8 ds (some (i:Int)) none=ds.drop i:=by
 have e:HT.sIx ds.length 0 (some (i:Int))=i:=by
  show (if (i:Int)<0 then ((i:Int)+(ds.length:Int)).toNat else min (i:Int).toNat ds.length)=i;rw [if_neg (by omega)];simp;omega
 unfold F8;rw [e,HT.sIx_none];rw [List.take_of_length_le (by simp)]
theorem cat_tup (h:xs.length+ys.length<=sizeLine):i9 (.tup xs) (.tup ys) S=.ok (.tup (xs++ys)) S:=by
 show (if xs.length+ys.length<=sizeLine then ret (D.tup (xs++ys)) else bad) S=_;rw [if_pos h];rfl
theorem p7 (ds:List D) (S:Sto):k8 (.tup ds) S=.ok (.int ds.length) S:=rfl
theorem iZ (ds:List D) (S:Sto):N5 (.tup ds) S=.ok (F9 ds,ds.length+1) S:=rfl
theorem U0 {n:Nat} (h:n<1000) (S:Sto):J7 [.int (n:Int)] S=.ok (gF 0 n,n+1) S:=by
 unfold J7;have a:(n:Int)<1000:=by omega
 have b:(0:Int)<=n:=by omega
 have c:-(2 ^ 62)<=(n:Int)/\(n:Int)<2 ^ 62:=⟨Int.le_trans (by decide) b,Int.lt_trans a (by decide)⟩;simp only [if_pos c,HE];rfl
theorem y9 {i:Nat} {d:D} (S:Sto) (h:ds[i]?=some d):ixD (.tup ds) (.int (i:Int)) S=.ok d S:=by
 show dD (atI ds (i:Int)) S=_;rw [X1 h];rfl
theorem D3 {i:Nat} {d:D} (S:Sto) (h:ds[i]?=some d):ixD (.lst ds) (.int (i:Int)) S=.ok d S:=by
 show dD (atI ds (i:Int)) S=_;rw [X1 h];rfl
theorem gQ {i n:Nat} {d:D} {S:Sto} (e:S[n]?=some (.lst ds)) (h:ds[i]?=some d):ixD (.ref n) (.int (i:Int)) S=.ok d S:=by
 simp only [ixD,e,X1 h];rfl
theorem wy (n i:Nat) (S:Sto):gF 0 n i S=some ((List.range n).map λ(k:Nat)=>D.int (k:Int))[i]?:=by
 show some (if i<n then some (D.int (0+i)) else none)=_;grind
theorem vW (e:S[n]?=some (.lst ds)) (i:Nat):gA n i S=some ds[i]?:=by
 simp only [gA,e]
theorem d7 {α β:Type} {f:α->β} {l:List α} {i:Nat} {a:α} (h:l[i]?=some a):(l.map f)[i]?=some (f a):=by rw [Fq,h];rfl
theorem pE (x:Int):∀ ns:List Int,((ns.map PyData.int).any λy=>PyData.eqv y (.int x))=decide (x∈ns)
 | []=>by simp
 | y :: ns=>by
  simp only [Fb,GL,pE x ns,PyData.eqv];rw [GO,HW,Fh,Fh,EU];constructor
  ·grind
  ·grind
def Ex (S S':Sto):Prop:=∃ T,S'=S++T
theorem Ex.at {S S':Sto} (h:Ex S S') {q:Nat} (hq:q<S.length):S'[q]?=S[q]?:=by
 obtain ⟨t,rfl⟩:=h;rw [EJ hq]
theorem pQ (e:S[n]?=some (.lst es)):lstOf (.ref n) S=.ok es S:=by simp only [lstOf,e]
theorem aP (e:S[n]?=some (.lst es)):k8 (.ref n) S=.ok (.int es.length) S:=by simp only [k8,e]
theorem mz {y:D} (e:S[n]?=some (.lst es)) (a:es.length<sizeLine):Q9 (.ref n) [y] S=.ok .non (S.set n (.lst (es++[y]))):=by simp only [Q9,e,if_pos a]
def Fw (ns:List Int) (p N:Nat) (S:Sto):Prop:=∃ a l t:Int,S[p]?=some (k5 ns a l t)/\0<=a/\0<=l/\0<=t/\t+N<1000000
theorem Fw.less {p N K:Nat} {S:Sto} (h:Fw ns p N S) (g:K<=N):Fw ns p K S:=by
 obtain ⟨a,l,t,e,b,d,c,f⟩:=h;exact ⟨a,l,t,e,b,d,c,by omega⟩
theorem Fw.keep (h:Fw ns p N S) (e:S'[p]?=S[p]?):Fw ns p N S':=by
 obtain ⟨a,l,t,c,b⟩:=h;exact ⟨a,l,t,by rw [e];exact c,b⟩
theorem Fw.lt (h:Fw ns p N S):p<S.length:=by
 obtain ⟨a,l,t,e,_⟩:=h;grind
theorem Fw.push (h:Fw ns p N S) (o:O):Fw ns p N (S++[o]):=h.keep (by rw [EJ h.lt])
theorem pg {ns:List Int} {p N m:Nat} {S:Sto} (h:Fw ns p (N+1) S) (hm:0<m) (hm2:m<1073741824):Ok (il (.ref p) (.int (m:Int))) S λd S'=>∃ r:Nat,d=.int (r:Int)/\r<m/\Fw ns p N S'/\S'.length=S.length/\∀ q,q≠p->S'[q]?=S[q]?:=by
 obtain ⟨a,l,t,e,h1,h2,h3,h4⟩:=h;obtain ⟨r,a',l',e1,r0,r1,ha,hl⟩:=pS (m:=(m:Int)) e h1 h2 h3 (by omega) (by omega) (by omega);obtain ⟨r,rfl⟩:=GW r0;refine ⟨_,_,e1,r,rfl,by omega,⟨a',l',t+1,?_,ha,hl,by omega,by omega⟩,by simp,λq hq=>?_⟩
 ·rw [Fg (Et.mp e).1]
 ·rw [ER (Ne.symm hq)]
def Xn {a:Type} (m:M a) (S:Sto) (Q:Nat->Sto->Prop):Prop:=∃ n S',m S=.exn n S'/\Q n S'
theorem Xn.bind {k:α->M β} {S:Sto} {Q:Nat->Sto->Prop} (h:Xn m S Q):Xn (L3.bind m k) S Q:=by
 obtain ⟨n,S',e,q⟩:=h;exact ⟨n,S',by unfold L3.bind;rw [e],q⟩
theorem Xn.ok {k:α->M β} {S:Sto} {Q:Nat->Sto->Prop} (h:Ok m S λa S1=>Xn (k a) S1 Q):Xn (L3.bind m k) S Q:=by
 obtain ⟨a,S1,e,n,S',b,q⟩:=h;exact ⟨n,S',by unfold L3.bind;rw [e];exact b,q⟩
theorem Xn.cg (e:m=m') (h:Xn m' S Q):Xn m S Q:=e▸h
theorem Ok.nx (h:Ok m S Q):Ok (L3.nx m) S Q:=by
 obtain ⟨a,S1,e,q⟩:=h;exact ⟨a,S1,by unfold L3.nx;rw [e],q⟩
theorem Ok.try_ {b:Nat->Bool} {c:Option Nat} {ρ:L3.Env} {S:Sto} {Q:Fl->Sto->Prop} (k:Ok (g ρ) S Q):Ok (V8 g b c h ρ) S Q:=by
 obtain ⟨a,S1,e,q⟩:=k;exact ⟨a,S1,by unfold V8;rw [e],q⟩
theorem Ok.caught {a:Nat->Bool} {b:Option Nat} {ρ:L3.Env} {S:Sto} {Q:Fl->Sto->Prop} (k:Xn (g ρ) S λn S1=>∃ c fs,S1[n]?=some (.exc c fs)/\a c=true/\Ok (h (lg b n ρ)) S1 λd S2=>Q (jO b d) S2):Ok (V8 g a b h ρ) S Q:=by
 obtain ⟨n,S1,e,c,fs,j,hs,i⟩:=k;obtain ⟨d,S2,f,q⟩:=i;refine ⟨jO b d,S2,?_,q⟩;unfold V8;rw [e];simp only [j,hs,Ib];unfold L3.bind L3.nx;rw [f];rfl
theorem du (q:EvK) (b:Lc) (st:Stmt) (a:List Stmt) (ρ:L3.Env) (k:Fl->M α):i6 q b (st :: a) ρ k=q.s b st ρ (λc=>match c with
  | .nx d=>i6 q b a d k
  | c=>k c):=rfl
def nxt {d:Type} (q:EvK) (e:Lc) (c:List Stmt) (k:Fl->M d):Fl->M d:=λb=>match b with
 | .nx a=>i6 q e c a k
 | b=>k b
section
variable {α:Type} {q:EvK} {lc:Lc} {st:Stmt} {sts:List Stmt} {ρ:L3.Env} {k:Fl->M α} {S:Sto} {Q:α->Sto->Prop} {P:Nat->Sto->Prop}
theorem Ok.first (h:Ok (q.s lc st ρ (nxt q lc sts k)) S Q):Ok (i6 q lc (st :: sts) ρ k) S Q:=h
theorem Ok.nxt (h:Ok (q.s lc st ρ (L3.nxt q lc sts k)) S Q):Ok (L3.nxt q lc (st :: sts) k (.nx ρ)) S Q:=h
theorem Xn.first (h:Xn (q.s lc st ρ (nxt q lc sts k)) S P):Xn (i6 q lc (st :: sts) ρ k) S P:=h
theorem Xn.nxt (h:Xn (q.s lc st ρ (L3.nxt q lc sts k)) S P):Xn (L3.nxt q lc (st :: sts) k (.nx ρ)) S P:=h
theorem Ok.pos [Decidable c] {a b:M α} (h:c) (k:Ok a S Q):Ok (if c then a else b) S Q:=by rw [if_pos h];exact k
theorem Ok.neg [Decidable c] {a b:M α} (h:¬ c) (k:Ok b S Q):Ok (if c then a else b) S Q:=by rw [if_neg h];exact k
theorem Xn.pos [Decidable c] {a b:M α} (h:c) (k:Xn a S P):Xn (if c then a else b) S P:=by rw [if_pos h];exact k
theorem Xn.neg [Decidable c] {a b:M α} (h:¬ c) (k:Xn b S P):Xn (if c then a else b) S P:=by rw [if_neg h];exact k
end
def fin {b:Type} (κ:Fl->M b):Fl->M b:=λa=>match a with
 | .nx ρ=>κ (.nx ρ)
 | a=>κ a
theorem Xn.cgS (e:m S=m' S) (h:Xn m' S Q):Xn m S Q:=by
 obtain ⟨n,S1,a,q⟩:=h;exact ⟨n,S1,by rw [e];exact a,q⟩
theorem Xn.eq {k:α->M β} {S S1:Sto} {a:α} {Q:Nat->Sto->Prop} (e:m S=.ok a S1) (h:Xn (k a) S1 Q):Xn (L3.bind m k) S Q:=Xn.ok ⟨a,S1,e,h⟩
theorem Xn.mono (h:Xn m S Q) (i:∀ n S1,Q n S1->Q' n S1):Xn m S Q':=by
 obtain ⟨n,S1,e,q⟩:=h;exact ⟨n,S1,e,i _ _ q⟩
theorem G5 {i:Nat} {x:D} {S:Sto} (h:i<ds.length) (n:ds.length<=1000) :
  Ok (bind (bG (.int (i:Int))) λc=>bind (slD (.tup ds) none c) λk=>bind (i9 k (.tup [x])) λb=>bind (i9 (.int (i:Int)) (.int 1)) λj=>bind (bG j) λf=>bind (slD (.tup ds) f none) λx6=>bind (i9 b x6) λx7=>ret x7) S λd S'=>d=.tup (ds.set i x)/\S'=S:=by
 have m:(1001:Nat)<=sizeLine:=by decide
 have e:((i:Int)+1)=((i+1:Nat):Int):=by omega
 have l:F8 ds none (some (i:Int))=ds.take i:=Z0 (by omega);have g:F8 ds (some ((i:Int)+1)) none=ds.drop (i+1):=by rw [e];exact oz (by omega)
 refine Ok.eq rfl (Ok.eq (a:=.tup (ds.take i)) (by rw [<- l];rfl) (Ok.eq (cat_tup (by simp;omega)) (Ok.eq rfl (Ok.eq rfl (Ok.eq (a:=.tup (ds.drop (i+1))) (by rw [<- g];rfl) (Ok.eq (cat_tup (by simp;omega)) (Ok.ret ⟨?_,rfl⟩)))))));rw [List.set_eq_take_append_cons_drop,if_pos h,HC];rfl
theorem nxb {k:α->M β} {S S':Sto} {a:α} (e:m S=.ok a S'):L3.bind (L3.nx m) k S=k a S':=a9 (by unfold L3.nx;rw [e])
theorem ir (S:Sto) (a b:O):(S++[a]).set S.length b=S++[b]:=by simp
theorem wm {r:Nat} (h:r<100):Pln 0 (.int (r:Int)):=by
 show ((r:Int)).natAbs<=M9 0;have:M9 0≥100:=by decide +kernel
 omega
theorem cF:∀ {ds:List D},(∀ d∈ds,sz d<=n)->szs ds<=(n+2) * ds.length
 | [],_=>EI _
 | d :: ds,h=>by
  have c:=h d (by simp);have b:=cF (ds:=ds) λx a=>h x (by simp [a]);show sz d+2+szs ds<=(n+2) * (ds.length+1);rw [Nat.mul_add];omega
theorem zU (e:S[n]?=some (.lst ds)):O1 (.ref n) S=.ok (.tup ds) S:=a9 (by simp only [V4,lstOf,e])
theorem mw (ns:List Int):∃ ms:List Int,F8 (ns.map D.int) none (some 63)=ms.map D.int:=⟨(ns.drop (HT.sIx ns.length 0 none)).take (HT.sIx ns.length ns.length (some 63)-HT.sIx ns.length 0 none),by simp [F8,List.map_drop,Ia]⟩
theorem zL (h:n<=6):n<sizeLine:=Nat.lt_of_le_of_lt h (by decide)
theorem K6 (n:Nat) (S:Sto):gF 0 n n S=some none:=by
 show some (if n<n then _ else none)=some none;grind
theorem T5 {n i:Nat} (h:i<n) (S:Sto):gF 0 n i S=some (some (.int (i:Int))):=by rw [wy,d7 (List.getElem?_range h)]
structure Sml (n N:Nat) (d:D):Prop where
 pl:Pln 0 d
 dp:dp d<=n
 sz:sz d<=N
def Smls (n N:Nat) (ds:List D):Prop:=∀ d∈ds,Sml n N d
theorem Smls.nil:Smls n N []:=λd h=>by cases h
theorem Smls.cons (h:Sml n N d) (hs:Smls n N ds):Smls n N (d :: ds):=λx a=>by
 rcases EU.mp a with z | z
 ·rw [z];exact h
 ·exact hs x z
theorem Smls.map {b:Type} {n N:Nat} {f:b->D} {l:List b} (h:∀ a∈l,Sml n N (f a)):Smls n N (l.map f):=λx c=>by
 obtain ⟨a,d,rfl⟩:=List.mem_map.mp c;exact h a d
theorem Sml.mono {d:D} (h:Sml n N d) (b:n<=n') (a:N<=N'):Sml n' N' d:=⟨h.pl,Fk h.dp b,Fk h.sz a⟩
theorem Sml.up {n N a N':Nat} {d:D} (h:Sml n N d) (c:n<=a:=by decide) (b:N<=N':=by decide):Sml a N' d:=h.mono c b
theorem Sml.tup {ds:List D} (h:Smls n N ds) (a:ds.length<=m):Sml (n+1) ((N+2) * m+3) (.tup ds):=by
 have s:=cF λd hd=>(h d hd).sz;have b:=gX λd hd=>(h d hd).dp;refine ⟨Plns.of λd hd=>(h d hd).pl,by show dps ds+1<=n+1;omega,?_⟩;show szs ds+3<=_;have:=Nat.mul_le_mul_left (N+2) a;omega
theorem Sml.lst {ds:List D} (h:Smls n N ds) (a:ds.length<=m):Sml (n+1) ((N+2) * m+3) (.lst ds):=by
 have s:=cF λd hd=>(h d hd).sz;have b:=gX λd hd=>(h d hd).dp;refine ⟨Plns.of λd hd=>(h d hd).pl,by show dps ds+1<=n+1;omega,?_⟩;show szs ds+3<=_;have:=Nat.mul_le_mul_left (N+2) a;omega
theorem Sml.nat {n N i:Nat} (h:i<100) (a:60<=N:=by decide):Sml n N (.int (i:Int)):=⟨wm h,FU _,a⟩
theorem Sml.big {n N i:Nat} (h:i<=10000000000) (a:60<=N:=by decide):Sml n N (.int (i:Int)):=⟨by
 show ((i:Int)).natAbs<=M9 0;have:M9 0≥10000000000:=by decide +kernel
 omega,FU _,a⟩
theorem Sml.non {n N:Nat} (a:5<=N:=by decide):Sml n N .non:=⟨trivial,FU _,a⟩
theorem Sml.bl {n N:Nat} {b:Bool} (a:5<=N:=by decide):Sml n N (.bl b):=⟨trivial,FU _,a⟩
theorem Sml.w (h:smB n N d=true:=by decide +kernel):Sml n N d:=⟨(gc h).1,(gc h).2.1,(gc h).2.2⟩
theorem Sml.any (h:Sml n N d) (hn:n<=43):Any 40 N d:=⟨h.pl.ups,by have:=h.dp;omega,h.sz⟩
theorem Sml.repr (h:Sml n N d) (a:n<=43:=by decide) (b:N<=10000000:=by decide) (S:Sto):u8 d S=.ok (.str (py d).shown) S:=pJ (h.any a) (by omega) b S
theorem O9 (a b:Int) (S:Sto):c8 .Eq (.int a) (.int b) S=.ok (.bl (decide (a=b))) S:=rfl
theorem AK (a b:Int) (S:Sto):c8 .LtE (.int a) (.int b) S=.ok (.bl (decide (a<=b))) S:=rfl
theorem bi (a b:Int) (S:Sto):c8 .Lt (.int a) (.int b) S=.ok (.bl (decide (a<b))) S:=rfl
theorem ng (a b:Int) (S:Sto):c8 .GtE (.int a) (.int b) S=.ok (.bl (decide (b<=a))) S:=rfl
theorem vk (a b:Int) (S:Sto):c8 .Gt (.int a) (.int b) S=.ok (.bl (decide (b<a))) S:=rfl
theorem D6 (a b:Nat) (S:Sto):i9 (.int (a:Int)) (.int (b:Int)) S=.ok (.int ((a+b:Nat):Int)) S:=by
 show R.ok (D.int ((a:Int)+(b:Int))) S=_;grind
theorem M7 {a b:Nat} (h:b<=a) (S:Sto):az (.int (a:Int)) (.int (b:Int)) S=.ok (.int ((a-b:Nat):Int)) S:=by
 show R.ok (D.int ((a:Int)-(b:Int))) S=_;grind
theorem nx_bind {k:α->M β} {S:Sto} {Q:β->Sto->Prop} (h:Ok m S λa S1=>Ok (k a) S1 Q):Ok (L3.bind (L3.nx m) k) S Q:=Ok.bind (Ok.nx h)
theorem d5 (h:Ok m S λd S'=>d=a/\S'=S):m S=.ok a S:=by
 obtain ⟨d,S',e,rfl,rfl⟩:=h;exact e
theorem raise_k {κ:Fl->M α} (b:ds.length=fs.length) (a:ds.all (B0 S)=true):Xn (L3.bind (L7 c fs ds) λd=>L3.bind (w5 d) κ) S λn S'=>n=S.length/\S'=S++[.exc c (fs.zip ds)]:=by
 refine Xn.ok ⟨_,_,xY b a,Xn.bind ⟨S.length,S++[.exc c (fs.zip ds)],?_,rfl,rfl⟩⟩;simp [w5]
theorem Ok.loop {n:Nat} (I:Nat->L3.Env->Sto->Prop) (f:∀ ρ S,I n ρ S->src n S=some none)
  (e:∀ i ρ S,i<n->I i ρ S->∃ d b,src i S=some (some d)/\tg d ρ=some b/\Ok (body b) S λc S'=>∃ a,(c=.nx a\/c=.ct a)/\I (i+1) a S') {ρ:L3.Env} {S:Sto} (h:I 0 ρ S) :
  Ok (z0 src tg body (n+1) 0 ρ) S λc S'=>∃ a,c=.nx a/\I n a S':=by
 refine (Ok.for_ I (λ_ _=>False) (λ_ _=>False) f (λi ρ S l h=>?_) n 0 ρ S (by omega) h).mono ?_
 ·obtain ⟨d,b,g,j,k⟩:=e i ρ S l h;refine ⟨d,b,g,j,k.mono ?_⟩;rintro c S' ⟨a,rfl | rfl,q⟩
  ·exact q
  ·exact q
 ·grind
theorem lZ:∀ ns:List Int,PyData.depthAll (ns.map PyData.int)<=1
 | []=>by simp [PyData.depthAll]
 | n :: ns=>by
  have:=lZ ns;simp only [Fb,PyData.depthAll,PyData.depth];omega
theorem lV:∀ a b:List Int,PyData.eqvAll (a.map PyData.int) (b.map PyData.int)=decide (a=b)
 | [],[]=>rfl
 | [],_ :: _=>rfl
 | _ :: _,[]=>rfl
 | x :: a,y :: b=>by
  simp only [Fb,PyData.eqvAll,PyData.eqv,lV a b];by_cases h:x=y
  ·subst h;simp
  ·simp [h]
theorem tU (a b:List Int) (S:Sto):c8 .Eq (.lst (a.map D.int)) (.lst (b.map D.int)) S=.ok (.bl (decide (a=b))) S:=by
 show eqP false (.lst (a.map D.int)) (.lst (b.map D.int)) S=_;have e:∀ ns:List Int,i5 64 S (.lst (ns.map D.int))=some (.list (ns.map PyData.int)):=λns=>by
  show (h9 (i5 63 S) (ns.map D.int)).map PyData.list=_;rw [cp 62 S ns];rfl
 unfold eqP;rw [e,e];show (if PyData.canLay0 (.list (a.map PyData.int))=true/\PyData.canLay0 (.list (b.map PyData.int))=true/\min (PyData.depth (.list (a.map PyData.int))) (PyData.depth (.list (b.map PyData.int)))<=60 then ret (D.bl (PyData.eqv (.list (a.map PyData.int)) (.list (b.map PyData.int)))) else bad) S=_;have hd:PyData.depth (.list (a.map PyData.int))<=60:=by
  have:=lZ a;simp only [PyData.depth];omega
 rw [if_pos ⟨by simp only [PyData.canLay0];exact cU a,by simp only [PyData.canLay0];exact cU b,by omega⟩];show R.ok (D.bl (PyData.eqvAll (a.map PyData.int) (b.map PyData.int))) S=_;rw [lV]
def rM0 (m:Str) (op:D->M D) (ok:∀ {T:Tx} {k:Nat} {lc:Lc} {X:Cx} {xe:Addr->Hp->Prop} {o:Expr} {apos cpos:Pos} {f:Env->M D},CxOk T k lc X->PE X o (tD X.K T.cl xe f)->p9 o=true->(apos.endLine==cpos.line)=true->PE X (.Call (.Attribute o m apos) [] [] cpos) (tD X.K T.cl xe λρ=>bind (f ρ) op)):RuE where
 is _ _ e:=match e with
  | .Call (.Attribute o n apos) [] [] cpos=>decide (n=m)&&p9 o&&(apos.endLine==cpos.line)
  | _=>false
 run r _ _ lc e ρ:=match e with
  | .Call (.Attribute o _ _) [] [] _=>bind (r.e lc o ρ) op
  | _=>bad
 ok {T k r Γ C lc X} e R TX h hi:=by
  split at hi
  ·simp only [Ey,Fh] at hi;obtain ⟨⟨rfl,h1⟩,h2⟩:=hi;exact ok h (R.ex h _) h1 h2
  ·cases hi
 runK q _ _ lc e ρ _ k:=match e with
  | .Call (.Attribute o _ _) [] [] _=>q.e lc o ρ λx=>bind (op x) k
  | _=>bad
 eq e ρ _ k h:=by
  split
  ·simp only [h.e,bind_assoc]
  ·first
   | rfl
   | (rename_i hn;split;exact (hn _ _ _ _ rfl).elim;rfl)
section
variable {K:PySem.W.Frag} {μ:Mp} {H:Hp}
mutual
theorem mI:∀ (d:D) {v:V} {q:PyData},kP d=some q->RD K μ H d v->DAt K H v q/\HT.kDHt q=true
 | .non,_,_,e,r=>by cases r;cases e;exact ⟨.non,rfl⟩
 | .bl b,_,_,e,r=>by cases r;cases e;exact ⟨.bl b,rfl⟩
 | .int i,_,_,e,r=>by cases r;cases e;exact ⟨.int i,rfl⟩
 | .str x,_,_,e,r=>by cases r;cases e;exact ⟨.str x,rfl⟩
 | .tup ds,_,q,e,r=>by
  rw [kP] at e;obtain ⟨ps,e1,rfl⟩:=FS.mp e;cases r with
  | tup h rs=>
   obtain ⟨a,b⟩:=lh ds e1 rs;exact ⟨.tup h.sq a,by rw [HT.kDHt];exact b⟩
 | .lst _,_,_,e,_=>by cases e
 | .scr _,_,_,e,_=>by cases e
 | .ref _,_,_,e,_=>by cases e
theorem lh:∀ (ds:List D) {vs:List V} {qs:List PyData},kPs ds=some qs->RDs K μ H ds vs->DAll K H vs qs/\HT.kDsHt qs=true
 | [],_,_,e,r=>by cases r;cases e;exact ⟨.nil,rfl⟩
 | d :: ds,_,qs,e,r=>by
  rw [kPs] at e;cases r with
  | cons r1 r2=>
   cases e1:kP d with
   | none=>rw [e1] at e;cases e
   | some p=>
    cases e2:kPs ds with
    | none=>rw [e1,e2] at e;cases e
    | some ps=>
     rw [e1,e2] at e;cases e;obtain ⟨a,b⟩:=mI d e1 r1;obtain ⟨a2,b2⟩:=lh ds e2 r2;exact ⟨.cons a a2,by rw [HT.kDsHt,b,b2];rfl⟩
end
end
section
variable {X:Cx} {μ:Mp} {H:Hp} {s:Shared} {pins:List (Addr×Obj)} {σ:L2.St}
theorem cj {d:D} {k:PyData} (e:q9 d=some k):∃ ps,kP d=some (.tuple ps)/\(PyData.tuple ps).canLay0=true/\(PyData.tuple ps).depth<=6/\HT.nrmHt (.tuple ps)=k:=by
 unfold q9 at e;split at e
 ·rename_i ps e1;split at e
  ·rename_i c;cases e;exact ⟨ps,e1,c.1,c.2,rfl⟩
  ·cases e
 ·cases e
theorem X4 (I:Inv X pins σ H s) {d:D} {k:PyData} {b:Addr} (e:q9 d=some k) (r:RD X.K μ H d (.ref b)):(HT.keyK X.prog X.w).is s.heap k b:=by
 obtain ⟨ps,e1,e2,e3,e4⟩:=cj e;obtain ⟨a,c⟩:=mI d e1 r;obtain ⟨as,rd⟩:=a.reads I (u:=.ref b) rfl;exact ⟨_,as,rd,c,e2,e3,e4⟩
theorem Z6 {d:D} {k:PyData} {v:V} (e:q9 d=some k) (r:RD X.K μ H d v):∃ b,v=.ref b:=by
 obtain ⟨ps,e1,_⟩:=cj e;cases r with
 | tup _ _=>exact ⟨_,rfl⟩
 | non=>cases e1
 | bl _=>cases e1
 | int _=>cases e1
 | str _=>cases e1
 | lst _ _=>cases e1
 | scr _ _=>cases e1
 | ref _=>cases e1
def XAt (X:Cx) (μ:Mp) (H:Hp) (p:D×D) (x:PyData×Addr×Value):Prop:=q9 p.1=some x.1/\RD X.K μ H p.1 (.ref x.2.1)/\∃ v,RelV v x.2.2/\RD X.K μ H p.2 v
theorem pa:∀ {kvs:List (D×D)} {es:List DictEntry},Paired (jR X.K X.w μ H) kvs es->∃ xs:List (PyData×Addr×Value),es=xs.map (entryOfKey (HT.keyK X.prog X.w))/\Paired (XAt X μ H) kvs xs
 | _,_,.nil=>⟨[],rfl,.nil⟩
 | _,_,.cons (b:=e) ⟨b,v,q,a1,a2,a3,a4,a5,a6⟩ t=>by
  obtain ⟨xs,e1,e2⟩:=pa t;refine ⟨(q,b,e.val) :: xs,?_,.cons ⟨a3,a2,v,a5,a6⟩ e2⟩;rw [Fb,<- e1];congr 1;obtain ⟨h,k,u⟩:=e;have a1:k=.ref b:=a1;have a4:h=HT.hTHt X.w q:=a4;rw [a1,a4];rfl
theorem lm:∀ {kvs:List (D×D)} {xs:List (PyData×Addr×Value)},Paired (XAt X μ H) kvs xs->Paired (jR X.K X.w μ H) kvs (xs.map (entryOfKey (HT.keyK X.prog X.w)))
 | _,_,.nil=>.nil
 | _,_,.cons ⟨a1,a2,v,a3,a4⟩ t=>.cons ⟨_,v,_,rfl,a2,a1,rfl,a3,a4⟩ (lm t)
theorem pY:∀ {kvs:List (D×D)} {xs:List (PyData×Addr×Value)},Paired (XAt X μ H) kvs xs->(kvs.map λp=>q9 p.1)=(xs.map (·.1)).map some
 | _,_,.nil=>rfl
 | _,_,.cons ⟨a1,_⟩ t=>by rw [Fb,Fb,Fb,pY t,a1]
theorem fz {xs:List PyData} (h:(xs.map some).Nodup):xs.Nodup:=by
 induction xs with
 | nil=>exact .nil
 | cons x xs ih=>
  rw [Fb,FF] at h;exact FF.mpr ⟨λm=>h.1 (List.mem_map.mpr ⟨x,m,rfl⟩),ih h.2⟩
theorem BF (I:Inv X pins σ H s):∀ {kvs:List (D×D)} {xs:List (PyData×Addr×Value)},Paired (XAt X μ H) kvs xs->∀ x∈xs,(HT.keyK X.prog X.w).is s.heap x.1 x.2.1
 | _,_,.nil,x,m=>by cases m
 | _,_,.cons ⟨a1,a2,_⟩ t,x,m=>by
  rcases EU.mp m with rfl | m
  ·exact X4 I a1 a2
  ·exact BF I t x m
theorem jP (I:Inv X pins σ H s) {a:Addr} {kvs:List (D×D)} {es:List DictEntry} (e:H a=some (DE a es)) (ok:uI kvs) (r:Paired (jR X.K X.w μ H) kvs es):∃ xs,s.heap.DictOfH (HT.keyK X.prog X.w) a xs/\Paired (XAt X μ H) kvs xs:=by
 obtain ⟨xs,e1,e2⟩:=pa r;obtain ⟨o,ep,h1,h2,h3⟩:=(I.hok a _ e).1;refine ⟨xs,⟨o,es.toArray,ep,h1,h2,h3,e1,BF I e2,?_⟩,e2⟩;have:=ok.2;rw [pY e2] at this;exact fz this
def F3 (kvs:List (D×D)) (k:PyData):Option D:=(kvs.find? λp=>decide (q9 p.1=some k)).map (·.2)
def kK (kvs:List (D×D)) (k:PyData) (d v:D):List (D×D):=if (F3 kvs k).isSome=true then kvs.map (λp=>if q9 p.1=some k then (p.1,v) else p) else kvs++[(d,v)]
theorem oe {k:PyData}:∀ {kvs:List (D×D)} {xs:List (PyData×Addr×Value)},Paired (XAt X μ H) kvs xs->match F3 kvs k with
  | some d=>∃ b u,atKey xs k=some (b,u)/\∃ v,RelV v u/\RD X.K μ H d v
  | none=>atKey xs k=none
 | _,_,.nil=>rfl
 | _,_,.cons (a:=p) (b:=x) ⟨a1,a2,v,a3,a4⟩ t=>by
  have ih:=oe (k:=k) t;unfold F3 atKey at ih ⊢;rw [FB,FB,a1];by_cases q:x.1=k
  ·rw [EO (show some x.1=some k by rw [q]),EO q];exact ⟨x.2.1,x.2.2,rfl,v,a3,a4⟩
  ·rw [EX (show ¬ some x.1=some k from λz=>q (Fc z)),EX q];exact ih
theorem bL {k:PyData} {kvs:List (D×D)} {xs:List (PyData×Addr×Value)} (r:Paired (XAt X μ H) kvs xs):(F3 kvs k).isSome=(atKey xs k).isSome:=by
 have:=oe (k:=k) r;cases e:F3 kvs k with
 | none=>rw [e] at this;rw [this];rfl
 | some d=>rw [e] at this;obtain ⟨b,u,e2,_⟩:=this;rw [e2];rfl
theorem iL {k:PyData} {v:D} {u:Value} {vv:V} (rv:RelV vv u) (rd:RD X.K μ H v vv):∀ {kvs:List (D×D)} {xs:List (PyData×Addr×Value)},Paired (XAt X μ H) kvs xs->Paired (XAt X μ H) (kvs.map (λp=>if q9 p.1=some k then (p.1,v) else p)) (xs.map (putAt k u))
 | _,_,.nil=>.nil
 | _,_,.cons (a:=p) (b:=x) ⟨a1,a2,w,a3,a4⟩ t=>by
  rw [Fb,Fb];refine .cons ?_ (iL rv rd t);unfold putAt;by_cases q:x.1=k
  ·rw [if_pos (by rw [a1,q])];have:(if (x.1==k)=true then (x.1,x.2.1,u) else x)=(x.1,x.2.1,u):=by rw [if_pos (by rw [q];exact beq_self_eq_true k)]
   first
   | (rw [if_pos q];exact ⟨a1,a2,vv,rv,rd⟩)
   | (rw [this];exact ⟨a1,a2,vv,rv,rd⟩)
   | (simp only [q,decide_true,Ib];exact ⟨by rw [a1,q],a2,vv,rv,rd⟩)
  ·rw [if_neg (by rw [a1];exact λz=>q (Fc z))];first
   | (rw [if_neg q];exact ⟨a1,a2,w,a3,a4⟩)
   | (simp only [q,decide_false];exact ⟨a1,a2,w,a3,a4⟩)
theorem Ac {k:PyData} {d v:D} {b:Addr} {u:Value} {vv:V} {kvs:List (D×D)} {xs:List (PyData×Addr×Value)} (r:Paired (XAt X μ H) kvs xs) (ek:q9 d=some k) (rk:RD X.K μ H d (.ref b)) (rv:RelV vv u) (rd:RD X.K μ H v vv):Paired (XAt X μ H) (kK kvs k d v) (storedH xs k b u):=by
 unfold kK storedH;rw [bL r];split
 ·exact iL rv rd r
 ·have app:∀ {l1:List (D×D)} {l2:List (PyData×Addr×Value)},Paired (XAt X μ H) l1 l2->Paired (XAt X μ H) (l1++[(d,v)]) (l2++[(k,b,u)]):=by
   intro l1 l2 h;induction h with
   | nil=>exact .cons ⟨ek,rk,vv,rv,rd⟩ .nil
   | cons h _ ih=>exact .cons h ih
  exact app r
theorem mJ {k:PyData} {d v:D} {kvs:List (D×D)} (ek:q9 d=some k) (ok:uI kvs) (hl:kvs.length<sizeLine):uI (kK kvs k d v):=by
 unfold kK;split
 ·refine ⟨by rw [Es];exact ok.1,?_⟩;rw [List.map_map];have:((λp:D×D=>q9 p.1) ∘ λp=>if q9 p.1=some k then (p.1,v) else p)=λp=>q9 p.1:=by
   funext p;show q9 (if q9 p.1=some k then (p.1,v) else p).1=_;split <;> rfl
  rw [this];exact ok.2
 ·rename_i h;refine ⟨by rw [FC,Hf];omega,?_⟩;rw [FQ,Gw];refine ⟨ok.2,by simp,λx hx y hy z=>h ?_⟩;obtain ⟨p,hp,e1⟩:=List.mem_map.mp hx;have hy:y=q9 d:=by simpa using hy
  unfold F3;rw [Gv,List.find?_isSome];exact ⟨p,hp,EO (by rw [e1,z,hy,ek])⟩
end
def Y9 (neg:Bool) (x y:D):M D:=match y with
 | .ref n=>λS=>match S[n]? with
  | some (.dcT kvs)=>(match q9 x with
   | some k=>.ok (.bl (if neg then !(F3 kvs k).isSome else (F3 kvs k).isSome)) S
   | none=>.bad)
  | _=>.bad
 | _=>bad
def M3 (x k v:D):M D:=match x with
 | .ref n=>λS=>match S[n]? with
  | some (.dcT kvs)=>(match q9 k with
   | some q=>if kvs.length<sizeLine then .ok .non (S.set n (.dcT (kK kvs q k v))) else .bad
   | none=>.bad)
  | _=>.bad
 | _=>bad
def U1 (ps:List (D×D)):M D:=match ps with
 | [(k,v)]=>λS=>(match q9 k with
  | some _=>.ok (.ref S.length) (S++[.dcT [(k,v)]])
  | none=>.bad)
 | _=>bad
section
variable {X:Cx} {cl:ClW} {xe:Addr->Hp->Prop}
theorem mK (hu:X.A.units+80<cLine):(HT.keyK X.prog X.w).room X.A.in1:=by
 show X.A.units+1+8<cLine;omega
theorem vE (neg:Bool) (hu:X.A.units+80<cLine) (hw:cl.w=X.w):OpR X (compareOp (if neg then .NotIn else .In)) (rP2 X.K cl xe (Y9 neg)):=by
 intro pins s σ H x y v u Q I rx ry ⟨μ,S,d,e,rd,re,rp,p⟩;cases re <;> try (exact False.elim p)
 rename_i n a h;simp only [Y9] at p;cases q1:S[n]? with
 | none=>rw [q1] at p;exact p.elim
 | some o=>
  rw [q1] at p;cases o with
  | lst _=>exact p.elim
  | exc _ _=>exact p.elim
  | dct _=>exact p.elim
  | dcT kvs=>
   obtain ⟨es,h1,h2,h3,h4⟩:=rp.ats n _ a q1 h;rw [hw] at h4;dsimp only at p;cases q2:q9 d with
   | none=>rw [q2] at p;exact p.elim
   | some k=>
    rw [q2] at p;dsimp only at p;obtain ⟨b,rfl⟩:=Z6 q2 rd;cases rx;cases ry;obtain ⟨xs,dd,xx⟩:=jP I h1 h3 h4;have iS:=bL (k:=k) xx;cases neg with
    | false=>exact wpAny_in_heap (mK hu) (X4 I q2 rd) h2 dd ⟨.bl _,H,I.tok _,rfl,by rw [<- iS];exact p μ H (Lat.refl _ _) rp _ (.bl _)⟩
    | true=>exact wpAny_notIn_heap (mK hu) (X4 I q2 rd) h2 dd ⟨.bl _,H,I.tok _,rfl,by rw [<- iS];exact p μ H (Lat.refl _ _) rp _ (.bl _)⟩
theorem Bl {P:Program} {w:World} {H:Hp} {h:Heap} {a:Addr} {es:List DictEntry} (e:∃ o ep,h.get? a=some o/\o.ExactDict/\o.data=.dict es.toArray ep):ObjOk P w H h a (DE a es):=by
 obtain ⟨o,ep,e1,e2,e3⟩:=e;exact ⟨⟨o,ep,e1,e2,e3⟩,⟨o,e1⟩,λh1 h2 ⟨o,ep,a1,a2,a3⟩ k=>⟨o,ep,k o a1,a2,a3⟩⟩
theorem xh (hu:X.A.units+80<cLine) (hw:cl.w=X.w):qN X (λo i v H Q=>∃ μ S x y z,RD X.K μ H x o/\RD X.K μ H y i/\RD X.K μ H z v/\Rep X.K cl μ S H/\Post X.K cl xe μ H (M3 x y z S) λ_ _ _ H'=>Q H'):=by
 intro pins s σ H o i v ov iv u Q I ro ri rv ⟨μ,S,x,y,z,rx,ry,rz,rp,p⟩;cases rx <;> try (exact False.elim p)
 rename_i n a h;have m:a∈μ.pl:=EY h;simp only [M3] at p;cases q1:S[n]? with
 | none=>rw [q1] at p;exact p.elim
 | some ob=>
  rw [q1] at p;cases ob with
  | lst _=>exact p.elim
  | exc _ _=>exact p.elim
  | dct _=>exact p.elim
  | dcT kvs=>
   obtain ⟨es,h1,h2,h3,h4⟩:=rp.ats n _ a q1 h;rw [hw] at h4;dsimp only at p;cases q2:q9 y with
   | none=>rw [q2] at p;exact p.elim
   | some k=>
    rw [q2] at p;by_cases hl:kvs.length<sizeLine
    ·simp only [if_pos hl] at p;obtain ⟨b,rfl⟩:=Z6 q2 ry;cases ro;cases ri;obtain ⟨xs,dd,xx⟩:=jP I h1 h3 h4;have lx:xs.length<=sizeLine:=by rw [<- Paired.length xx];exact HS hl
     refine wpAny_setItem_heap (hsz:=lx) (mK hu) (X4 I q2 ry) dd λh' dd' hs=>?_;obtain ⟨o',es',ep',g1,g2,g3,g4,_,_⟩:=dd';have px:=Ac (d:=y) xx q2 ry rv rz;have w1:Lat μ H μ (upd H a (DE a es'.toList)):=Lat.wrote m;refine ⟨upd H a (DE a es'.toList),Q6 I (by rw [h1];exact True.intro) hs ⟨o',g1⟩ (Bl ⟨o',ep',g1,g2,by rw [Array.toArray_toList];exact g3⟩),?_⟩;refine p μ _ w1 (rp.wrote h ⟨es'.toList,b6,h2,mJ q2 h3 hl,?_⟩);have pe:=lm px;rw [<- g4] at pe;rw [hw];exact Paired.mono (λ_ _ ⟨b,v,z,a1,a2,a3,a4,a5,a6⟩=>⟨b,v,z,a1,a2.later w1,a3,a4,a5,a6.later w1⟩) pe
    ·simp only [if_neg hl] at p;exact p.elim
theorem kE {a b e:Expr} {pos p2:Pos} {f g k:Env->M D} (hu:X.A.units+80<cLine) (hw:cl.w=X.w) (he:PE X e (tD X.K cl xe f)) (ho:PE X a (tD X.K cl xe g)) (hi:PE X b (tD X.K cl xe k)) (hn:j3 e=true) (hb:v3 b=true) :
  PS X (.Assign [.Subscript a b p2] e pos) (sD X.K cl xe λρ=>bind (f ρ) λv=>bind (g ρ) λx=>bind (k ρ) λy=>bind (M3 x y v) λ_=>ret (.nx ρ)):=
 PS.imp (fT he (mP ho hi (xh (cl:=cl) (xe:=xe) hu hw) (bV hb)) (by unfold swapsWithSole;exact y3 hn) rfl rfl) λD σ H ⟨μ,S,ρ,eo,rp,p⟩=>
  ⟨μ,S,ρ,eo,rp,p.bind.imp λv S1 μ1 H1 l1 r1 p1 vv rv=>⟨μ1,S1,ρ,eo.later l1,r1,p1.bind.imp λx S2 μ2 H2 l2 r2 p2 xv rx=>⟨μ2,S2,ρ,(eo.later l1).later l2,r2,p2.bind.imp λy S3 μ3 H3 l3 r3 p3 yv ry=>
   ⟨μ3,S3,x,y,v,rx.later l3,ry,(rv.later l2).later l3,r3,p3.bind.imp λ_ S4 μ4 H4 l4 r4 p4=>p4.ret μ4 H4 (Lat.refl _ _) r4 σ ((((eo.later l1).later l2).later l3).later l4)⟩⟩⟩⟩
end
def EE:RuT where
 is _ lc e:=match e with
  | .Compare _ [.NotIn] [b] _=>q5 b&&decide (("t{}" : Str)∈lc.mu)
  | .Compare _ [.In] [b] _=>q5 b&&decide (("t{}" : Str)∈lc.mu)
  | _=>false
 run r _ _ lc e ρ:=match e with
  | .Compare a [.NotIn] [b] _=>bind (r.e lc a ρ) λx=>bind (r.e lc b ρ) λy=>bind (Y9 true x y) asB
  | .Compare a [.In] [b] _=>bind (r.e lc a ρ) λx=>bind (r.e lc b ρ) λy=>bind (Y9 false x y) asB
  | _=>bad
 ok {T k r Γ C lc X} e R TX h hi:=by
  split at hi
  ·rw [Ey] at hi;exact cE (R.ex h _) (R.ex h _) (vE true h.u80 (by rw [h.w];rfl)) (B6 hi.1)
  ·rw [Ey] at hi;exact cE (R.ex h _) (R.ex h _) (vE false h.u80 (by rw [h.w];rfl)) (B6 hi.1)
  ·cases hi
 runK q _ _ lc e ρ _ k:=match e with
  | .Compare a [.NotIn] [b] _=>q.e lc a ρ λx=>q.e lc b ρ λy=>bind (Y9 true x y) λd=>bind (asB d) k
  | .Compare a [.In] [b] _=>q.e lc a ρ λx=>q.e lc b ρ λy=>bind (Y9 false x y) λd=>bind (asB d) k
  | _=>bad
 eq e ρ _ k h:=by
  split
  ·simp only [h.e,bind_assoc]
  ·simp only [h.e,bind_assoc]
  ·first
   | rfl
   | (rename_i hn hn2;split;exact (hn _ _ _ rfl).elim;exact (hn2 _ _ _ rfl).elim;rfl)
def xK:RuS where
 is _ lc e:=match e with
  | .Assign [.Subscript _ b _] e _=>j3 e&&v3 b&&decide (("t{}" : Str)∈lc.mu)
  | _=>false
 run r _ _ lc e ρ:=match e with
  | .Assign [.Subscript a b _] e _=>bind (r.e lc e ρ) λv=>bind (r.e lc a ρ) λx=>bind (r.e lc b ρ) λy=>bind (M3 x y v) λ_=>ret (.nx ρ)
  | _=>bad
 ok {T k r Γ C lc X} e R TX h hf hi:=by
  split at hi
  ·rw [Ey,Ey] at hi;exact kE h.u80 (by rw [h.w];rfl) (R.ex h _) (R.ex h _) (R.ex h _) hi.1.1 hi.1.2
  ·cases hi
 runK q _ _ lc e ρ _ k:=match e with
  | .Assign [.Subscript a b _] e _=>q.e lc e ρ λv=>q.e lc a ρ λx=>q.e lc b ρ λy=>bind (M3 x y v) λ_=>k (.nx ρ)
  | _=>bad
 eq e ρ _ k h:=by
  split
  ·simp only [h.e,bind_assoc,h7]
  ·first
   | rfl
   | (rename_i hn;split;exact (hn _ _ _ _ _ rfl).elim;rfl)
def ww (X:Cx) (trs:List (TE×TE)):TE:=λσ H Q=>∀ p,H p=none->au trs σ (upd H p (.dK [])) λps H2=>H2 p=some (.dK [])/\∃ b v q,ps=[(V.ref b,v)]/\DAt X.K H2 (.ref b) q/\HT.kDHt q=true/\q.canLay0=true/\q.depth<=6/\((p==sysModules)=false->∀ u,RelV v u->Q (.ref p) (upd H2 p (DE p [⟨HT.hTHt X.w (HT.nrmHt q),.ref b,u⟩])))
section
variable {X:Cx} {cl:ClW} {xe:Addr->Hp->Prop} {pos:Pos}
theorem oo {k v:Expr} {trs:List (TE×TE)} (hu:X.A.units+80<cLine) (h:PPs X pos [some k] [v] trs):PE X (.Dict [some k] [v] pos) (ww X trs):=by
 intro pins s σ H Q I q;have hn:=I.hok.fresh (EI s.heap.objs.size);have I1:=I.laid (a:=s.heap.objs.size) (o:=.dK []) (h':=s.heap.push { cls:=.type "dict",data:=.dict #[] }) (t':=s.toks) (λ_ _ q=>Ew _ q) (EI _) (fL s.heap I.big);refine wpAny_Dict_any rfl rfl (by simp) (Hg rfl) (thn (h pins _ σ _ _ I1 (q _ hn)) λws s2 ⟨ps,H2,I2,rel,e,b,v,q0,ep,d1,d2,d3,d4,q2⟩=>?_);subst ep;cases rel with
 | @cons _ y _ _ r t=>
  cases t;obtain ⟨y1,y2⟩:=y;obtain ⟨r1,r2⟩:=r;have r1:L2.RelV (V.ref b) y1:=r1;cases r1;obtain ⟨z,hd,vs0,r0,dd⟩:=oq I2.hok e;cases r0;obtain ⟨o,es,ep,e1,e2,e3,_,e5,_⟩:=dd;have e6:es.toList=[]:=by
   cases e7:es.toList with
   | nil=>rfl
   | cons x xs=>rw [e7] at e5;cases e5
  obtain ⟨as,rd⟩:=d1.reads I2 (u:=.ref b) rfl;have dH:s2.heap.DictOfH (HT.keyK X.prog X.w) s.heap.objs.size []:=⟨o,es,ep,e1,e2,e3,e6,(λx hx=>by cases hx),.nil⟩;show wpAny _ _ (storeAll _ [(.ref b,y2)]) _ _ _;unfold storeAll;refine Er (Er (wpAny_dictSet_heap (hsz:=FU _) (knd:=HT.keyK X.prog X.w) (by show X.A.units+8<cLine;omega) ⟨q0,as,rd,d2,d3,d4,rfl⟩ dH λh' dd' hs=>Eu ?_));refine Eu ?_;obtain ⟨o',es',ep',g1,g2,g3,g4,_,_⟩:=dd';have g5:es'.toList=[⟨HT.hTHt X.w (HT.nrmHt q0),.ref b,y2⟩]:=g4;refine ⟨.ref s.heap.objs.size,_,Q6 I2 (by rw [e];exact True.intro) hs ⟨o',g1⟩ (Bl ⟨o',ep',g1,g2,?_⟩),rfl,q2 hd y2 r2⟩;rw [<- g5,Array.toArray_toList];exact g3
theorem oO {k v:Expr} {fk fv:Env->M D} (hu:X.A.units+80<cLine) (hw:cl.w=X.w) (hk:PE X k (tD X.K cl xe fk)) (hv:PE X v (tD X.K cl xe fv)) :
  PE X (.Dict [some k] [v] pos) (tD X.K cl xe λρ=>bind (t7 [(fk,fv)] ρ) U1):=PE.imp (oo hu (eh hk hv iV)) λσ H Q ⟨μ,S,ρ,eo,rp,P⟩=>by
 intro p hp;have nrs:=rp.notrs hp;refine J6 (p:=p) (o:=.dK []) (ρ:=ρ) (μ:=μ) (H:=H) (μ2:=μ.hold p) (S2:=S) (fks:=[(fk,fv)]) P ?_ (rp.notin hp) b6 (J0 rp hp eo) (J1 rp hp) λps H3 μ3 S3 ds hl3 n3 e3 r3 l3 rps P3=>?_
 ·refine ⟨⟨λ_ _ e=>e,λa o e _=>by rw [a7 (b9 e hp)];exact e,λa m=>.inl m,λa m=>?_⟩,rfl⟩;rcases EU.mp (show a∈p :: μ.rs from m) with rfl | m
  ·exact .inr hp
  ·exact .inl m
 ·unfold U1 at P3;split at P3
  ·rename_i kd vd;cases rps with
   | @cons _ y _ _ r t=>
    cases t;obtain ⟨ky,vy⟩:=y;obtain ⟨rk,rv⟩:=r;have rk:RD X.K μ3 H3 kd ky:=rk;have rv:RD X.K μ3 H3 vd vy:=rv;cases e1:q9 kd with
    | none=>rw [e1] at P3;exact P3.elim
    | some q=>
     rw [e1] at P3;obtain ⟨b,rfl⟩:=Z6 e1 rk;obtain ⟨zs,f1,f2,f3,f4⟩:=cj e1;obtain ⟨da,dk⟩:=mI kd f1 rk;refine ⟨e3,b,vy,_,rfl,da,dk,f2,f3,λhs u ru=>?_⟩;have np:p∉μ3.pl:=n3;have hp':∀ (n:Nat) (a:Addr),μ3.pl[n]?=some a->(μ3.pl++[p])[n]?=some a:=λn a e=>by rw [EJ (Et.mp e).1];exact e
     have mv:∀ {u:HO} {d:D} {v:V},RD X.K μ3 H3 d v->RD X.K ⟨μ3.pl++[p],μ.rs⟩ (upd H3 p u) d v:=λr=>r.move (μ:=μ3) (μ':=⟨μ3.pl++[p],μ.rs⟩) hp' λa w e n1 n2=>by
      have ne:a≠p:=λz=>n2 (by rw [hl3.rs,z];exact EL);refine ⟨by rw [a7 ne];exact e,λz=>?_,λz=>n2 (by rw [hl3.rs];exact EM _ z)⟩;rcases Ff.mp z with z | z
      ·exact n1 z
      ·exact ne (EZ.mp z)
     have oa:OAt X.K cl ⟨μ3.pl++[p],μ.rs⟩ (upd H3 p (DE p [⟨HT.hTHt X.w (HT.nrmHt (.tuple zs)),.ref b,u⟩])) p (.dcT [(kd,vd)]):=by
      refine ⟨_,b6,hs,⟨by rw [Fj];exact Hg rfl,by simp⟩,.cons ⟨b,vy,q,rfl,mv rk,e1,?_,ru,mv rv⟩ .nil⟩;rw [hw,f4]
     refine P3 ⟨μ3.pl++[p],μ.rs⟩ _ ?_ (Z8 hl3.rs nrs e3 r3 oa) _ (.ref ?_)
     ·refine ⟨λn a e=>hp' n a (hl3.r.pre n a e),λa o e n=>?_,λa m=>?_,rfl⟩
      ·rw [a7 (b9 e hp)];exact hl3.r.oth a o e n
      ·rcases Ff.mp (show a∈μ3.pl++[p] from m) with m | m
       ·exact hl3.r.new a m
       ·exact .inr (by rw [EZ.mp m];exact hp)
     ·show (μ3.pl++[p])[S3.length]?=some p;rw [<- r3.len];simp
  ·exact P3.elim
end
def BE:RuE where
 is _ lc e:=match e with
  | .Dict [some _] [_] _=>decide (("t{}" : Str)∈lc.mu)
  | _=>false
 run r _ _ lc e ρ:=match e with
  | .Dict [some k] [v] _=>bind (t7 [(r.e lc k,r.e lc v)] ρ) U1
  | _=>bad
 ok {T k r Γ C lc X} e R TX h hi:=by
  split at hi
  ·exact oO h.u80 (by rw [h.w];rfl) (R.ex h _) (R.ex h _)
  ·cases hi
 runK q _ _ lc e ρ _ k:=match e with
  | .Dict [some x] [v] _=>q.e lc x ρ λa=>q.e lc v ρ λb=>bind (U1 [(a,b)]) k
  | _=>bad
 eq e ρ _ k h:=by
  split
  ·simp only [h.e,bind_assoc,t7,h7]
  ·first
   | rfl
   | (rename_i hn;split;exact (hn _ _ _ rfl).elim;rfl)
section
variable {X:Cx} {cl:ClW} {xe:Addr->Hp->Prop} {a:Expr} {f:Env->M D}
theorem sC:MtR X "list.clear" (λx vs H Q=>∃ l xs,x=.ref l/\vs=[]/\H l=some (.lst xs)/\Q .non (upd H l (.lst []))):=by
 intro pins s σ H x vs v us Q I rx rv h;obtain ⟨l,xs,rfl,rfl,hH,q⟩:=h;cases rx;cases rv;obtain ⟨z,its,n,r,hl,e⟩:=I.lstM hH;refine Gy HP ⟨_,e,rfl⟩ PySem.F.entry_list_clear (PySem.F.args_list_clear_1 _) (PySem.AutoSeq1.list_clear_list_0 l its.toArray n (by rw [EN,<- r.length];exact z)) ⟨e,?_⟩;exact ⟨.non,_,I.lset (its':=[]) hH e rfl .nil (FU _),rfl,q⟩
def wrD (g:List D->List D) (x:D):M D:=bind (lstOf x) λes=>match x with
 | .ref n=>λS=>.ok .non (S.set n (.lst (g es)))
 | _=>bad
theorem Ad {g:List D->List D} {gv:List V->List V} (hg:∀ {μ:Mp} {H:Hp} {ds:List D} {xs:List V},RDs X.K μ H ds xs->RDs X.K μ H (g ds) (gv xs)) {μ:Mp} {S:Sto} {H:Hp} {x:D} {v:V} {Q:V->Hp->Prop} (rx:RD X.K μ H x v) (rp:Rep X.K cl μ S H) (p:Post X.K cl xe μ H (wrD g x S) λd _ μ' H'=>∀ w,RD X.K μ' H' d w->Q w H'):∃ l xs,v=.ref l/\H l=some (.lst xs)/\Q .non (upd H l (.lst (gv xs))):=by
 unfold wrD at p;obtain ⟨l,xs,ds,rfl,h1,h2,e2⟩:=o8 rx rp p.bind;have p:=p.ok_bind e2;cases rx with
 | ref e=>
  have ml:l∈μ.pl:=EY e;have la:Lat μ H μ (upd H l (.lst (gv xs))):=Lat.wrote ml;exact ⟨l,xs,rfl,h1,p μ _ la (rp.wrote e ⟨_,b6,(hg h2).later la⟩) _ .non⟩
 | _=>exact p.elim
theorem sZ {apos cpos:Pos} (ho:PE X a (tD X.K cl xe f)) (hb:p9 a=true) (hl:(apos.endLine==cpos.line)=true):PE X (.Call (.Attribute a "clear" apos) [] [] cpos) (tD X.K cl xe λρ=>bind (f ρ) (wrD λ_=>[])):=by
 refine PE.imp (yV HM HP PySem.F.type_list_clear sC ho (D9 hb) hl) λσ H Q ⟨μ,S,ρ,eo,rp,p⟩=>⟨μ,S,ρ,eo,rp,p.bind.imp λx S1 μ1 H1 l1 r1 p1 xv rx=>?_⟩;obtain ⟨ty,_,ea⟩:=gL μ1 S1 H1 x xv _ rx r1 p1.bind;obtain ⟨l,xs,rfl,h1,h2⟩:=Ad (gv:=λ_=>[]) (λh=>.nil) rx r1 p1;exact ⟨ty,l,xs,rfl,rfl,h1,h2⟩
end
def wT:RuE:=rM0 "clear" (wrD λ_=>[]) λ_ ho hb hl=>sZ ho hb hl
theorem ED {g:List D->List D} {S:Sto} {n:Nat} {es:List D} (e:S[n]?=some (.lst es)):wrD g (.ref n) S=.ok .non (S.set n (.lst (g es))):=by
 unfold wrD;simp only [bind,lstOf,e]
section
variable {K:PySem.W.Frag} {cl:ClW} {xe:Addr->Hp->Prop} {μ:Mp} {H:Hp} {S:Sto}
theorem eD {xi:Addr->Hp->Prop} {caps:List Nat} {fi:Env->M (Src×Nat)} {t:Env->M Bool} {f:Env->M D} {σ:L2.St} {ρ:Env} {Q:VK} (eo:EnvOk K μ H ρ σ) (rp:Rep K cl μ S H)
  (p:Post K cl xi μ H (bind (fi ρ) (λsm=>bind (nx (m9 sm.1 t f (λd=>some d :: A0 caps ρ) sm.2 0 [])) newL) S) λd _ μ' H'=>∀ v,RD K μ' H' d v->Q v H'):iR caps (tIt K cl xi fi) (tBo K cl xe t) (tD K cl xe f) σ H Q:=by
 refine ⟨μ,S,ρ,eo,rp,p.bind.imp λsm S1 μ1 H1 l1 r1 p0 J yl acc hacc=>?_⟩;obtain ⟨src,m0⟩:=sm;dsimp only at p0;rw [tf] at p0;have p1:Post K cl xe μ1 H1 (bind (m9 src t f (λd=>some d :: A0 caps ρ) m0 0 []) newL S1) (λd _ μ' H'=>∀ v,RD K μ' H' d v->Q v H'):=p0.nx;have nrs:acc∉μ1.rs:=r1.notrs hacc;refine ⟨λi m ys H2=>∃ μ2 S2 es,HLat μ1 H1 acc μ2 H2/\acc∉μ2.pl/\H2 acc=some (.lst ys)/\EnvOk K μ2 H2 ρ σ/\Rep K cl μ2 S2 H2/\RDs K μ2 H2 es ys/\Post K cl xe μ1 H1 (bind (m9 src t f (λd=>some d :: A0 caps ρ) m i es) newL S2) (λd _ μ' H'=>∀ v,RD K μ' H' d v->Q v H'),⟨m0,μ1.hold acc,S1,[],?_,r1.notin hacc,b6,J0 r1 hacc (eo.later l1),J1 r1 hacc,.nil,p1⟩,?_⟩
 ·refine ⟨⟨λ_ _ e=>e,λa o e _=>by rw [a7 (b9 e hacc)];exact e,λa m=>.inl m,λa m=>?_⟩,rfl⟩;rcases EU.mp (show a∈acc :: μ1.rs from m) with rfl | m
  ·exact .inr hacc
  ·exact .inl m
 rintro i m ys H2 ⟨μ2,S2,es,hl,npl,e2,eo2,r2,rds2,p2⟩;refine ⟨e2,?_⟩;cases m with
 | zero=>exact p2.elim
 | succ m=>
  have y:af K cl J i μ2 H2 S2 (src i S2):=yl i μ2 H2 S2 hl.r.u r2;rw [tt] at p2;cases e1:src i S2 with
  | none=>rw [e1] at p2;exact p2.elim
  | some o=>
   rw [e1] at p2 y;cases o with
   | none=>
    refine .inl ⟨y,?_⟩;simp only [newL] at p2;by_cases hz:es.length<=sizeLine
    ·rw [if_pos hz] at p2;have er:μ2.rs=acc :: μ1.rs:=hl.rs;have mv:RDs K ⟨μ2.pl++[acc],μ1.rs⟩ H2 es ys:=rds2.move (λn a e=>by
      show (μ2.pl++[acc])[n]?=some a;rw [EJ (Et.mp e).1];exact e) λa u e n1 n2=>⟨e,λz=>by
       rcases Ff.mp z with z | z
       ·exact n1 z
       ·exact n2 (by rw [er,EZ.mp z];exact EL),λz=>n2 (by rw [er];exact EM _ z)⟩
     have rp':=eU (u:=.lst ys) (ob:=.lst es) er nrs e2 r2 ⟨ys,b6,by rw [eP e2];exact mv⟩;rw [eP e2] at rp';refine p2 ⟨μ2.pl++[acc],μ1.rs⟩ H2 ⟨λn a e=>?_,λa o e n=>hl.r.oth a o e n,λa ma=>?_,rfl⟩ rp' _ (.ref ?_)
     ·have e':=hl.r.pre n a e;show (μ2.pl++[acc])[n]?=some a;rw [EJ (Et.mp e').1];exact e'
     ·rcases Ff.mp ma with z | z
      ·exact hl.r.new a z
      ·rw [EZ.mp z];exact .inr hacc
     ·show (μ2.pl++[acc])[S2.length]?=some acc;rw [<- r2.len];simp
    ·rw [if_neg hz] at p2;exact p2.elim
   | some d=>
    obtain ⟨y1,y2⟩:=y;refine .inr ⟨y1,λx H3 hy=>?_⟩;obtain ⟨l3,r3,rd3⟩:=y2 x H3 hy;have h3:=hl.step l3;refine ⟨μ2,S2,_,P1 (eo2.later l3) rd3,r3,(Post.at p2 h3).imp λb S5 μ5 H5 l5 r5 p5=>?_⟩;have h5:=h3.step l5;have l35:=l3.trans l5;have a5:H5 acc=some (.lst ys):=l35.oth _ _ e2 npl;have n5:acc∉μ5.pl:=l35.out e2 npl;cases b with
    | false=>exact ⟨m,Fn _,μ5,S5,es,h5,n5,a5,eo2.later l35,r5,rds2.later l35,p5⟩
    | true=>
     refine rq ?_;rw [if_pos rfl] at p5;refine ⟨μ5,S5,_,(P1 (eo2.later l3) rd3).later l5,r5,(Post.at p5 h5).imp λyv S6 μ6 H6 l6 r6 p6 v rv=>?_⟩;have h6:=h5.step l6;have l36:=l35.trans l6;have a6:H6 acc=some (.lst ys):=l6.oth _ _ a5 n5;have n6:acc∉μ6.pl:=l6.out a5 n5;by_cases hz:es.length<sizeLine
     ·rw [if_pos hz] at p6;have er:μ6.rs=acc :: μ1.rs:=h6.rs;refine ⟨a6,by rw [<- rds2.length];exact hz,m,Fn _,μ6,S6,es++[yv],?_,n6,b6,?_,R3 er a6 r6,T6 er ((rds2.later l36).append (.cons rv .nil)),p6⟩
      ·refine ⟨⟨h6.r.pre,λa o e n=>?_,h6.r.new,h6.r.rsw⟩,er⟩;rw [a7 (b9 e hacc)];exact h6.r.oth a o e n
      ·have eo6:=eo2.later l36;exact ⟨eo6.1,λj e he=>let ⟨w,q,r⟩:=eo6.2 j e he;⟨w,q,aq er r⟩⟩
     ·rw [if_neg hz] at p6;exact p6.elim
end
def Z5 (r:Ev) (lc:Lc) (elt:Expr) (x:Str) (px:Pos) (iter:Expr) (ifs:List Expr) (scope:Scope) (ρ:Env):M D:=match h9 (e9 lc.N) (j7 scope) with
 | some caps=>bind (r.i lc (.Name x px) iter ρ) λsm=>bind (nx (m9 sm.1 (testsE r (h8 lc scope [x]) ifs) (r.e (h8 lc scope [x]) elt) (λd=>some d :: A0 caps ρ) sm.2 0 [])) newL
 | none=>bad
def dF (q:EvK) (lc:Lc) (elt:Expr) (x:Str) (px:Pos) (iter:Expr) (ifs:List Expr) (scope:Scope) (ρ:Env) {α:Type} (k:D->M α):M α:=match h9 (e9 lc.N) (j7 scope) with
 | some caps=>q.i lc (.Name x px) iter ρ λsm=>bind (nx (j0 sm.1 (λd=>testsK q (h8 lc scope [x]) ifs (some d :: A0 caps ρ)) (λd=>q.e (h8 lc scope [x]) elt (some d :: A0 caps ρ) ret) sm.2 0 [])) λds=>bind (newL ds) k
 | none=>bad
theorem kg {r:Ev} {q:EvK} {lc:Lc} (h:EqK r q) (elt:Expr) (x:Str) (px:Pos) (iter:Expr) (ifs:List Expr) (scope:Scope) (ρ:Env) {α:Type} (k:D->M α):dF q lc elt x px iter ifs scope ρ k=bind (Z5 r lc elt x px iter ifs scope ρ) k:=by
 unfold dF Z5;cases h9 (e9 lc.N) (j7 scope) with
 | none=>rfl
 | some caps=>simp only [h.i,h.e,v7,tests_eq h,Q7,bind_assoc]
theorem kQ {T:Tx} {k:Nat} {r:Ev} {lc:Lc} {X:Cx} (R:EvOk T k r) (h:CxOk T k lc X) {elt:Expr} {y:Str} {py pos:Pos} {iter:Expr} {ifs:List Expr} {scope:Scope} (hc:v6 lc scope [y]=true) (hn:q5 iter=true) :
  PE X (.ListComp elt [⟨.Name y py,iter,ifs,0⟩] scope pos) (tD X.K T.cl (xOf X) λρ=>Z5 r lc elt y py iter ifs scope ρ):=by
 unfold Z5;cases hm:h9 (e9 lc.N) (j7 scope) with
 | none=>exact d6
 | some caps=>
  obtain ⟨t1,t2,t3,t4,t5⟩:=K5 h hc hm;have e1:∀ pins C fp s H,PTL (c9 X pins ([y]++j7 scope) scope C fp s H) ifs (tBo X.K T.cl x0 (testsE r (h8 lc scope [y]) ifs)):=λpins C fp s H=>PTL.x0 (tests_ok (ifs:=ifs) R (A4 h t4 t5 t2 pins C fp s H));have e2:∀ pins C fp s H,PE (c9 X pins ([y]++j7 scope) scope C fp s H) elt (tD X.K T.cl x0 (r.e (h8 lc scope [y]) elt)):=λpins C fp s H=>PE.x0 (R.ex (A4 h t4 t5 t2 pins C fp s H) elt);exact PE.imp (hI t1 (h.calm t4) t2 rfl (t3 y (by simp)) (R.ix h _ _) e1 e2 (D0 hn)) λσ H Q ⟨μ,S,ρ,eo,rp,p⟩=>eD eo rp p
def xB:RuS where
 is _ lc e:=match e with
  | .Return (some (.ListComp _ [⟨.Name y _,iter,_,0⟩] scope _)) _=>decide (("return!" : Str)∈lc.mu)&&(v6 lc scope [y]&&q5 iter)
  | _=>false
 run r _ _ lc e ρ:=match e with
  | .Return (some (.ListComp elt [⟨.Name y py,iter,ifs,0⟩] scope _)) _=>bind (Z5 r lc elt y py iter ifs scope ρ) λd=>ret (.rt d)
  | _=>bad
 ok e R TX h hf hi:=by
  split at hi
  ·rw [Ey,Ey] at hi;exact hB (kQ R h hi.2.1 hi.2.2)
  ·cases hi
 runK q _ _ lc e ρ _ k:=match e with
  | .Return (some (.ListComp elt [⟨.Name y py,iter,ifs,0⟩] scope _)) _=>dF q lc elt y py iter ifs scope ρ λd=>k (.rt d)
  | _=>bad
 eq e ρ _ k h:=by
  split
  ·simp only [kg h,bind_assoc,h7]
  ·first
   | rfl
   | (rename_i hn;split;exact (hn _ _ _ _ _ _ _ _ rfl).elim;rfl)
end L3
namespace L3.Nt
open PySem PySem.Spec PyProof.Rows L2
inductive Wd where
 | out | ask | close | look | holds
def Wd.s:Wd->Str
 | .out=>"out"
 | .ask=>"ask"
 | .close=>"close"
 | .look=>"look"
 | .holds=>"holds"
def Wd.d (w:Wd):D:=.str w.s
def L6 (b:Bool):Str:=if b=true then "down" else "right"
def u3 (b:Bool):D:=.str (L6 b)
def trD (t:List Bool):D:=.tup (t.map u3)
def oD:Option Nat->D
 | none=>.non
 | some h=>.int (h:Int)
abbrev Hnd:=List Bool×Wd
def hdD (h:Hnd):D:=.tup [trD h.1,h.2.d]
abbrev Box:=Option Nat×Bool
def bxD (b:Box):D:=.tup [oD b.1,.bl b.2]
structure Nst where
 bx:List Box
 hs:List Hnd
def Nst.d (r:Nst):D:=.tup [.tup (r.bx.map bxD),.tup (r.hs.map hdD)]
def tri (n:Nat):Nat:=n * (n+1) / 2
def dn (t:List Bool):Nat:=t.countP id
def rt (t:List Bool):Nat:=t.countP λb=>!b
theorem Y1 (t:List Bool):dn t+rt t=t.length:=by
 unfold dn rt;induction t with
 | nil=>rfl
 | cons b t ih=>cases b <;> simp [HQ] <;> omega
theorem aV:∀ t:List Bool,y0 (t.map u3)=some (t.map L6)
 | []=>rfl
 | b :: t=>by
  show (y0 (t.map u3)).map (L6 b :: ·)=_;rw [aV t];rfl
theorem hE (b:Bool) (t:List Bool):dn (b :: t)=(if b=true then 1 else 0)+dn t:=by unfold dn;cases b <;> simp [HQ] <;> omega
theorem ib (b:Bool) (t:List Bool):rt (b :: t)=(if b=true then 0 else 1)+rt t:=by unfold rt;cases b <;> simp [HQ] <;> omega
theorem aK:∀ t:List Bool,countIn (.str "down") ((t.map L6).map PyData.str)=(dn t:Int)
 | []=>rfl
 | true :: t=>by
  have e:countIn (.str "down") (((true :: t).map L6).map PyData.str)=1+countIn (.str "down") ((t.map L6).map PyData.str):=rfl;rw [e,aK t,hE,if_pos rfl];omega
 | false :: t=>by
  have e:countIn (.str "down") (((false :: t).map L6).map PyData.str)=0+countIn (.str "down") ((t.map L6).map PyData.str):=rfl;rw [e,aK t,hE,if_neg EH];omega
theorem T3:∀ t:List Bool,countIn (.str "right") ((t.map L6).map PyData.str)=(rt t:Int)
 | []=>rfl
 | true :: t=>by
  have e:countIn (.str "right") (((true :: t).map L6).map PyData.str)=0+countIn (.str "right") ((t.map L6).map PyData.str):=rfl;rw [e,T3 t,ib,if_pos rfl];omega
 | false :: t=>by
  have e:countIn (.str "right") (((false :: t).map L6).map PyData.str)=1+countIn (.str "right") ((t.map L6).map PyData.str):=rfl;rw [e,T3 t,ib,if_neg EH];omega
theorem iJ (t:List Bool) (S:Sto):countT (trD t) [.str "down"] S=.ok (.int (dn t:Int)) S:=by
 show (match y0 (t.map u3) with
  | some ys=>ret (D.int (countIn (.str "down") (ys.map PyData.str)))
  | none=>bad) S=_
 rw [aV];show R.ok (D.int (countIn (.str "down") ((t.map L6).map PyData.str))) S=_;rw [aK]
theorem mF (t:List Bool) (S:Sto):countT (trD t) [.str "right"] S=.ok (.int (rt t:Int)) S:=by
 show (match y0 (t.map u3) with
  | some ys=>ret (D.int (countIn (.str "right") (ys.map PyData.str)))
  | none=>bad) S=_
 rw [aV];show R.ok (D.int (countIn (.str "right") ((t.map L6).map PyData.str))) S=_;rw [T3]
def E5 (p:Nat->Bool) (h:Hnd):D:=match (List.range h.1.length).find? p with
 | some i=>u3 (h.1.getD i false)
 | none=>if p h.1.length=true then h.2.d else .str "out"
theorem bY {p:Nat->Bool} {n:Nat} (h:∀ j,j<n->p j=false):(List.range n).find? p=none:=by grind
theorem uV {p:Nat->Bool} {n i:Nat} (a:i<n) (h:∀ j,j<i->p j=false) (b:p i=true):(List.range n).find? p=some i:=by simp_all
inductive W7 where
 | out | ask | close | look | holds | right | down
deriving DecidableEq
def W7.s:W7->Str
 | .out=>"out"
 | .ask=>"ask"
 | .close=>"close"
 | .look=>"look"
 | .holds=>"holds"
 | .right=>"right"
 | .down=>"down"
def W7.d (w:W7):D:=.str w.s
def Wd.w7:Wd->W7
 | .out=>.out
 | .ask=>.ask
 | .close=>.close
 | .look=>.look
 | .holds=>.holds
def n9 (t:List Bool):Nat:=tri t.length+dn t
structure VN (size many:Nat) (r:Nst):Prop where
 s5:size<=5
 m5:many<=5
 bl:r.bx.length=tri size
 hl:r.hs.length=many
 tr:∀ h∈r.hs,h.1.length<size
 mg:∀ b∈r.bx,∀ g,b.1=some g->g<many
def j9 (size:Nat) (r:Nst) (i n:Nat) (b:Box) (t:List Bool) (w:Wd):Option Nst:=if size<=t.length then none else some ⟨r.bx.set n b,r.hs.set i (t,w)⟩
def i4 (size:Nat) (r:Nst) (i:Nat):Option Nst:=match r.hs[i]? with
 | none=>none
 | some (t,w)=>match r.bx[n9 t]? with
  | none=>none
  | some (mk,cl)=>match w with
   | .out=>j9 size r i (n9 t) (some i,cl) t .ask
   | .ask=>if cl=true then j9 size r i (n9 t) (mk,cl) (t++[false]) .out else j9 size r i (n9 t) (mk,cl) t .close
   | .close=>j9 size r i (n9 t) (mk,true) t .look
   | .look=>if mk=some i then j9 size r i (n9 t) (mk,cl) t .holds else j9 size r i (n9 t) (mk,cl) (t++[true]) .out
   | .holds=>none
def yF (size:Nat) (r:Nst) (i:Nat) (t:List Bool) (mk:Option Nat) (cl:Bool):Wd->Option Nst
 | .out=>j9 size r i (n9 t) (some i,cl) t .ask
 | .ask=>if cl=true then j9 size r i (n9 t) (mk,cl) (t++[false]) .out else j9 size r i (n9 t) (mk,cl) t .close
 | .close=>j9 size r i (n9 t) (mk,true) t .look
 | .look=>if mk=some i then j9 size r i (n9 t) (mk,cl) t .holds else j9 size r i (n9 t) (mk,cl) (t++[true]) .out
 | .holds=>none
theorem pw {r:Nst} {i:Nat} {t:List Bool} {w:Wd} {mk:Option Nat} {cl:Bool} (a:r.hs[i]?=some (t,w)) (b:r.bx[n9 t]?=some (mk,cl)):i4 size r i=yF size r i t mk cl w:=by
 unfold i4;rw [a];simp only;rw [b];cases w <;> rfl
theorem lT (c:h.1.length<=5):Sml 2 900 (hdD h):=by
 obtain ⟨t,w⟩:=h;have a:Sml 1 400 (trD t):=(Sml.tup (n:=0) (N:=60) (.map λb _=>by cases b <;> exact Sml.w) (by rw [Es];exact c)).up;have b:Sml 1 400 w.d:=by cases w <;> exact Sml.w
 exact (Sml.tup (m:=2) (.cons a (.cons b .nil)) (EI _)).mono (by decide) (by decide)
end L3.Nt
namespace L3
open PySem PySem.Spec PyProof.Rows L2
theorem lB (a b:Nat) (S:Sto):jw [.int (a:Int),.int (b:Int)] S=.ok (.int ((max a b:Nat):Int)) S:=by
 show R.ok (D.int (if (b:Int) > (a:Int) then (b:Int) else (a:Int))) S=_;grind
end L3
namespace L3.Rw
open PySem PySem.Spec PyProof.Rows L2
inductive Hd where
 | rests
 | tries (b:Nat)
 | holds (b:Nat)
deriving DecidableEq
def Hd.d:Hd->D
 | .rests=>.tup [.str "rests"]
 | .tries b=>.tup [.str "tries",.int b]
 | .holds b=>.tup [.str "holds",.int b]
def Hd.bx:Hd->Nat
 | .rests=>0
 | .tries b=>b
 | .holds b=>b
def bD:Option Nat->D
 | none=>.non
 | some h=>.int h
structure Rw where
 bx:List (Option Nat)
 hs:List Hd
 mo:Nat
def Rw.d (r:Rw):D:=.tup [.tup (r.bx.map bD),.tup (r.hs.map Hd.d),.int r.mo]
def cnt (j:Nat) (hs:List Hd):Nat:=hs.countP λh=>decide (j<=h.bx)
structure BI (bx:List (Option Nat)) (hs:List Hd):Prop where
 len:bx.length=hs.length
 few:hs.length<=6
 mt:∀ (b h:Nat),bx[b]?=some (some h)->hs[h]?=some (.holds (b+1))
 mh:∀ (h b:Nat),hs[h]?=some (.holds b)->1<=b/\bx[b-1]?=some (some h)
 tr:∀ (h b:Nat),hs[h]?=some (.tries b)->1<=b/\b<=hs.length
structure RI (r:Rw):Prop where
 b:BI r.bx r.hs
 cn:∀ j,1<=j->0<cnt j r.hs->cnt j r.hs+j<=r.mo+1
 mx:r.mo<=r.hs.length
def stepR (r:Rw) (i:Nat):Rw:=match r.hs[i]? with
 | some .rests=>⟨r.bx,r.hs.set i (.tries 1),max r.mo (cnt 1 (r.hs.set i (.tries 1)))⟩
 | some (.holds b)=>⟨r.bx.set (b-1) none,r.hs.set i .rests,r.mo⟩
 | some (.tries b)=>(match r.bx[b-1]? with
  | some none=>⟨r.bx.set (b-1) (some i),r.hs.set i (.holds b),r.mo⟩
  | _=>⟨r.bx,r.hs.set i (.tries (b+1)),r.mo⟩)
 | none=>r
theorem zB (j:Nat) (hs:List Hd):cnt j hs<=hs.length:=List.countP_le_length
theorem A2 {hs:List Hd} {a:Hd} (h:hs[i]?=some a) (x:Hd) (A X:Nat) (b:a.bx=A) (c:x.bx=X) (j:Nat):∃ u v:Nat,cnt j (hs.set i x)+u=cnt j hs+v/\(j<=A->u=1)/\(¬ j<=A->u=0)/\(j<=X->v=1)/\(¬ j<=X->v=0):=by
 obtain ⟨d,e⟩:=Et.mp h;refine ⟨if j<=A then 1 else 0,if j<=X then 1 else 0,?_,λq=>if_pos q,λq=>if_neg q,λq=>if_pos q,λq=>if_neg q⟩;subst b c;unfold cnt;grind
theorem oK (b:Nat) (l:List Hd):cnt (b+1) l<=cnt b l:=by
 apply List.countP_mono_left;grind
theorem qK {b i g:Nat} {hs:List Hd} {a c:Hd} (h:hs[i]?=some a) (j:hs[g]?=some c) (k:i≠g) (e:a.bx=b) (f:c.bx=b):cnt (b+1) hs+2<=cnt b hs:=by
 have d:(hs.set i (.tries (b+1)))[g]?=some c:=by rw [ER k];exact j
 obtain ⟨D,B,C,L,F,x,z⟩:=A2 h (.tries (b+1)) b (b+1) e rfl b;obtain ⟨K,u,J,H,r,o,s⟩:=A2 h (.tries (b+1)) b (b+1) e rfl (b+1);obtain ⟨w,v,n,m,A,I,p⟩:=A2 d (.tries (b+1)) b (b+1) f rfl b;obtain ⟨y,l,G,k2,E,t,q⟩:=A2 d (.tries (b+1)) b (b+1) f rfl (b+1);have:=oK b ((hs.set i (.tries (b+1))).set g (.tries (b+1)));grind
theorem A5 {a:Type} {l:List a} {i j:Nat} {x y:a} (h:(l.set i x)[j]?=some y):(i=j/\x=y)\/(i≠j/\l[j]?=some y):=by grind
theorem BI.set_free (I:BI bx hs) {i:Nat} {a x:Hd} (h:hs[i]?=some a) (f:∀ b,a≠.holds b) (j:∀ b,x≠.holds b) (d:∀ b,x=.tries b->1<=b/\b<=hs.length):BI bx (hs.set i x):=by
 refine ⟨by rw [EV];exact I.len,by rw [EV];exact I.few,λb g e=>?_,λg b e=>?_,λg b e=>?_⟩
 ·have c:=I.mt b g e;have:i≠g:=λz=>by subst z;rw [h] at c;exact f _ (Fc c)
  rw [ER this];exact c
 ·rcases A5 e with ⟨_,z⟩ | ⟨_,z⟩
  ·exact absurd z (j b)
  ·exact I.mh g b z
 ·rw [EV];rcases A5 e with ⟨_,z⟩ | ⟨_,z⟩
  ·exact d b z
  ·exact I.tr g b z
theorem BI.free (I:BI bx hs) {i b:Nat} (h:hs[i]?=some (.holds b)):BI (bx.set (b-1) none) (hs.set i .rests):=by
 obtain ⟨k,j⟩:=I.mh i b h;refine ⟨by rw [EV,EV];exact I.len,by rw [EV];exact I.few,λc g e=>?_,λg c e=>?_,λg c e=>?_⟩
 ·rcases A5 e with ⟨_,z⟩ | ⟨n,z⟩
  ·cases z
  ·have d:=I.mt c g z;have:i≠g:=λw=>by
    subst w;rw [h] at d;have:=Fc d;injection this with this;omega
   rw [ER this];exact d
 ·rcases A5 e with ⟨_,z⟩ | ⟨n,z⟩
  ·cases z
  ·obtain ⟨f,a⟩:=I.mh g c z;refine ⟨f,?_⟩;have:b-1≠c-1:=λw=>by
    rw [<- w,j] at a;have:=Fc (Fc a);exact n this
   rw [ER this];exact a
 ·rw [EV];rcases A5 e with ⟨_,z⟩ | ⟨_,z⟩
  ·cases z
  ·exact I.tr g c z
theorem BI.take (I:BI bx hs) {i b:Nat} {a:Hd} (h:hs[i]?=some a) (k:∀ c,a≠.holds c) (p:1<=b) (j:bx[b-1]?=some none):BI (bx.set (b-1) (some i)) (hs.set i (.holds b)):=by
 obtain ⟨o,_⟩:=Et.mp h;obtain ⟨m,_⟩:=Et.mp j;refine ⟨by rw [EV,EV];exact I.len,by rw [EV];exact I.few,λc g e=>?_,λg c e=>?_,λg c e=>?_⟩
 ·rcases A5 e with ⟨w,z⟩ | ⟨n,z⟩
  ·grind
  ·have f:=I.mt c g z;have:i≠g:=λw=>by subst w;rw [h] at f;exact k _ (Fc f)
   rw [ER this];exact f
 ·rcases A5 e with ⟨w,z⟩ | ⟨n,z⟩
  ·grind
  ·obtain ⟨l,d⟩:=I.mh g c z;refine ⟨l,?_⟩;have:b-1≠c-1:=λw=>by rw [<- w,j] at d;cases d
   rw [ER this];exact d
 ·rw [EV];rcases A5 e with ⟨_,z⟩ | ⟨_,z⟩
  ·cases z
  ·exact I.tr g c z
theorem RI.blocked (I:RI r) {i b g:Nat} (h:r.hs[i]?=some (.tries b)) (c:r.bx[b-1]?=some (some g)):b<r.hs.length/\cnt (b+1) r.hs+2<=cnt b r.hs:=by
 obtain ⟨d,f⟩:=I.b.tr i b h;have e:=I.b.mt (b-1) g c;rw [show b-1+1=b by omega] at e;have n:i≠g:=λz=>by subst z;rw [h] at e;cases e
 have a:=qK (b:=b) h e n rfl rfl;have:=I.cn b d (by omega);have:=I.mx;omega
theorem RI.step (I:RI r) {i:Nat} (hi:i<r.hs.length):RI (stepR r i):=by
 obtain ⟨a,ha⟩:∃ a,r.hs[i]?=some a:=⟨_,Ez hi⟩;have mx:=I.mx;unfold stepR;rw [ha];cases a with
 | rests=>
  refine ⟨I.b.set_free ha (by simp) (by simp) (λb e=>by cases e;omega),λj hj hc=>?_,?_⟩
  ·show cnt j (r.hs.set i (.tries 1))+j<=max r.mo (cnt 1 (r.hs.set i (.tries 1)))+1;have hc:0<cnt j (r.hs.set i (.tries 1)):=hc;obtain ⟨u,v,e1,e2,e3,e4,e5⟩:=A2 ha (.tries 1) 0 1 rfl rfl j;by_cases h1:j=1
   ·subst h1;omega
   ·have:=e3 (by omega);have:=e5 (by omega);have:=I.cn j hj (by omega);omega
  ·show max r.mo (cnt 1 (r.hs.set i (.tries 1)))<=(r.hs.set i (.tries 1)).length;have:=zB 1 (r.hs.set i (.tries 1));rw [EV] at this ⊢;omega
 | holds b=>
  refine ⟨I.b.free ha,λj hj hc=>?_,by show r.mo<=(r.hs.set i .rests).length;rw [EV];exact mx⟩;have hc:0<cnt j (r.hs.set i .rests):=hc;obtain ⟨u,v,e1,e2,e3,e4,e5⟩:=A2 ha .rests b 0 rfl rfl j;have:=e5 (by omega);show cnt j (r.hs.set i .rests)+j<=r.mo+1;have:=I.cn j hj (by omega);omega
 | tries b=>
  obtain ⟨b1,b2⟩:=I.b.tr i b ha;have hbl:b-1<r.bx.length:=by rw [I.b.len];omega
  obtain ⟨o,ho⟩:∃ o,r.bx[b-1]?=some o:=⟨_,Ez hbl⟩;cases o with
  | none=>
   simp only [ho];refine ⟨I.b.take ha (by simp) b1 ho,λj hj hc=>?_,by show r.mo<=(r.hs.set i (.holds b)).length;rw [EV];exact mx⟩;have hc:0<cnt j (r.hs.set i (.holds b)):=hc;obtain ⟨u,v,e1,e2,e3,e4,e5⟩:=A2 ha (.holds b) b b rfl rfl j;have:u=v:=by
    by_cases q:j<=b
    ·rw [e2 q,e4 q]
    ·rw [e3 q,e5 q]
   show cnt j (r.hs.set i (.holds b))+j<=r.mo+1;have:=I.cn j hj (by omega);omega
  | some g=>
   simp only [ho];obtain ⟨q1,q2⟩:=I.blocked ha ho;refine ⟨I.b.set_free ha (by simp) (by simp) (λb' e=>by cases e;omega),λj hj hc=>?_,by show r.mo<=(r.hs.set i (.tries (b+1))).length;rw [EV];exact mx⟩;have hc:0<cnt j (r.hs.set i (.tries (b+1))):=hc;obtain ⟨u,v,e1,e2,e3,e4,e5⟩:=A2 ha (.tries (b+1)) b (b+1) rfl rfl j;show cnt j (r.hs.set i (.tries (b+1)))+j<=r.mo+1;by_cases h1:j=b+1
   ·subst h1;have:=e4 (by omega);have:=e3 (by omega);have:=I.cn b b1 (by omega);omega
   ·have:u=v:=by
     by_cases q:j<=b
     ·grind
     ·grind
    have:=I.cn j hj (by omega);omega
def Hd.at:Hd->Bool
 | .rests=>false
 | _=>true
theorem nN (I:BI bx hs):(hs.filter Hd.at).length=cnt 1 hs:=by
 unfold cnt;rw [List.countP_eq_length_filter];congr 1;apply List.filter_congr;intro a ha;obtain ⟨i,hi,e⟩:=GH ha;have e:hs[i]?=some a:=by rw [Ez hi,e]
 cases a with
 | rests=>rfl
 | tries b=>exact (EO (I.tr i b e).1).symm
 | holds b=>exact (EO (I.mh i b e).1).symm
theorem rT (r:Rw) (i:Nat):∃ x,(stepR r i).hs=r.hs.set i x:=by
 unfold stepR;cases h:r.hs[i]? with
 | none=>exact ⟨.rests,(List.set_eq_of_length_le (Gb.mp h)).symm⟩
 | some a=>
  cases a with
  | rests=>exact ⟨_,rfl⟩
  | holds b=>exact ⟨_,rfl⟩
  | tries b=>
   dsimp only;split <;> exact ⟨_,rfl⟩
theorem step_len (r:Rw) (i:Nat):(stepR r i).hs.length=r.hs.length:=by
 obtain ⟨x,e⟩:=rT r i;grind
def r0 (n:Nat):Rw:=⟨List.replicate n none,List.replicate n .rests,0⟩
theorem r0_ok (h:n<=6):RI (r0 n):=by
 have g:∀ {j:Nat} {a:Hd},(List.replicate n Hd.rests)[j]?=some a->a=.rests:=λ{j a} e=>by
  rw [FK] at e;split at e
  ·grind
  ·cases e
 refine ⟨⟨by simp [r0],by simpa [r0] using h,λb h e=>?_,λh b e=>?_,λh b e=>?_⟩,λj f d=>?_,FU _⟩
 ·have e:(List.replicate n (none:Option Nat))[b]?=some (some h):=e;rw [FK] at e;split at e <;> cases e
 ·cases g e
 ·cases g e
 ·obtain ⟨a,c,q⟩:=List.countP_pos_iff.mp d;have:=List.eq_of_mem_replicate c;subst this;have:j<=0:=by simpa [Hd.bx] using q
  omega
end L3.Rw
namespace L3.K35
open PySem PySem.Spec PyProof.Rows L2
def nth (l:List Stmt) (i:Nat):Stmt:=l.getD i (.Pass ⟨0,0,0,0⟩)
def top (i:Nat):Stmt:=nth PySem.Challenge.pw_handnames_k35_ends.main.body i
def A9:Stmt->List Stmt
 | .For _ _ b _ _=>b
 | .While _ b _ _=>b
 | _=>[]
def fc:Stmt->Expr
 | .While c _ _ _=>c
 | _=>.Name "" ⟨0,0,0,0⟩
def iE:Stmt->List Stmt
 | .Try b _ _ _ _=>b
 | _=>[]
def hW:Stmt->List Stmt
 | .Try _ [.ExceptHandler _ _ b _] _ _ _=>b
 | _=>[]
abbrev oN:Fd:=f9 (top 9) []
abbrev vi:Fd:=f9 (top 10) []
abbrev yo:Fd:=f9 (top 13) []
abbrev Ee:Fd:=f9 (top 14) []
abbrev xj:Fd:=f9 (top 16) []
abbrev Ea:Fd:=f9 (top 17) []
abbrev xR:Fd:=f9 (top 18) []
abbrev Ep:Fd:=f9 (top 19) []
abbrev mm:Fd:=f9 (top 21) []
abbrev vI:Fd:=f9 (top 22) []
abbrev vB:Fd:=f9 (top 23) []
abbrev BT:Fd:=f9 (top 24) []
abbrev Ab:Fd:=f9 (top 25) []
abbrev Em:Fd:=f9 (top 26) []
abbrev Ek:Fd:=f9 (top 27) []
abbrev mD:Fd:=f9 (top 29) []
abbrev Eb:Fd:=f9 (top 30) []
abbrev En:Fd:=f9 (top 31) []
abbrev zq:Fd:=f9 (top 32) []
abbrev nM:Fd:=f9 (top 34) []
abbrev bU:Fd:=f9 (top 35) []
abbrev mS:Fd:=f9 (top 36) []
abbrev U8:Fd:=f9 (top 37) []
abbrev Eo:Fd:=f9 (top 38) []
abbrev Eg:Fd:=f9 (top 41) ["stands","t{}"]
abbrev nj:Fd:=f9 (top 42) []
abbrev cG:Fd:=f9 (top 43) ["return!"]
abbrev lW:Fd:=f9 (top 45) []
abbrev vX:Fd:=f9 (top 46) []
abbrev El:Fd:=f9 (top 47) ["_law_found"]
abbrev pj:Fd:=f9 (top 48) []
abbrev Ed:Fd:=f9 (top 49) ["in{}"]
abbrev Cl:Fd:=f9 (top 50) []
abbrev lY:Fd:=f9 (top 51) []
abbrev Ef:Fd:=f9 (top 52) []
abbrev Ec:Fd:=f9 (top 53) []
abbrev pB:Fd:=f9 (top 54) []
abbrev ii:Fd:=f9 (top 55) []
abbrev eL:Fd:=f9 (top 56) []
abbrev Eh:Fd:=f9 (top 57) ["~","_law_found"]
abbrev Ei:Fd:=f9 (top 58) ["_law_found","t{}"]
abbrev oV:Fd:=f9 (top 59) []
abbrev Ej:Fd:=f9 (top 60) []
abbrev mO:Fd:=f9 (top 61) []
abbrev law_F:Fd:=f9 (top 62) []
abbrev Z7:Nat:=0
abbrev yq:Nat:=1
abbrev Bb:Nat:=2
abbrev aZ:Nat:=3
abbrev Bs:Nat:=4
abbrev nz:Nat:=5
abbrev zy:Nat:=6
abbrev CW:Nat:=7
abbrev ya:Nat:=8
abbrev we:Nat:=9
abbrev cK:Nat:=10
abbrev v9:Nat:=11
abbrev hR:Nat:=12
abbrev ck:Nat:=13
abbrev qB:Nat:=14
abbrev wd:Nat:=15
abbrev wp:Nat:=16
abbrev wu:Nat:=17
abbrev AY:Nat:=18
abbrev gS:Nat:=19
abbrev yP:Nat:=20
abbrev oy:Nat:=21
abbrev N1:Nat:=22
abbrev CZ:Nat:=23
abbrev pK:Nat:=24
abbrev wB:Nat:=25
abbrev jQ:Nat:=26
abbrev yj:Nat:=27
abbrev vr:Nat:=28
abbrev wC:Nat:=29
abbrev aj:Nat:=30
abbrev xH:Nat:=31
abbrev xw:Nat:=32
abbrev xL:Nat:=33
abbrev zg:Nat:=34
abbrev wb:Nat:=35
abbrev R6:Nat:=36
abbrev xS:Nat:=37
abbrev fN:Nat:=38
abbrev xO:Nat:=39
abbrev zF:Nat:=40
abbrev yL:Nat:=41
abbrev oM:Nat:=42
abbrev wg:Nat:=43
abbrev nG:Nat:=44
def Tb:List Fd:=[oN,vi,yo,Ee,xj,Ea,xR,Ep,mm,vI,vB,BT,Ab,Em,Ek,mD,Eb,En,zq,nM,bU,mS,U8,Eo,Eg,nj,cG,lW,vX,El,pj,Ed,Cl,lY,Ef,Ec,pB,ii,eL,Eh,Ei,oV,Ej,mO,law_F]
def Γ:Gm:=⟨("HandError",.err 0 []) :: ("NoStep",.err 1 ["hand"]) :: ("NoPaper",.err 2 ["word","at"]) :: ("NoStand",.err 3 ["word","at"]) :: ("TooMany",.err 4 ["word"]) :: ("NoType",.err 5 ["type_here"]) :: ("NoRow",.err 6 []) :: ("ENDED",.val (.tup [(.str "holds"),(.str "right"),(.str "down")])) :: ("MOST_STANDS",.val (.int 2000)) :: ("with_at",.fn 0 3) :: ("triangle",.fn 1 1) :: ("first_decider",.fn 2 1) :: ("step_decider",.fn 3 2) :: ("first_levels",.fn 4 1) :: ("step_levels",.fn 5 2) :: ("behind_look",.fn 6 2) :: ("hands_up_to",.fn 7 2) :: ("first_net",.fn 8 2) :: ("end_of",.fn 9 1) :: ("number_of",.fn 10 1) :: ("step_net",.fn 11 3) :: ("hand_behind",.fn 12 2) :: ("local_at",.fn 13 3) :: ("word_at",.fn 14 2) :: ("first_row",.fn 15 1) :: ("step_row",.fn 16 2) :: ("begun",.fn 17 2) :: ("working_in_row",.fn 18 1) :: ("hands_of",.fn 19 1) :: ("first",.fn 20 1) :: ("moving",.fn 21 2) :: ("stepped",.fn 22 3) :: ("stepped_or_none",.fn 23 3) :: ("reached",.fn 24 1) :: ("next_stands",.fn 25 2) :: ("ends",.fn 26 1) :: ("_law_well",.fn 27 2) :: ("_law_draw",.fn 28 2) :: ("_law_greats",.fn 29 2) :: ("_law_with",.fn 30 3) :: ("_law_decided",.fn 31 4) :: ("_law_net_step",.fn 32 3) :: ("_law_seen",.fn 33 2) :: ("_law_level_step",.fn 34 2) :: ("_law_row_step",.fn 35 2) :: ("_law_hands",.fn 36 1) :: ("_law_first",.fn 37 1) :: ("_law_step",.fn 38 3) :: ("_law_refusal",.fn 39 1) :: ("_law_reached",.fn 40 1) :: ("_law_small",.fn 41 2) :: ("_law_told",.fn 42 1) :: ("_law_rests",.fn 43 2) :: ("law",.fn 44 1) :: [],λc c0=>c0==0||c==c0,["hand","word","at","type_here"],[39]⟩
def Rs:Rules:=⟨[xb,Cc,DY,Co,rIx,Di,DR,rFn,Cq,DP,zf,Bi,zu,EB,yf,CC,Cg,Cm,zO,rIf,DW,BE,EC,rSl,Cu,ym,xq,rAppend,wT,uB],[yh,Bq,EE,DL,De,yU],[xA,Cj,sIf,Db,ye,xB,Dv,BX,mH,DS,DB,Ds,xK,Aw,zv],[rE,Bw,DC]⟩
abbrev rn (k i:Nat) (ds:List D):M D:=M4 Rs Γ Tb k i ds
abbrev XX (C:Cf) (n:Nat) (l:Lc) (b:List Stmt) (i:Nat) (ρ:L3.Env) {α:Type} (κ:Fl->M α):M α:=(evK Rs Γ C n).s l (nth b i) ρ κ
local macro_rules|`($x:ident@$e<|$b)=>`(bind $e λ$x=>$b)
local macro_rules|`(())=>`(by kernel_rfl)
section
variable (C:Cf) {α:Type} (κ:Fl->M α) {ua ub uc ud ue uf ug:D} {qa qb qc qd qe qf qg qh qi qj:Option D}
theorem cP:runK Rs Γ C oN [ua,ub,uc]=(n1@(bG ub)<|x2@(slD ua none n1)<|x3@(i9 x2 (.tup [uc]))<|x4@(i9 ub (.int 1))<|n5@(bG x4)<|x6@(slD ua n5 none)<|x7@(i9 x3 x6)<|ret x7):=()
theorem uE:runK Rs Γ C vi [ua]=(x1@(i9 ua (.int 1))<|x2@(m7 ua x1)<|x3@(I0 x2 (.int 2))<|ret x3):=()
theorem zJ:runK Rs Γ C yo [ua]=(x1@(m7 (.tup [(.str "out")]) ua)<|ret (.tup [.non,(.bl false),x1])):=()
def fD:Lc:=u0 Ee
theorem gC:runK Rs Γ C Ee [ua,ub]=i6 (evK Rs Γ C 40) fD Ee.body [ua,ub,none,none,none,none] endD:=()
theorem fU:Ee.body=[nth Ee.body 0,nth Ee.body 1,nth Ee.body 2,nth Ee.body 3,nth Ee.body 4,nth Ee.body 5,nth Ee.body 6]:=()
theorem zI:XX C 40 fD Ee.body 0 [ua,qa,qb,qc,qd,qe] κ=bind (C8 (n4 [2,3,4]) ua [ua,qa,qb,qc,qd,qe]) κ:=()
theorem wL:XX C 40 fD Ee.body 1 [qa,ua,qb,qc,ub,qd] κ=(x1@(ixD ub ua)<|κ (.nx [qa,ua,qb,qc,ub,x1])):=()
theorem wR:XX C 40 fD Ee.body 2 [qa,ua,qb,qc,qd,ub] κ=(x1@(c8 .In ub (.tup [(.str "holds"),(.str "right"),(.str "down")]))<|z2@(asB x1)<|if z2 then (x3@(L7 1 ["hand"] [ua])<|bind (w5 x3) (fin κ)) else (κ (.nx [qa,ua,qb,qc,qd,ub]))):=()
theorem uN:XX C 40 fD Ee.body 3 [qa,ua,qb,ub,uc,ud] κ=(x1@(c8 .Eq ud (.str "out"))<|z2@(asB x1)<|if z2 then (x3@(C 0 [uc,ua,(.str "ask")])<|κ (.rt (.tup [ua,ub,x3]))) else (κ (.nx [qa,ua,qb,ub,uc,ud]))):=()
theorem yR:XX C 40 fD Ee.body 4 [qa,ua,ub,uc,ud,ue] κ=(x1@(c8 .Eq ue (.str "ask"))<|z2@(asB x1)<|if z2 then (z3@(v1 uc)<|if z3 then (x4@(C 0 [ud,ua,(.str "right")])<|κ (.rt (.tup [ub,uc,x4]))) else (x5@(C 0 [ud,ua,(.str "close")])<|κ (.rt (.tup [ub,uc,x5])))) else (κ (.nx [qa,ua,ub,uc,ud,ue]))):=()
theorem zc:XX C 40 fD Ee.body 5 [qa,ua,ub,qb,uc,ud] κ=(x1@(c8 .Eq ud (.str "close"))<|z2@(asB x1)<|if z2 then (x3@(C 0 [uc,ua,(.str "look")])<|κ (.rt (.tup [ub,(.bl true),x3]))) else (κ (.nx [qa,ua,ub,qb,uc,ud]))):=()
theorem DK:XX C 40 fD Ee.body 6 [qa,ua,ub,uc,ud,qb] κ=(x1@(c8 .Eq ub ua)<|z2@(asB x1)<|if z2 then (x3@(C 0 [ud,ua,(.str "holds")])<|κ (.rt (.tup [ub,uc,x3]))) else (x4@(C 0 [ud,ua,(.str "down")])<|κ (.rt (.tup [ub,uc,x4])))):=()
theorem xC:runK Rs Γ C xj [ua]=(x1@(m7 (.tup [.non]) ua)<|x2@(m7 (.tup [(.tup [(.str "out")])]) ua)<|ret (.tup [x1,x2])):=()
def cz:Lc:=u0 Ea
theorem wn:runK Rs Γ C Ea [ua,ub]=i6 (evK Rs Γ C 40) cz Ea.body [ua,ub,none,none,none,none] endD:=()
theorem xJ:Ea.body=[nth Ea.body 0,nth Ea.body 1,nth Ea.body 2,nth Ea.body 3,nth Ea.body 4,nth Ea.body 5]:=()
theorem Da:XX C 40 cz Ea.body 0 [ua,qa,qb,qc,qd,qe] κ=bind (C8 (n4 [2,3]) ua [ua,qa,qb,qc,qd,qe]) κ:=()
theorem DG:XX C 40 cz Ea.body 1 [qa,ua,qb,ub,qc,qd] κ=(x1@(ixD ub ua)<|κ (.nx [qa,ua,qb,ub,x1,qd])):=()
theorem zp:XX C 40 cz Ea.body 2 [qa,ua,qb,qc,ub,qd] κ=(x1@(ixD ub (.int 0))<|x2@(c8 .Eq x1 (.str "holds"))<|z3@(asB x2)<|if z3 then (x4@(L7 1 ["hand"] [ua])<|bind (w5 x4) (fin κ)) else (κ (.nx [qa,ua,qb,qc,ub,qd]))):=()
theorem xU:XX C 40 cz Ea.body 3 [qa,ua,ub,uc,ud,qb] κ=(x1@(ixD ud (.int 0))<|x2@(c8 .Eq x1 (.str "look"))<|z3@(asB x2)<|if z3 then (x4@(ixD ud (.int 1))<|x5@(C 6 [ub,x4])<|x6@(C 0 [uc,ua,x5])<|κ (.rt (.tup [ub,x6]))) else (κ (.nx [qa,ua,ub,uc,ud,qb]))):=()
theorem Bz:XX C 40 cz Ea.body 4 [qa,qb,ua,qc,ub,qd] κ=(x1@(ixD ub (.int 0))<|x2@(c8 .Eq x1 (.str "out"))<|z3@(asB x2)<|if z3 then (x4@(k8 ua)<|κ (.nx [qa,qb,ua,qc,ub,x4])) else (x5@(ixD ub (.int 1))<|κ (.nx [qa,qb,ua,qc,ub,x5]))):=()
theorem DU:XX C 40 cz Ea.body 5 [qa,ua,ub,uc,qb,ud] κ=(x1@(C 0 [ub,ua,ud])<|x2@(C 0 [uc,ua,(.tup [(.str "look"),ud])])<|κ (.rt (.tup [x1,x2]))):=()
theorem wG:runK Rs Γ C xR [ua,ub]=(x1@(C 7 [ua,ub])<|x2@(k8 x1)<|x3@(c8 .LtE ub x2)<|z4@(asB x3)<|if z4 then (ret (.tup [(.str "holds"),x1])) else (x5@(az ub (.int 1))<|ret (.tup [(.str "put"),x5]))):=()
def z5_L:Lc:=u0 Ep
def bb:Expr×List Expr×Scope:=match (nth Ep.body 0) with
 | .Return (some (.Call _ [.ListComp elt [⟨_,_,ifs,_⟩] scope _] _ _)) _=>(elt,ifs,scope)
 | _=>(.Name "" ⟨0,0,0,0⟩,[],default)
def pz (C:Cf) (ρ:L3.Env) (d:D):M Bool:=match h9 (e9 z5_L.N) (j7 bb.2.2) with
 | some caps=>qZ (testsK (evK Rs Γ C 37) (h8 z5_L bb.2.2 ["hand","box"]) bb.2.1) (mk2 (A0 caps ρ) d)
 | none=>bad
theorem fo:pz C [qa,ua] (.tup [ub,uc])=(x1@(c8 .IsNot uc .non)<|z2@(asB x1)<|if z2 then (x3@(c8 .LtE uc ua)<|z4@(asB x3)<|ret z4) else (ret false)):=()
def gI (C:Cf) (ρ:L3.Env) (d:D):M D:=match h9 (e9 z5_L.N) (j7 bb.2.2) with
 | some caps=>(evK Rs Γ C 37).e (h8 z5_L bb.2.2 ["hand","box"]) bb.1 (mk2 (A0 caps ρ) d) ret
 | none=>bad
theorem gp:gI C [qa,qb] (.tup [ua,ub])=ret ua:=()
theorem yT:runK Rs Γ C Ep [ua,ub]=(l2@(nx (sm1@(eA ua)<|j0 sm1.1 (pz C [ua,ub]) (gI C [ua,ub]) sm1.2 0 []))<|x3@(O1 (.lst l2))<|ret x3):=()
theorem sy:runK Rs Γ C mm [ua,ub]=(x1@(C 1 [ua])<|x2@(m7 (.tup [(.tup [.non,(.bl false)])]) x1)<|x3@(m7 (.tup [(.tup [(.tup []),(.str "out")])]) ub)<|ret (.tup [x2,x3])):=()
theorem uK:runK Rs Γ C vI [ua]=(x@(tupOf ua)<|x1@(countT ua [(.str "down")])<|x@(tupOf ua)<|x2@(countT ua [(.str "right")])<|ret (.tup [x1,x2])):=()
theorem rW:runK Rs Γ C vB [ua]=(x1@(qF ua)<|x2@(C 1 [x1])<|x3@(ixD ua (.int 0))<|x4@(i9 x2 x3)<|ret x4):=()
def F7:Lc:=u0 BT
theorem cq:runK Rs Γ C BT [ua,ub,uc]=i6 (evK Rs Γ C 40) F7 BT.body [ua,ub,uc,none,none,none,none,none,none,none,none] endD:=()
theorem dE:BT.body=[nth BT.body 0,nth BT.body 1,nth BT.body 2,nth BT.body 3,nth BT.body 4,nth BT.body 5,nth BT.body 6]:=()
theorem lS:XX C 40 F7 BT.body 0 [qa,ua,qb,qc,qd,qe,qf,qg,qh,qi,qj] κ=bind (C8 (n4 [3,4]) ua [qa,ua,qb,qc,qd,qe,qf,qg,qh,qi,qj]) κ:=()
theorem oW:XX C 40 F7 BT.body 1 [qa,qb,ua,qc,ub,qd,qe,qf,qg,qh,qi] κ=(x1@(ixD ub ua)<|x2@(ixD x1 (.int 0))<|κ (.nx [qa,qb,ua,qc,ub,x2,qe,qf,qg,qh,qi])):=()
theorem lz:XX C 40 F7 BT.body 2 [qa,qb,qc,qd,qe,ua,qf,qg,qh,qi,qj] κ=(x1@(C 9 [ua])<|x2@(C 10 [x1])<|κ (.nx [qa,qb,qc,qd,qe,ua,x2,qg,qh,qi,qj])):=()
theorem nw:XX C 40 F7 BT.body 3 [ua,ub,uc,qa,qb,qc,ud,qd,qe,qf,qg] κ=(x1@(C 13 [ua,ub,ud])<|x2@(C 3 [x1,uc])<|bind (C8 (n4 [7,8,9]) x2 [ua,ub,uc,qa,qb,qc,ud,qd,qe,qf,qg]) κ):=()
theorem vP:XX C 40 F7 BT.body 4 [qa,qb,ua,qc,qd,ub,qe,qf,qg,uc,qh] κ=(x1@(ixD uc ua)<|x2@(C 12 [ub,x1])<|κ (.nx [qa,qb,ua,qc,qd,ub,qe,qf,qg,uc,x2])):=()
theorem ve:XX C 40 F7 BT.body 5 [ua,qa,ub,qb,qc,qd,qe,qf,qg,qh,uc] κ=(x1@(ixD uc (.int 0))<|x2@(k8 x1)<|x3@(c8 .GtE x2 ua)<|z4@(asB x3)<|if z4 then (x5@(L7 1 ["hand"] [ub])<|bind (w5 x5) (fin κ)) else (κ (.nx [ua,qa,ub,qb,qc,qd,qe,qf,qg,qh,uc]))):=()
theorem AV:XX C 40 F7 BT.body 6 [qa,qb,ua,ub,uc,qc,ud,ue,uf,qd,ug] κ=(x1@(C 0 [ub,ud,(.tup [ue,uf])])<|x2@(C 0 [uc,ua,ug])<|κ (.rt (.tup [x1,x2]))):=()
theorem mW:runK Rs Γ C Ab [ua,ub]=(x1@(c8 .In ub (.tup [(.str "right"),(.str "down")]))<|z2@(asB x1)<|if z2 then (x3@(i9 ua (.tup [ub]))<|ret (.tup [x3,(.str "out")])) else (ret (.tup [ua,ub]))):=()
def gy:Lc:=u0 Em
theorem rY:runK Rs Γ C Em [ua,ub,uc]=i6 (evK Rs Γ C 40) gy Em.body [ua,ub,uc,none,none,none,none] endD:=()
theorem rG:Em.body=[nth Em.body 0,nth Em.body 1,nth Em.body 2]:=()
theorem AX:XX C 40 gy Em.body 0 [qa,ua,qb,qc,qd,qe,qf] κ=bind (C8 (n4 [3,4]) ua [qa,ua,qb,qc,qd,qe,qf]) κ:=()
theorem zM:XX C 40 gy Em.body 1 [qa,qb,ua,ub,qc,qd,qe] κ=(x1@(ixD ub ua)<|bind (C8 (n4 [5,6]) x1 [qa,qb,ua,ub,qc,qd,qe]) κ):=()
theorem AJ:XX C 40 gy Em.body 2 [qa,qb,ua,qc,ub,uc,ud] κ=(l4@(nx (sm2@(N5 ub)<|j0 sm2.1 (λd1=>ret true) (λd1=>x3@(C 14 [d1,ua])<|ret x3) sm2.2 0 []))<|x5@(O1 (.lst l4))<|κ (.rt (.tup [uc,ud,x5]))):=()
def bo:Lc:=u0 Ek
theorem rQ:runK Rs Γ C Ek [ua,ub]=i6 (evK Rs Γ C 40) bo Ek.body [ua,ub,none,none,none,none] endD:=()
theorem sP:Ek.body=[nth Ek.body 0,nth Ek.body 1,nth Ek.body 2]:=()
theorem An:XX C 40 bo Ek.body 0 [ua,qa,qb,qc,qd,qe] κ=bind (C8 (n4 [2,3]) ua [ua,qa,qb,qc,qd,qe]) κ:=()
def W5:List Stmt:=A9 (nth Ek.body 1)
def dU (C:Cf):L3.Env->M Fl:=λρ'=>i6 (evK Rs Γ C 39) bo W5 ρ' ret
theorem BJ:XX C 40 bo Ek.body 1 [qa,qb,ua,qc,qd,qe] κ=(sm1@(eA ua)<|bind (z0 sm1.1 (n4 [4,5]) (dU C) sm1.2 0 [qa,qb,ua,qc,qd,qe]) κ):=()
theorem CI:XX C 40 bo Ek.body 2 [qa,ua,ub,uc,qb,qc] κ=(x1@(C 9 [ub])<|x2@(C 10 [x1])<|x3@(c8 .Eq x2 ua)<|z4@(asB x3)<|if z4 then (κ (.rt uc)) else (κ (.rt (.str "out")))):=()
theorem dm:W5=[nth W5 0]:=()
theorem kN:XX C 39 bo W5 0 [qa,ua,ub,qb,uc,ud] κ=(n1@(bG uc)<|x2@(slD ub none n1)<|x3@(C 9 [x2])<|x4@(C 10 [x3])<|x5@(c8 .Eq x4 ua)<|z6@(asB x5)<|if z6 then (κ (.rt ud)) else (κ (.nx [qa,ua,ub,qb,uc,ud]))):=()
theorem sX:runK Rs Γ C mD [ua]=(x1@(m7 (.tup [.non]) ua)<|x2@(m7 (.tup [(.tup [(.str "rests")])]) ua)<|ret (.tup [x1,x2,(.int 0)])):=()
def P5:Lc:=u0 Eb
theorem qY:runK Rs Γ C Eb [ua,ub]=i6 (evK Rs Γ C 40) P5 Eb.body [ua,ub,none,none,none,none,none] endD:=()
theorem qV:Eb.body=[nth Eb.body 0,nth Eb.body 1,nth Eb.body 2,nth Eb.body 3,nth Eb.body 4,nth Eb.body 5,nth Eb.body 6,nth Eb.body 7]:=()
theorem zn:XX C 40 P5 Eb.body 0 [ua,qa,qb,qc,qd,qe,qf] κ=bind (C8 (n4 [2,3,4]) ua [ua,qa,qb,qc,qd,qe,qf]) κ:=()
theorem zh:XX C 40 P5 Eb.body 1 [qa,ua,qb,ub,qc,qd,qe] κ=(x1@(ixD ub ua)<|κ (.nx [qa,ua,qb,ub,qc,x1,qe])):=()
theorem CB:XX C 40 P5 Eb.body 2 [ua,ub,qa,qb,qc,uc,qd] κ=(x1@(ixD uc (.int 0))<|x2@(c8 .Eq x1 (.str "rests"))<|z3@(asB x2)<|if z3 then (x4@(C 17 [ua,ub])<|κ (.rt x4)) else (κ (.nx [ua,ub,qa,qb,qc,uc,qd]))):=()
theorem vQ:XX C 40 P5 Eb.body 3 [qa,qb,qc,qd,qe,ua,qf] κ=(x1@(ixD ua (.int 1))<|κ (.nx [qa,qb,qc,qd,qe,ua,x1])):=()
theorem vG:XX C 40 P5 Eb.body 4 [qa,ua,ub,uc,ud,ue,uf] κ=(x1@(ixD ue (.int 0))<|x2@(c8 .Eq x1 (.str "holds"))<|z3@(asB x2)<|if z3 then (x4@(az uf (.int 1))<|x5@(C 0 [ub,x4,.non])<|x6@(C 0 [uc,ua,(.tup [(.str "rests")])])<|κ (.rt (.tup [x5,x6,ud]))) else (κ (.nx [qa,ua,ub,uc,ud,ue,uf]))):=()
theorem As:XX C 40 P5 Eb.body 5 [qa,ua,ub,uc,ud,qb,ue] κ=(x1@(az ue (.int 1))<|x2@(ixD ub x1)<|x3@(c8 .Is x2 .non)<|z4@(asB x3)<|if z4 then (x5@(az ue (.int 1))<|x6@(C 0 [ub,x5,ua])<|x7@(C 0 [uc,ua,(.tup [(.str "holds"),ue])])<|κ (.rt (.tup [x6,x7,ud]))) else (κ (.nx [qa,ua,ub,uc,ud,qb,ue]))):=()
theorem zZ:XX C 40 P5 Eb.body 6 [qa,ua,ub,qb,qc,qd,uc] κ=(x1@(k8 ub)<|x2@(c8 .Eq uc x1)<|z3@(asB x2)<|if z3 then (x4@(L7 1 ["hand"] [ua])<|bind (w5 x4) (fin κ)) else (κ (.nx [qa,ua,ub,qb,qc,qd,uc]))):=()
theorem AH:XX C 40 P5 Eb.body 7 [qa,ua,ub,uc,ud,qb,ue] κ=(x1@(i9 ue (.int 1))<|x2@(C 0 [uc,ua,(.tup [(.str "tries"),x1])])<|κ (.rt (.tup [ub,x2,ud]))):=()
def hU:Lc:=u0 En
theorem rh:runK Rs Γ C En [ua,ub]=i6 (evK Rs Γ C 40) hU En.body [ua,ub,none,none,none,none] endD:=()
theorem uP:En.body=[nth En.body 0,nth En.body 1,nth En.body 2]:=()
theorem AR:XX C 40 hU En.body 0 [ua,qa,qb,qc,qd,qe] κ=bind (C8 (n4 [2,3,4]) ua [ua,qa,qb,qc,qd,qe]) κ:=()
theorem AM:XX C 40 hU En.body 1 [qa,ua,qb,ub,qc,qd] κ=(x1@(C 0 [ub,ua,(.tup [(.str "tries"),(.int 1)])])<|κ (.nx [qa,ua,qb,ub,qc,x1])):=()
theorem zb:XX C 40 hU En.body 2 [qa,qb,ua,qc,ub,uc] κ=(x1@(C 18 [uc])<|x2@(jw [ub,x1])<|κ (.rt (.tup [ua,uc,x2]))):=()
theorem xD:runK Rs Γ C zq [ua]=(l6@(nx (sm2@(N5 ua)<|j0 sm2.1 (λd1=>x3@(ixD d1 (.int 0))<|x4@(c8 .NotEq x3 (.str "rests"))<|z5@(asB x4)<|ret z5) (λd1=>ret d1) sm2.2 0 []))<|x7@(k8 (.lst l6))<|ret x7):=()
theorem jK:runK Rs Γ C nM [ua]=(x1@(ixD ua (.int 0))<|x2@(c8 .Eq x1 (.str "levels"))<|z3@(asB x2)<|if z3 then (x4@(ixD ua (.int 1))<|x5@(k8 x4)<|ret x5) else (x6@(kC (.int 1))<|x7@(ixD ua x6)<|ret x7)):=()
theorem X6:runK Rs Γ C bU [ua]=(x1@(C 19 [ua])<|x2@(ixD ua (.int 0))<|x3@(c8 .Eq x2 (.str "decider"))<|z4@(asB x3)<|if z4 then (x5@(C 2 [x1])<|ret x5) else (x6@(ixD ua (.int 0))<|x7@(c8 .Eq x6 (.str "net"))<|z8@(asB x7)<|if z8 then (x9@(ixD ua (.int 1))<|x10@(C 8 [x9,x1])<|ret x10) else (x11@(ixD ua (.int 0))<|x12@(c8 .Eq x11 (.str "levels"))<|z13@(asB x12)<|if z13 then (x14@(C 4 [x1])<|ret x14) else (x15@(C 15 [x1])<|ret x15)))):=()
theorem sG:runK Rs Γ C mS [ua,ub]=(l7@(nx (x2@(C 19 [ua])<|sm3@(J7 [x2])<|j0 sm3.1 (λd1=>x4@(C 23 [ua,ub,d1])<|x5@(c8 .IsNot x4 .non)<|z6@(asB x5)<|ret z6) (λd1=>ret d1) sm3.2 0 []))<|ret (.lst l7)):=()
theorem D8:runK Rs Γ C U8 [ua,ub,uc]=(x1@(ixD ua (.int 0))<|x2@(c8 .Eq x1 (.str "decider"))<|z3@(asB x2)<|if z3 then (x4@(C 3 [ub,uc])<|ret x4) else (x5@(ixD ua (.int 0))<|x6@(c8 .Eq x5 (.str "net"))<|z7@(asB x6)<|if z7 then (x8@(ixD ua (.int 1))<|x9@(C 11 [x8,ub,uc])<|ret x9) else (x10@(ixD ua (.int 0))<|x11@(c8 .Eq x10 (.str "levels"))<|z12@(asB x11)<|if z12 then (x13@(C 5 [ub,uc])<|ret x13) else (x14@(C 16 [ub,uc])<|ret x14)))):=()
def kI:Lc:=u0 Eo
theorem wW:runK Rs Γ C Eo [ua,ub,uc]=i6 (evK Rs Γ C 40) kI Eo.body [ua,ub,uc] endD:=()
theorem wq:Eo.body=[nth Eo.body 0]:=()
def vo (C:Cf):L3.Env->M Fl:=bX (eBK (evK Rs Γ C 39) Γ C kI) kI (nth (iE (nth Eo.body 0)) 0)
theorem bu:vo C [ua,ub,uc]=(x1@(C 22 [ua,ub,uc])<|ret (.rt x1)):=()
def cc:List Stmt:=hW (nth Eo.body 0)
def vn (C:Cf):L3.Env->M Fl:=λρ'=>i6 (evK Rs Γ C 39) (F4 kI) cc ρ' ret
theorem Dk:XX C 40 kI Eo.body 0 [qa,qb,qc] κ=bind (V8 (vo C) (λc=>Γ.sub c 1) none (vn C) [qa,qb,qc]) κ:=()
theorem fO:cc=[nth cc 0]:=()
theorem ny:(evK Rs Γ C 39).s (F4 kI) (nth cc 0) [qa,qb,qc] κ=κ (.rt .non):=()
def A1:Lc:=u0 Eg
theorem gx:runK Rs Γ C Eg [ua]=i6 (evK Rs Γ C 40) A1 Eg.body [ua,none,none,none,none,none] endD:=()
theorem jG:Eg.body=[nth Eg.body 0,nth Eg.body 1,nth Eg.body 2,nth Eg.body 3,nth Eg.body 4]:=()
theorem vU:XX C 40 A1 Eg.body 0 [ua,qa,qb,qc,qd,qe] κ=(x1@(C 20 [ua])<|x2@(newL [x1])<|κ (.nx [ua,x2,qb,qc,qd,qe])):=()
theorem vR:XX C 40 A1 Eg.body 1 [qa,ua,qb,qc,qd,qe] κ=(x1@(ixD ua (.int 0))<|x2@(U1 [(x1,(.bl true))])<|κ (.nx [qa,ua,x2,qc,qd,qe])):=()
theorem vh:XX C 40 A1 Eg.body 2 [qa,qb,qc,qd,qe,qf] κ=κ (.nx [qa,qb,qc,some (.int 0),qe,qf]):=()
def om (C:Cf):L3.Env->M Bool:=λρ'=>(evK Rs Γ C 39).t A1 (fc (nth Eg.body 3)) ρ' ret
theorem Y6:om C [qa,ua,qb,ub,qc,qd]=(x1@(k8 ua)<|x2@(c8 .Lt ub x1)<|z3@(asB x2)<|ret z3):=()
def t0:List Stmt:=A9 (nth Eg.body 3)
def Q1 (C:Cf):L3.Env->M Fl:=λρ'=>i6 (evK Rs Γ C 39) A1 t0 ρ' ret
theorem vV:XX C 40 A1 Eg.body 3 [qa,qb,qc,qd,qe,qf] κ=bind (t6 (om C) (Q1 C) 10000 [qa,qb,qc,qd,qe,qf]) κ:=()
theorem za:XX C 40 A1 Eg.body 4 [qa,ua,qb,qc,qd,qe] κ=κ (.rt ua):=()
theorem ey:t0=[nth t0 0,nth t0 1,nth t0 2,nth t0 3]:=()
theorem bN:XX C 39 A1 t0 0 [qa,ua,qb,ub,qc,qd] κ=(x1@(ixD ua ub)<|κ (.nx [qa,ua,qb,ub,x1,qd])):=()
def A8:List Stmt:=A9 (nth t0 1)
def E1 (C:Cf):L3.Env->M Fl:=λρ'=>i6 (evK Rs Γ C 38) A1 A8 ρ' ret
theorem bf:XX C 39 A1 t0 1 [ua,qa,qb,qc,ub,qd] κ=(x1@(C 25 [ua,ub])<|sm2@(N5 x1)<|bind (z0 sm2.1 (λd ρ=>some (ρ.set 5 (some d))) (E1 C) sm2.2 0 [ua,qa,qb,qc,ub,qd]) κ):=()
theorem bQ:XX C 39 A1 t0 2 [qa,ua,qb,qc,qd,qe] κ=(x1@(k8 ua)<|x2@(c8 .Gt x1 (.int 2000))<|z3@(asB x2)<|if z3 then (x4@(L7 4 ["word"] [(.str "stands")])<|bind (w5 x4) (fin κ)) else (κ (.nx [qa,ua,qb,qc,qd,qe]))):=()
theorem jY:XX C 39 A1 t0 3 [qa,qb,qc,ua,qd,qe] κ=(x1@(gk (λi j=>i+j) ua (.int 1))<|κ (.nx [qa,qb,qc,x1,qd,qe])):=()
theorem W1:A8=[nth A8 0]:=()
theorem bB:XX C 38 A1 A8 0 [qa,ua,ub,qb,qc,uc] κ=(x1@(Y9 true uc ub)<|z2@(asB x1)<|if z2 then (x@(M3 ub uc (.bl true))<|x@(lstOf ua)<|x3@(Q9 ua [uc])<|κ (.nx [qa,ua,ub,qb,qc,uc])) else (κ (.nx [qa,ua,ub,qb,qc,uc]))):=()
theorem tP:runK Rs Γ C nj [ua,ub]=(l5@(nx (x2@(C 21 [ua,ub])<|sm3@(N5 x2)<|j0 sm3.1 (λd1=>ret true) (λd1=>x4@(C 22 [ua,ub,d1])<|ret x4) sm3.2 0 []))<|ret (.lst l5)):=()
theorem fJ:runK Rs Γ C cG [ua]=(x2@(C 24 [ua])<|sm3@(N5 x2)<|l6@(nx (j0 sm3.1 (λd1=>x4@(C 21 [ua,d1])<|z5@(v1 x4)<|ret (!z5)) (λd1=>ret d1) sm3.2 0 []))<|x7@(newL l6)<|ret x7):=()
theorem rj:runK Rs Γ C lW [ua,ub]=(x1@(slD ua none (some 63))<|x2@(m7 (.int 17) ub)<|x3@(jU [((.str "cells"),x1),((.str "at"),ub),((.str "left"),(.int 0)),((.str "turn"),x2)])<|ret x3):=()
theorem tJ (C:Cf) (p x:D):runK Rs Γ C vX [p,x]=il p x:=()
def E9:Lc:=u0 El
theorem sR:runK Rs Γ C El [ua,ub]=i6 (evK Rs Γ C 40) E9 El.body [ua,ub,none,none,none,none] endD:=()
theorem rH:El.body=[nth El.body 0,nth El.body 1,nth El.body 2]:=()
theorem BN:XX C 40 E9 El.body 0 [qa,qb,qc,qd,qe,qf] κ=(x1@(newL [])<|κ (.nx [qa,qb,x1,qd,qe,qf])):=()
def p8:List Stmt:=A9 (nth El.body 1)
def dv (C:Cf):L3.Env->M Fl:=λρ'=>i6 (evK Rs Γ C 39) E9 p8 ρ' ret
theorem zi:XX C 40 E9 El.body 1 [qa,ua,qb,qc,qd,qe] κ=(sm1@(J7 [ua])<|bind (z0 sm1.1 (λd ρ=>some (ρ.set 3 (some d))) (dv C) sm1.2 0 [qa,ua,qb,qc,qd,qe]) κ):=()
theorem CS:XX C 40 E9 El.body 2 [qa,qb,ua,qc,qd,qe] κ=(x1@(O1 ua)<|κ (.rt x1)):=()
theorem df:p8=[nth p8 0,nth p8 1,nth p8 2,nth p8 3]:=()
theorem kn:XX C 39 E9 p8 0 [ua,qa,qb,qc,qd,qe] κ=(x1@(C 28 [ua,(.int 10)])<|x2@(fG (.int 10) (.int 9))<|x3@(i9 x2 (.int 1))<|x4@(C 28 [ua,x3])<|x5@(fG (.int 10) (.int 9))<|x6@(C 28 [ua,(.int 4)])<|x7@(az x5 x6)<|x8@(C 28 [ua,(.int 100)])<|κ (.nx [ua,qa,qb,qc,some (.lst [x1,x4,x7,x8]),qe])):=()
theorem jg:XX C 39 E9 p8 1 [ua,qa,qb,qc,ub,qd] κ=(x1@(C 28 [ua,(.int 4)])<|x2@(ixD ub x1)<|κ (.nx [ua,qa,qb,qc,ub,x2])):=()
def M6 (C:Cf):L3.Env->M Bool:=λρ'=>(evK Rs Γ C 38).t E9 (fc (nth p8 2)) ρ' ret
theorem al:M6 C [qa,qb,ua,qc,qd,ub]=(x1@(c8 .In ub ua)<|z2@(asB x1)<|ret z2):=()
def A7:List Stmt:=A9 (nth p8 2)
def D4 (C:Cf):L3.Env->M Fl:=λρ'=>i6 (evK Rs Γ C 38) E9 A7 ρ' ret
theorem jv:XX C 39 E9 p8 2 [qa,qb,qc,qd,qe,qf] κ=bind (t6 (M6 C) (D4 C) 10000 [qa,qb,qc,qd,qe,qf]) κ:=()
theorem kG:XX C 39 E9 p8 3 [qa,qb,ua,qc,qd,ub] κ=(x@(lstOf ua)<|x1@(Q9 ua [ub])<|κ (.nx [qa,qb,ua,qc,qd,ub])):=()
theorem W0:A7=[nth A7 0]:=()
theorem ay:XX C 38 E9 A7 0 [qa,qb,qc,qd,qe,ua] κ=(x1@(i9 ua (.int 1))<|x2@(fG (.int 10) (.int 9))<|x3@(i9 x2 (.int 1))<|x4@(R8 x1 x3)<|κ (.nx [qa,qb,qc,qd,qe,x4])):=()
theorem iM:runK Rs Γ C pj [ua,ub,uc]=(n1@(bG ub)<|x2@(slD ua none n1)<|x3@(i9 x2 (.tup [uc]))<|x4@(i9 ub (.int 1))<|n5@(bG x4)<|x6@(slD ua n5 none)<|x7@(i9 x3 x6)<|ret x7):=()
def V3:Lc:=u0 Ed
theorem rZ:runK Rs Γ C Ed [ua,ub,uc,ud]=i6 (evK Rs Γ C 40) V3 Ed.body [ua,ub,uc,ud,none] endD:=()
theorem qC:Ed.body=[nth Ed.body 0,nth Ed.body 1,nth Ed.body 2,nth Ed.body 3,nth Ed.body 4]:=()
theorem CV:XX C 40 V3 Ed.body 0 [qa,qb,qc,qd,qe] κ=(x1@(jU [((.str "out"),(.str "ask")),((.str "close"),(.str "look"))])<|κ (.nx [qa,qb,qc,qd,x1])):=()
theorem Bx:XX C 40 V3 Ed.body 1 [qa,ua,qb,qc,ub] κ=(z1@(v1 ua)<|if z1 then (x@(B7 ub (.str "ask") (.str "right"))<|κ (.nx [qa,ua,qb,qc,ub])) else (x@(B7 ub (.str "ask") (.str "close"))<|κ (.nx [qa,ua,qb,qc,ub]))):=()
theorem AT:XX C 40 V3 Ed.body 2 [ua,qa,qb,ub,uc] κ=(x1@(c8 .Eq ua ub)<|z2@(asB x1)<|if z2 then (x@(B7 uc (.str "look") (.str "holds"))<|κ (.nx [ua,qa,qb,ub,uc])) else (x@(B7 uc (.str "look") (.str "down"))<|κ (.nx [ua,qa,qb,ub,uc]))):=()
theorem zx:XX C 40 V3 Ed.body 3 [qa,qb,ua,qc,ub] κ=(x1@(gM true ua ub)<|z2@(asB x1)<|if z2 then (κ (.rt .non)) else (κ (.nx [qa,qb,ua,qc,ub]))):=()
theorem jI:XX C 40 V3 Ed.body 4 [ua,ub,uc,ud,ue] κ=(x1@(c8 .Eq uc (.str "out"))<|z2@(asB x1)<|if z2 then (c3@(v1 ub)<|if c3 then (x4@(ixD ue uc)<|κ (.rt (.tup [ud,ub,x4]))) else (x5@(c8 .Eq uc (.str "close"))<|x6@(ixD ue uc)<|κ (.rt (.tup [ud,x5,x6])))) else (c7@(v1 ub)<|if c7 then (x8@(ixD ue uc)<|κ (.rt (.tup [ua,ub,x8]))) else (x9@(c8 .Eq uc (.str "close"))<|x10@(ixD ue uc)<|κ (.rt (.tup [ua,x9,x10]))))):=()
def G2:Lc:=u0 Cl
theorem rM:runK Rs Γ C Cl [ua,ub,uc]=i6 (evK Rs Γ C 40) G2 Cl.body [ua,ub,uc,none,none,none,none,none,none,none] endD:=()
theorem tm:Cl.body=[nth Cl.body 0,nth Cl.body 1,nth Cl.body 2,nth Cl.body 3,nth Cl.body 4,nth Cl.body 5,nth Cl.body 6,nth Cl.body 7]:=()
theorem AL:XX C 40 G2 Cl.body 0 [qa,ua,qb,qc,qd,qe,qf,qg,qh,qi] κ=bind (C8 (n4 [3,4]) ua [qa,ua,qb,qc,qd,qe,qf,qg,qh,qi]) κ:=()
theorem CU:XX C 40 G2 Cl.body 1 [qa,qb,ua,qc,ub,qd,qe,qf,qg,qh] κ=(x1@(ixD ub ua)<|bind (C8 (n4 [5,6]) x1 [qa,qb,ua,qc,ub,qd,qe,qf,qg,qh]) κ):=()
theorem AS:XX C 40 G2 Cl.body 2 [qa,qb,qc,qd,qe,ua,qf,qg,qh,qi] κ=(x1@(k8 ua)<|x2@(k8 ua)<|x3@(i9 x2 (.int 1))<|x4@(m7 x1 x3)<|x5@(I0 x4 (.int 2))<|x@(tupOf ua)<|x6@(countT ua [(.str "down")])<|x7@(i9 x5 x6)<|κ (.nx [qa,qb,qc,qd,qe,ua,qf,x7,qh,qi])):=()
theorem zl:XX C 40 G2 Cl.body 3 [qa,qb,ua,ub,qc,qd,uc,ud,qe,qf] κ=(x1@(ixD ub ud)<|x2@(ixD x1 (.int 0))<|x3@(ixD ub ud)<|x4@(ixD x3 (.int 1))<|x5@(C 31 [x2,x4,uc,ua])<|κ (.nx [qa,qb,ua,ub,qc,qd,uc,ud,x5,qf])):=()
theorem li:XX C 40 G2 Cl.body 4 [qa,qb,qc,qd,qe,qf,qg,qh,ua,qi] κ=(x1@(c8 .Is ua .non)<|z2@(asB x1)<|if z2 then (κ (.rt .non)) else (κ (.nx [qa,qb,qc,qd,qe,qf,qg,qh,ua,qi]))):=()
theorem vf:XX C 40 G2 Cl.body 5 [qa,qb,qc,qd,qe,ua,qf,qg,ub,qh] κ=(x1@(ixD ub (.int 2))<|κ (.nx [qa,qb,qc,qd,qe,ua,qf,qg,ub,some (.tup [ua,x1])])):=()
theorem vc:XX C 40 G2 Cl.body 6 [ua,qa,qb,qc,qd,ub,qe,qf,uc,qg] κ=(x1@(ixD uc (.int 2))<|x2@(c8 .In x1 (.tup [(.str "right"),(.str "down")]))<|z3@(asB x2)<|if z3 then (x4@(k8 ub)<|x5@(i9 x4 (.int 1))<|x6@(c8 .Eq x5 ua)<|z7@(asB x6)<|if z7 then (κ (.rt .non)) else (x8@(slD uc (some 2) none)<|x9@(i9 ub x8)<|κ (.nx [ua,qa,qb,qc,qd,ub,qe,qf,uc,some (.tup [x9,(.str "out")])]))) else (κ (.nx [ua,qa,qb,qc,qd,ub,qe,qf,uc,qg]))):=()
theorem vO:XX C 40 G2 Cl.body 7 [qa,qb,ua,ub,uc,qc,qd,ud,ue,uf] κ=(x1@(slD ue none (some 2))<|x2@(C 30 [ub,ud,x1])<|x3@(C 30 [uc,ua,uf])<|κ (.rt (.tup [x2,x3]))):=()
theorem qW:runK Rs Γ C lY [ua,ub]=(l10@(nx (x2@(k8 ua)<|sm3@(J7 [x2])<|j0 sm3.1 (λd1=>x4@(ixD ua d1)<|x5@(c8 .IsNot x4 .non)<|z6@(asB x5)<|if z6 then (x7@(ixD ua d1)<|x8@(c8 .LtE x7 ub)<|z9@(asB x8)<|ret z9) else (ret false)) (λd1=>ret d1) sm3.2 0 []))<|x11@(O1 (.lst l10))<|ret x11):=()
def eJ:Lc:=u0 Ef
theorem xX:runK Rs Γ C Ef [ua,ub]=i6 (evK Rs Γ C 40) eJ Ef.body [ua,ub,none,none,none,none,none,none] endD:=()
theorem xQ:Ef.body=[nth Ef.body 0,nth Ef.body 1,nth Ef.body 2,nth Ef.body 3,nth Ef.body 4,nth Ef.body 5]:=()
theorem Cd:XX C 40 eJ Ef.body 0 [ua,qa,qb,qc,qd,qe,qf,qg] κ=bind (C8 (n4 [2,3]) ua [ua,qa,qb,qc,qd,qe,qf,qg]) κ:=()
theorem Du:XX C 40 eJ Ef.body 1 [qa,ua,qb,ub,qc,qd,qe,qf] κ=(x1@(ixD ub ua)<|κ (.nx [qa,ua,qb,ub,x1,qd,qe,qf])):=()
theorem Dq:XX C 40 eJ Ef.body 2 [qa,qb,qc,qd,ua,qe,qf,qg] κ=(x1@(ixD ua (.int 0))<|x2@(c8 .Eq x1 (.str "holds"))<|z3@(asB x2)<|if z3 then (κ (.rt .non)) else (κ (.nx [qa,qb,qc,qd,ua,qe,qf,qg]))):=()
theorem yk:XX C 40 eJ Ef.body 3 [qa,ua,ub,uc,ud,qb,qc,qd] κ=(x1@(ixD ud (.int 0))<|x2@(c8 .Eq x1 (.str "look"))<|z3@(asB x2)<|if z3 then (x4@(ixD ud (.int 1))<|x5@(C 33 [ub,x4])<|x6@(k8 x5)<|x7@(ixD ud (.int 1))<|x8@(c8 .GtE x6 x7)<|z9@(asB x8)<|if z9 then (x10@(C 30 [uc,ua,(.tup [(.str "holds"),x5])])<|κ (.rt (.tup [ub,x10]))) else (x11@(ixD ud (.int 1))<|x12@(az x11 (.int 1))<|x13@(C 30 [uc,ua,(.tup [(.str "put"),x12])])<|κ (.rt (.tup [ub,x13])))) else (κ (.nx [qa,ua,ub,uc,ud,qb,qc,qd]))):=()
theorem Ah:XX C 40 eJ Ef.body 4 [qa,qb,ua,qc,ub,qd,qe,qf] κ=(x1@(ixD ub (.int 0))<|x2@(c8 .Eq x1 (.str "put"))<|z3@(asB x2)<|if z3 then (x4@(ixD ub (.int 1))<|κ (.nx [qa,qb,ua,qc,ub,qd,qe,x4])) else (x5@(k8 ua)<|κ (.nx [qa,qb,ua,qc,ub,qd,qe,x5]))):=()
theorem EA:XX C 40 eJ Ef.body 5 [qa,ua,ub,uc,qb,qc,qd,ud] κ=(x1@(C 30 [ub,ua,ud])<|x2@(C 30 [uc,ua,(.tup [(.str "look"),ud])])<|κ (.rt (.tup [x1,x2]))):=()
def Q2:Lc:=u0 Ec
theorem tw:runK Rs Γ C Ec [ua,ub]=i6 (evK Rs Γ C 40) Q2 Ec.body [ua,ub,none,none,none,none,none] endD:=()
theorem rR:Ec.body=[nth Ec.body 0,nth Ec.body 1,nth Ec.body 2,nth Ec.body 3,nth Ec.body 4,nth Ec.body 5,nth Ec.body 6,nth Ec.body 7]:=()
theorem Bu:XX C 40 Q2 Ec.body 0 [ua,qa,qb,qc,qd,qe,qf] κ=bind (C8 (n4 [2,3,4]) ua [ua,qa,qb,qc,qd,qe,qf]) κ:=()
theorem BP:XX C 40 Q2 Ec.body 1 [qa,ua,qb,ub,qc,qd,qe] κ=(x1@(ixD ub ua)<|κ (.nx [qa,ua,qb,ub,qc,x1,qe])):=()
theorem CT:XX C 40 Q2 Ec.body 2 [qa,ua,ub,uc,ud,ue,qb] κ=(x1@(c8 .Eq ue (.tup [(.str "rests")]))<|z2@(asB x1)<|if z2 then (x3@(C 30 [uc,ua,(.tup [(.str "tries"),(.int 1)])])<|l8@(nx (sm5@(N5 x3)<|j0 sm5.1 (λd4=>x6@(c8 .NotEq d4 (.tup [(.str "rests")]))<|z7@(asB x6)<|ret z7) (λd4=>ret d4) sm5.2 0 []))<|x9@(k8 (.lst l8))<|x10@(jw [ud,x9])<|κ (.rt (.tup [ub,x3,x10]))) else (κ (.nx [qa,ua,ub,uc,ud,ue,qb]))):=()
theorem vA:XX C 40 Q2 Ec.body 3 [qa,qb,qc,qd,qe,ua,qf] κ=(x1@(ixD ua (.int 1))<|x2@(az x1 (.int 1))<|κ (.nx [qa,qb,qc,qd,qe,ua,x2])):=()
theorem vD:XX C 40 Q2 Ec.body 4 [qa,ua,ub,uc,ud,ue,uf] κ=(x1@(ixD ue (.int 0))<|x2@(c8 .Eq x1 (.str "holds"))<|z3@(asB x2)<|if z3 then (x4@(C 30 [ub,uf,.non])<|x5@(C 30 [uc,ua,(.tup [(.str "rests")])])<|κ (.rt (.tup [x4,x5,ud]))) else (κ (.nx [qa,ua,ub,uc,ud,ue,uf]))):=()
theorem BV:XX C 40 Q2 Ec.body 5 [qa,ua,ub,uc,ud,ue,uf] κ=(x1@(ixD ub uf)<|x2@(c8 .Is x1 .non)<|z3@(asB x2)<|if z3 then (x4@(C 30 [ub,uf,ua])<|x5@(ixD ue (.int 1))<|x6@(C 30 [uc,ua,(.tup [(.str "holds"),x5])])<|κ (.rt (.tup [x4,x6,ud]))) else (κ (.nx [qa,ua,ub,uc,ud,ue,uf]))):=()
theorem Av:XX C 40 Q2 Ec.body 6 [qa,qb,ua,qc,qd,ub,qe] κ=(x1@(ixD ub (.int 1))<|x2@(k8 ua)<|x3@(c8 .Eq x1 x2)<|z4@(asB x3)<|if z4 then (κ (.rt .non)) else (κ (.nx [qa,qb,ua,qc,qd,ub,qe]))):=()
theorem Bv:XX C 40 Q2 Ec.body 7 [qa,ua,ub,uc,ud,ue,qb] κ=(x1@(ixD ue (.int 1))<|x2@(i9 x1 (.int 1))<|x3@(C 30 [uc,ua,(.tup [(.str "tries"),x2])])<|κ (.rt (.tup [ub,x3,ud]))):=()
theorem ij:runK Rs Γ C pB [ua]=(x1@(ixD ua (.int 0))<|x2@(c8 .Eq x1 (.str "levels"))<|z3@(asB x2)<|if z3 then (x4@(ixD ua (.int 1))<|x5@(k8 x4)<|ret x5) else (x6@(kC (.int 1))<|x7@(ixD ua x6)<|ret x7)):=()
theorem X7:runK Rs Γ C ii [ua]=(x1@(C 36 [ua])<|x2@(ixD ua (.int 0))<|x3@(c8 .Eq x2 (.str "decider"))<|z4@(asB x3)<|if z4 then (x5@(m7 (.tup [(.str "out")]) x1)<|ret (.tup [.non,(.bl false),x5])) else (x6@(ixD ua (.int 0))<|x7@(c8 .Eq x6 (.str "net"))<|z8@(asB x7)<|if z8 then (x9@(ixD ua (.int 1))<|x10@(ixD ua (.int 1))<|x11@(i9 x10 (.int 1))<|x12@(m7 x9 x11)<|x13@(I0 x12 (.int 2))<|x14@(m7 (.tup [(.tup [.non,(.bl false)])]) x13)<|x15@(m7 (.tup [(.tup [(.tup []),(.str "out")])]) x1)<|ret (.tup [x14,x15])) else (x16@(ixD ua (.int 0))<|x17@(c8 .Eq x16 (.str "levels"))<|z18@(asB x17)<|if z18 then (x19@(m7 (.tup [.non]) x1)<|x20@(m7 (.tup [(.tup [(.str "out")])]) x1)<|ret (.tup [x19,x20])) else (x21@(m7 (.tup [.non]) x1)<|x22@(m7 (.tup [(.tup [(.str "rests")])]) x1)<|ret (.tup [x21,x22,(.int 0)]))))):=()
theorem W3:runK Rs Γ C eL [ua,ub,uc]=(x1@(ixD ua (.int 0))<|x2@(c8 .Eq x1 (.str "net"))<|z3@(asB x2)<|if z3 then (x4@(ixD ua (.int 1))<|x5@(C 32 [x4,ub,uc])<|ret x5) else (x6@(ixD ua (.int 0))<|x7@(c8 .Eq x6 (.str "levels"))<|z8@(asB x7)<|if z8 then (x9@(C 34 [ub,uc])<|ret x9) else (x10@(ixD ua (.int 0))<|x11@(c8 .Eq x10 (.str "row"))<|z12@(asB x11)<|if z12 then (x13@(C 35 [ub,uc])<|ret x13) else (x14@(ixD ub (.int 0))<|x15@(ixD ub (.int 1))<|x16@(ixD ub (.int 2))<|x17@(ixD x16 uc)<|x18@(C 31 [x14,x15,x17,uc])<|x19@(c8 .Is x18 .non)<|z20@(asB x19)<|if z20 then (ret .non) else (x21@(slD x18 none (some 2))<|x22@(ixD ub (.int 2))<|x23@(ixD x18 (.int 2))<|x24@(C 30 [x22,uc,x23])<|x25@(i9 x21 (.tup [x24]))<|ret x25))))):=()
def Z2:Lc:=u0 Eh
theorem uC:runK Rs Γ C Eh [ua]=i6 (evK Rs Γ C 40) Z2 Eh.body [ua,none] endD:=()
theorem uR:Eh.body=[nth Eh.body 0,nth Eh.body 1,nth Eh.body 2,nth Eh.body 3,nth Eh.body 4,nth Eh.body 5]:=()
theorem Br:XX C 40 Z2 Eh.body 0 [qa,qb] κ=(x1@(newL [])<|κ (.nx [qa,x1])):=()
theorem Bj:XX C 40 Z2 Eh.body 1 [ua,ub] κ=(x1@(u6 (λc=>Γ.sub c 1) ua)<|z2@(v1 x1)<|if z2 then (x@(lstOf ub)<|x3@(dN "hand" ua)<|x4@(Q9 ub [(.tup [(.str "step"),x3])])<|κ (.nx [ua,ub])) else (κ (.nx [ua,ub]))):=()
theorem Bc:XX C 40 Z2 Eh.body 2 [ua,ub] κ=(x1@(u6 (λc=>Γ.sub c 3) ua)<|z2@(v1 x1)<|if z2 then (x@(lstOf ub)<|x3@(dN "word" ua)<|x4@(dN "at" ua)<|x5@(Q9 ub [(.tup [(.str "stand"),x3,x4])])<|κ (.nx [ua,ub])) else (κ (.nx [ua,ub]))):=()
theorem Aa:XX C 40 Z2 Eh.body 3 [ua,ub] κ=(x1@(u6 (λc=>Γ.sub c 4) ua)<|z2@(v1 x1)<|if z2 then (x@(lstOf ub)<|x3@(dN "word" ua)<|x4@(Q9 ub [(.tup [(.str "many"),x3])])<|κ (.nx [ua,ub])) else (κ (.nx [ua,ub]))):=()
theorem Cb:XX C 40 Z2 Eh.body 4 [ua,ub] κ=(x1@(u6 (λc=>[2,6,5].any λc0=>Γ.sub c c0) ua)<|z2@(v1 x1)<|if z2 then (x@(lstOf ub)<|x3@(Q9 ub [(.tup [(.str "odd")])])<|κ (.nx [ua,ub])) else (x4@(u6 (λ_=>true) ua)<|z5@(v1 x4)<|if (!z5)=true then (x@(lstOf ub)<|x6@(Q9 ub [(.tup [(.str "odd")])])<|κ (.nx [ua,ub])) else (κ (.nx [ua,ub])))):=()
theorem CP:XX C 40 Z2 Eh.body 5 [qa,ua] κ=(x1@(k8 ua)<|x2@(c8 .Eq x1 (.int 1))<|z3@(asB x2)<|if z3 then (x4@(ixD ua (.int 0))<|κ (.rt x4)) else (κ (.rt (.tup [(.str "odd")])))):=()
def B8:Lc:=u0 Ei
theorem qO:runK Rs Γ C Ei [ua]=i6 (evK Rs Γ C 40) B8 Ei.body [ua,none,none,none,none,none] endD:=()
theorem rC:Ei.body=[nth Ei.body 0,nth Ei.body 1,nth Ei.body 2,nth Ei.body 3,nth Ei.body 4]:=()
theorem zr:XX C 40 B8 Ei.body 0 [ua,qa,qb,qc,qd,qe] κ=(x1@(C 37 [ua])<|x2@(newL [x1])<|κ (.nx [ua,x2,qb,qc,qd,qe])):=()
theorem Ca:XX C 40 B8 Ei.body 1 [qa,ua,qb,qc,qd,qe] κ=(x1@(ixD ua (.int 0))<|x2@(U1 [(x1,(.bl true))])<|κ (.nx [qa,ua,x2,qc,qd,qe])):=()
theorem zQ:XX C 40 B8 Ei.body 2 [qa,qb,qc,qd,qe,qf] κ=κ (.nx [qa,qb,qc,some (.int 0),qe,qf]):=()
def nJ (C:Cf):L3.Env->M Bool:=λρ'=>(evK Rs Γ C 39).t B8 (fc (nth Ei.body 3)) ρ' ret
theorem gf:nJ C [qa,ua,qb,ub,qc,qd]=(x1@(k8 ua)<|x2@(c8 .Lt ub x1)<|z3@(asB x2)<|if z3 then (x4@(k8 ua)<|x5@(c8 .Lt x4 (.int 2001))<|z6@(asB x5)<|ret z6) else (ret false)):=()
def E6:List Stmt:=A9 (nth Ei.body 3)
def eH (C:Cf):L3.Env->M Fl:=λρ'=>i6 (evK Rs Γ C 39) B8 E6 ρ' ret
theorem Af:XX C 40 B8 Ei.body 3 [qa,qb,qc,qd,qe,qf] κ=bind (t6 (nJ C) (eH C) 10000 [qa,qb,qc,qd,qe,qf]) κ:=()
theorem Az:XX C 40 B8 Ei.body 4 [qa,ua,qb,qc,qd,qe] κ=κ (.rt ua):=()
theorem dz:E6=[nth E6 0,nth E6 1]:=()
def q4:List Stmt:=A9 (nth E6 0)
def Q4 (C:Cf):L3.Env->M Fl:=λρ'=>i6 (evK Rs Γ C 38) B8 q4 ρ' ret
theorem jt:XX C 39 B8 E6 0 [ua,qa,qb,qc,qd,qe] κ=(x1@(C 36 [ua])<|sm2@(J7 [x1])<|bind (z0 sm2.1 (λd ρ=>some (ρ.set 4 (some d))) (Q4 C) sm2.2 0 [ua,qa,qb,qc,qd,qe]) κ):=()
theorem jl:XX C 39 B8 E6 1 [qa,qb,qc,ua,qd,qe] κ=(x1@(i9 ua (.int 1))<|κ (.nx [qa,qb,qc,x1,qd,qe])):=()
theorem V9:q4=[nth q4 0,nth q4 1]:=()
theorem bA:XX C 38 B8 q4 0 [ua,ub,qa,uc,ud,qb] κ=(x1@(ixD ub uc)<|x2@(C 38 [ua,x1,ud])<|κ (.nx [ua,ub,qa,uc,ud,x2])):=()
theorem bE:XX C 38 B8 q4 1 [qa,ua,ub,qb,qc,uc] κ=(x1@(c8 .IsNot uc .non)<|z2@(asB x1)<|if z2 then (x3@(Y9 true uc ub)<|z4@(asB x3)<|if z4 then (x@(M3 ub uc (.bl true))<|x@(lstOf ua)<|x5@(Q9 ua [uc])<|κ (.nx [qa,ua,ub,qb,qc,uc])) else (κ (.nx [qa,ua,ub,qb,qc,uc]))) else (κ (.nx [qa,ua,ub,qb,qc,uc]))):=()
theorem uH:runK Rs Γ C oV [ua,ub]=(x1@(C 29 [ua,(.int 4)])<|x2@(slD x1 none (some 1))<|x3@(slD x1 none (some 2))<|x4@(slD x1 none (some 3))<|x5@(i9 (.lst [(.tup [(.str "decider"),(.int 1)]),(.tup [(.str "decider"),(.int 2)]),(.tup [(.str "decider"),(.int 3)]),(.tup [(.str "net"),(.int 1),(.int 1)]),(.tup [(.str "net"),(.int 2),(.int 1)]),(.tup [(.str "net"),(.int 2),(.int 2)]),(.tup [(.str "net"),(.int 3),(.int 2)])]) (.lst [(.tup [(.str "levels"),x2]),(.tup [(.str "levels"),x3]),(.tup [(.str "levels"),x4]),(.tup [(.str "row"),(.int 1)])]))<|x6@(i9 x5 (.lst [(.tup [(.str "row"),(.int 2)]),(.tup [(.str "row"),(.int 3)]),(.tup [(.str "net"),(.int 5),(.int 1)]),(.tup [(.str "decider"),(.int 4)]),(.tup [(.str "net"),(.int 3),(.int 3)]),(.tup [(.str "net"),(.int 4),(.int 2)])]))<|x7@(i9 x6 (.lst [(.tup [(.str "levels"),x1]),(.tup [(.str "row"),(.int 4)])]))<|x8@(C 28 [ua,ub])<|x9@(ixD x7 x8)<|ret x9):=()
def U5:Lc:=u0 Ej
theorem iu:runK Rs Γ C Ej [ua]=i6 (evK Rs Γ C 40) U5 Ej.body [ua,none,none] endD:=()
theorem iQ:Ej.body=[nth Ej.body 0,nth Ej.body 1,nth Ej.body 2]:=()
theorem vg:XX C 40 U5 Ej.body 0 [qa,qb,qc] κ=κ (.nx [qa,some (.tup [(.str "odd")]),qc]):=()
def lI (C:Cf):L3.Env->M Fl:=bX (eBK (evK Rs Γ C 39) Γ C U5) U5 (nth (iE (nth Ej.body 1)) 0)
theorem ar:lI C [ua,qa,qb]=(x1@(C 26 [ua])<|ret (.nx [ua,x1,qb])):=()
def X0:List Stmt:=hW (nth Ej.body 1)
def ou (C:Cf):L3.Env->M Fl:=λρ'=>i6 (evK Rs Γ C 39) (F4 U5) X0 ρ' ret
theorem vp:XX C 40 U5 Ej.body 1 [qa,qb,qc] κ=bind (V8 (lI C) (λc=>Γ.sub c 0) (some 2) (ou C) [qa,qb,qc]) κ:=()
theorem uX:XX C 40 U5 Ej.body 2 [qa,ua,qb] κ=κ (.rt ua):=()
theorem eO:X0=[nth X0 0]:=()
theorem jT:(evK Rs Γ C 39).s (F4 U5) (nth X0 0) [qa,qb,ua] κ=(x1@(nx (C 39 [ua]))<|κ (.nx [qa,x1,ua])):=()
theorem sk:runK Rs Γ C mO [ua,ub]=(l7@(nx (x2@(C 36 [ua])<|sm3@(J7 [x2])<|j0 sm3.1 (λd1=>x4@(C 38 [ua,ub,d1])<|x5@(c8 .IsNot x4 .non)<|z6@(asB x5)<|ret z6) (λd1=>ret d1) sm3.2 0 []))<|x8@(c8 .Eq (.lst l7) (.lst []))<|ret x8):=()
def D2:Lc:=u0 law_F
theorem tG:runK Rs Γ C law_F [ua]=i6 (evK Rs Γ C 40) D2 law_F.body [ua,none,none,none,none,none,none] endD:=()
theorem tX:law_F.body=[nth law_F.body 0,nth law_F.body 1]:=()
def d8:List Stmt:=A9 (nth law_F.body 0)
def eZ (C:Cf):L3.Env->M Fl:=λρ'=>i6 (evK Rs Γ C 39) D2 d8 ρ' ret
theorem CL:XX C 40 D2 law_F.body 0 [qa,qb,qc,qd,qe,qf,qg] κ=(sm1@(J7 [(.int 2)])<|bind (z0 sm1.1 (λd ρ=>some (ρ.set 1 (some d))) (eZ C) sm1.2 0 [qa,qb,qc,qd,qe,qf,qg]) κ):=()
theorem BY:XX C 40 D2 law_F.body 1 [qa,qb,qc,qd,qe,qf,qg] κ=κ (.rt (.bl true)):=()
theorem de:d8=[nth d8 0,nth d8 1,nth d8 2,nth d8 3,nth d8 4,nth d8 5,nth d8 6,nth d8 7]:=()
theorem kj:XX C 39 D2 d8 0 [ua,ub,qa,qb,qc,qd,qe] κ=(x1@(C 27 [ua,ub])<|κ (.nx [ua,ub,x1,qb,qc,qd,qe])):=()
theorem jp:XX C 39 D2 d8 1 [qa,ua,ub,qb,qc,qd,qe] κ=(x1@(ixD (.lst [(.int 19),(.int 14)]) ua)<|x2@(C 41 [ub,x1])<|κ (.nx [qa,ua,ub,x2,qc,qd,qe])):=()
theorem ke:XX C 39 D2 d8 2 [qa,qb,qc,ua,qd,qe,qf] κ=(x1@(C 40 [ua])<|κ (.nx [qa,qb,qc,ua,x1,qe,qf])):=()
theorem kM:XX C 39 D2 d8 3 [qa,qb,qc,qd,qe,qf,qg] κ=κ (.nx [qa,qb,qc,qd,qe,some (.tup [(.str "many"),(.str "stands")]),qg]):=()
theorem js:XX C 39 D2 d8 4 [qa,qb,qc,ua,ub,qd,qe] κ=(x1@(k8 ub)<|x2@(c8 .Lt x1 (.int 2001))<|z3@(asB x2)<|if z3 then (l8@(nx (sm5@(N5 ub)<|j0 sm5.1 (λd4=>x6@(C 43 [ua,d4])<|z7@(v1 x6)<|ret z7) (λd4=>ret d4) sm5.2 0 []))<|κ (.nx [qa,qb,qc,ua,ub,some (.lst l8),qe])) else (κ (.nx [qa,qb,qc,ua,ub,qd,qe]))):=()
theorem cA:XX C 39 D2 d8 5 [qa,qb,qc,ua,qd,qe,qf] κ=(x1@(C 42 [ua])<|κ (.nx [qa,qb,qc,ua,qd,qe,x1])):=()
theorem bc:XX C 39 D2 d8 6 [qa,qb,qc,qd,qe,ua,ub] κ=(x1@(u8 ub)<|x2@(u8 ua)<|x3@(c8 .NotEq x1 x2)<|z4@(asB x3)<|if z4 then (κ (.rt (.bl false))) else (κ (.nx [qa,qb,qc,qd,qe,ua,ub]))):=()
theorem bg:XX C 39 D2 d8 7 [qa,ua,qb,ub,qc,uc,ud] κ=(x1@(c8 .Eq ua (.int 1))<|z2@(asB x1)<|if z2 then (x3@(dZ "list" (λ_=>false) ud)<|z4@(v1 x3)<|if z4 then (x5@(wrD (λ_=>[]) ud)<|x6@(C 42 [ub])<|x7@(u8 x6)<|x8@(u8 uc)<|x9@(c8 .NotEq x7 x8)<|z10@(asB x9)<|if z10 then (κ (.rt (.bl false))) else (κ (.nx [qa,ua,qb,ub,qc,uc,ud]))) else (κ (.nx [qa,ua,qb,ub,qc,uc,ud]))) else (κ (.nx [qa,ua,qb,ub,qc,uc,ud]))):=()
end
end L3.K35
namespace L3.K35
open PySem PySem.Spec PyProof.Rows L2 L3.Nt
theorem nc (n:Nat) (hn:n<1000) (k:Nat) (S:Sto):rn (k+1) yq [.int (n:Int)] S=.ok (.int (tri n:Int)) S:=by
 refine d5 ?_;rw [rn,a8 rfl,uE];refine Ok.eq (D6 n 1 S) (Ok.eq (V2 (.inl ⟨by omega,by omega⟩) S) (Ok.eq (N3 (by decide) (by decide) S) (Ok.ret ⟨?_,rfl⟩)));have:((n:Int) * ((n+1:Nat):Int) / 2)=((n * (n+1) / 2:Nat):Int):=by
  rw [<- Hs];exact (HR (n * (n+1)) 2).symm
 rw [this];rfl
theorem Z4 (t:List Bool) (k:Nat) (S:Sto):rn (k+1) we [trD t] S=.ok (.tup [.int (dn t:Int),.int (rt t:Int)]) S:=by
 refine d5 ?_;rw [rn,a8 rfl,uK];exact Ok.eq rfl (Ok.eq (iJ t S) (Ok.eq rfl (Ok.eq (mF t S) (Ok.ret ⟨rfl,rfl⟩))))
theorem fq (d r:Nat) (h:d+r<1000) (k:Nat) (S:Sto):rn (k+2) cK [.tup [.int (d:Int),.int (r:Int)]] S=.ok (.int ((tri (d+r)+d:Nat):Int)) S:=by
 refine d5 ?_;rw [rn,a8 rfl,rW];have e:qF (.tup [.int (d:Int),.int (r:Int)]) S=.ok (.int ((d+r:Nat):Int)) S:=by
  show R.ok (D.int ((d:Int)+((r:Int)+0))) S=_;rw [show ((d:Int)+((r:Int)+0))=((d+r:Nat):Int) by omega]
 exact Ok.eq e (Ok.eq (nc (d+r) h k S) (Ok.eq rfl (Ok.eq (D6 _ _ _) (Ok.ret ⟨rfl,rfl⟩))))
def pN (t:List Bool) (n i:Nat):Bool:=decide (tri (dn (t.take i)+rt (t.take i))+dn (t.take i)=n)
theorem wY (hl:h.1.length<100) (n k:Nat) (S:Sto):Ok (rn (k+3) qB [hdD h,.int (n:Int)]) S λd S'=>d=E5 (pN h.1 n) h/\S'=S:=by
 obtain ⟨t,w⟩:=h;have hl:t.length<100:=hl;rw [rn,a8 rfl,rQ,sP];refine Ok.first<|Ok.cg (An ..)<|Ok.eq rfl<|Ok.nxt<|Ok.cg (BJ ..)<|Ok.eq (by show R.ok (O4 (t.map u3),(t.map u3).length+1) S=_;rw [Es]) (Ok.bind ((Ok.for_ (n:=t.length) (λi ρ S'=>S'=S/\(∀ j,j<i->pN t n j=false)/\∃ o4 o5:Option D,ρ=[some (hdD (t,w)),some (.int (n:Int)),some (trD t),some w.d,o4,o5]) (λ_ _=>False) (λd S'=>d=E5 (pN t n) (t,w)/\S'=S) ?_ ?_ t.length 0 _ _ (by omega) ⟨rfl,λj hj=>by omega,_,_,rfl⟩).mono ?_))
 ·intro ρ S' _;simp only [O4];rw [Gr (by rw [Es];exact EI _),Es];simp
 ·rintro i ρ S' hi ⟨rfl,hp,o4,o5,rfl⟩;have e1:(t.map u3)[i]?=some (u3 (t.getD i false)):=by
   rw [Fq,Ez hi];simp [hi]
  refine ⟨.tup [.int (i:Int),u3 (t.getD i false)],[some (hdD (t,w)),some (.int (n:Int)),some (trD t),some w.d,some (.int (i:Int)),some (u3 (t.getD i false))],by simp only [O4,e1],rfl,?_⟩;unfold dU;rw [dm];refine Ok.first<|Ok.cg (kN ..)<|Ok.eq rfl<|Ok.eq (by show R.ok (D.tup (F8 (t.map u3) none (some (i:Int)))) S'=_;rw [Z0 (by rw [Es];omega),<- Ia];rfl)<|Ok.eq (Z4 _ (k+1) S')<|Ok.eq (fq _ _ (by rw [Y1,FW];omega) k S')<|Ok.eq (O9 _ _ _)<|Ok.eq (k4 _ _) ?_;by_cases q:tri (dn (t.take i)+rt (t.take i))+dn (t.take i)=n
  ·refine Ok.pos (EO (by omega)) (Ok.ret ⟨?_,rfl⟩);unfold E5;rw [uV hi hp (EO q)]
  ·refine Ok.neg (by rw [EX (by omega)];exact EH) (Ok.ret ⟨rfl,λj hj=>?_,_,_,rfl⟩);by_cases hji:j=i
   ·rw [hji];exact EX q
   ·exact hp j (by omega)
 ·rintro fl S' hf;cases fl with
  | nx ρ=>
   rcases hf with ⟨rfl,hp,o4,o5,rfl⟩ | hf
   ·refine Ok.nxt<|Ok.cg (CI ..)<|Ok.eq (Z4 t (k+1) S')<|Ok.eq (fq _ _ (by rw [Y1];omega) k S')<|Ok.eq (O9 _ _ _)<|Ok.eq (k4 _ _) ?_;have e:(pN t n t.length)=decide (tri (dn t+rt t)+dn t=n):=by unfold pN;rw [Hl]
    by_cases q:tri (dn t+rt t)+dn t=n
    ·refine Ok.pos (EO (by omega)) (Ok.ret ⟨?_,rfl⟩);unfold E5;rw [bY hp];rw [e,EO q,if_pos rfl]
    ·refine Ok.neg (by rw [EX (by omega)];exact EH) (Ok.ret ⟨?_,rfl⟩);unfold E5;rw [bY hp];rw [e,EX q,if_neg EH]
   ·exact hf.elim
  | rt d=>exact Ok.ret hf
  | bk ρ=>exact hf.elim
  | ct ρ=>exact hf.elim
theorem pR (ds:List D) (S:Sto):N5 (.tup ds) S=.ok (F9 ds,ds.length+1) S:=rfl
def zm (r:Nst) (b:Box) (p:Hnd->Nat->Bool):D:=.tup [oD b.1,.bl b.2,.tup (r.hs.map λh=>E5 (p h) h)]
theorem oj {b:Box} {n:Nat} (g:r.bx[n]?=some b) (j:∀ h∈r.hs,h.1.length<100) (c:r.hs.length<=6) (o:D) (k:Nat) (S:Sto):Ok (rn (k+4) ck [o,r.d,.int (n:Int)]) S λd S'=>d=zm r b (λh=>pN h.1 n)/\S'=S:=by
 rw [rn,a8 rfl,rY,rG];refine Ok.first<|Ok.cg (AX ..)<|Ok.eq rfl<|Ok.nxt<|Ok.cg (zM ..)<|Ok.eq (y9 S (d7 g))<|Ok.eq rfl<|Ok.nxt<|Ok.cg (AJ ..)<|nx_bind<|Ok.eq (pR _ S) ?_;rw [Es];have e:=v8 (t:=λ_=>ret true) (f:=λd=>bind (rn (k+3) qB [d,.int (n:Int)]) λx=>ret x) (zL c) (λa _=>rfl) (λa i _=>by
  rw [a9 (d5 (wY (j a i) n k S))];rfl)
 rw [List.filter_eq_self.mpr (by simp)] at e;exact ⟨_,_,e,Ok.eq rfl (Ok.ret ⟨rfl,rfl⟩)⟩
def bh (mk:Option Nat) (cl:Bool) (i:Nat):Wd->Option (Option Nat×Bool×Str)
 | .out=>some (some i,cl,"ask")
 | .ask=>some (mk,cl,if cl=true then "right" else "close")
 | .close=>some (mk,true,"look")
 | .look=>some (mk,cl,if mk=some i then "holds" else "down")
 | .holds=>none
def bhD (mk:Option Nat) (cl:Bool) (i:Nat) (w:Wd) (ws:List D):D:=match bh mk cl i w with
 | none=>.non
 | some (m,c,x)=>.tup [oD m,.bl c,.tup (ws.set i (.str x))]
theorem lF {i:Nat} (h:mk=some i):bh mk cl i .look=some (mk,cl,("holds" : Str)):=by
 show some (mk,cl,if mk=some i then ("holds" : Str) else "down")=_;rw [if_pos h]
theorem oE {i:Nat} (h:mk≠some i):bh mk cl i .look=some (mk,cl,("down" : Str)):=by
 show some (mk,cl,if mk=some i then ("holds" : Str) else "down")=_;rw [if_neg h]
theorem nQ (i:size<=5) {t:List Bool} (k:t.length<size):n9 t<tri size:=by
 have h:dn t<=t.length:=by have:=Y1 t;omega
 unfold n9;generalize t.length=l at *;generalize dn t=d at *;have e:tri 0=0:=rfl;have m:tri 1=1:=rfl;have g:tri 2=3:=rfl;have f:tri 3=6:=rfl;have j:tri 4=10:=rfl;have c:tri 5=15:=rfl;have a:size=1\/size=2\/size=3\/size=4\/size=5:=by omega
 have b:l=0\/l=1\/l=2\/l=3\/l=4:=by omega
 rcases a with rfl | rfl | rfl | rfl | rfl <;> rcases b with rfl | rfl | rfl | rfl | rfl <;> omega
def gD:Option Nst->D
 | none=>.non
 | some r=>r.d
section
variable {size many:Nat} {r:Nst} (V:VN size many r) {i:Nat} (hi:i<many) (k:Nat) (S:Sto)
include V hi
omit k S in
theorem VN.step (e:i4 size r i=some r'):VN size many r':=by
 have put:∀ {n:Nat} {b:Box} {t:List Bool} {w:Wd},j9 size r i n b t w=some r'->(∀ g,b.1=some g->g<many)->VN size many r':=by
  intro n b t w e hb;unfold j9 at e;split at e
  ·cases e
  ·rename_i q;cases e;refine ⟨V.s5,V.m5,by simp [V.bl],by simp [V.hl],λh hh=>?_,λx hx=>?_⟩
   ·rcases Gc hh with z | z
    ·exact V.tr h z
    ·grind
   ·rcases Gc hx with z | z
    ·exact V.mg x z
    ·rw [z];exact hb
 have b4:=V.m5;cases ha:r.hs[i]? with
 | none=>unfold i4 at e;rw [ha] at e;cases e
 | some h=>
  obtain ⟨t,w⟩:=h;cases hb:r.bx[n9 t]? with
  | none=>unfold i4 at e;rw [ha] at e;simp only at e;rw [hb] at e;cases e
  | some b=>
   obtain ⟨mk,cl⟩:=b;have hm:=V.mg (mk,cl) (EY hb);rw [pw ha hb] at e;cases w with
   | out=>exact put e λg z=>by cases z;omega
   | ask=>
    cases cl with
    | true=>exact put e hm
    | false=>exact put e hm
   | close=>exact put e hm
   | look=>
    by_cases q:mk=some i
    ·exact put ((if_pos q).symm.trans e) hm
    ·exact put ((if_neg q).symm.trans e) hm
   | holds=>cases e
end
theorem kw (h:size<=5):tri size<=15:=by
 have a:size=0\/size=1\/size=2\/size=3\/size=4\/size=5:=by omega
 rcases a with rfl | rfl | rfl | rfl | rfl | rfl <;> decide
theorem m8 {i:Nat} (x:D) (h:i<ds.length) (a:ds.length<=1000) (k:Nat) (S:Sto):rn (k+1) Z7 [.tup ds,.int (i:Int),x] S=.ok (.tup (ds.set i x)) S:=by
 rw [rn,a8 rfl,cP];exact d5 (G5 h a)
def exS (i:Nat):O:=.exc 1 [("hand",.int (i:Int))]
theorem gP {i:Nat} {w:Wd} {ws:List D} (hw:ws[i]?=some w.d) (hl:ws.length<=6) (hn:w≠.holds) (k:Nat) (S:Sto):rn (k+2) aZ [.tup [oD mk,.bl cl,.tup ws],.int (i:Int)] S=.ok (bhD mk cl i w ws) S:=by
 have hi:=(Et.mp hw).1;have wa:=λx=>m8 x hi (by omega) k S;refine d5 ?_;rw [rn,a8 rfl,gC,fU];refine Ok.first<|Ok.cg (zI ..)<|Ok.eq rfl<|Ok.nxt<|Ok.cg (wL ..)<|Ok.eq (y9 S hw)<|Ok.nxt<|Ok.cg (wR ..) ?_;cases w with
 | holds=>exact (hn rfl).elim
 | out=>exact Ok.eq (a:=.bl false) (by kernel_rfl)<|Ok.eq rfl<|Ok.neg (by decide)<|Ok.nxt<|Ok.cg (uN ..)<|Ok.eq rfl<|Ok.eq rfl<|Ok.pos rfl<|Ok.eq (wa _)<|Ok.ret ⟨rfl,rfl⟩
 | ask=>
  refine Ok.eq (S1:=S) (a:=.bl false) (by kernel_rfl)<|Ok.eq rfl<|Ok.neg (by decide)<|Ok.nxt<|Ok.cg (uN ..)<|Ok.eq rfl<|Ok.eq rfl<|Ok.neg (by decide)<|Ok.nxt<|Ok.cg (yR ..)<|Ok.eq rfl<|Ok.eq rfl<|Ok.pos rfl<|Ok.eq rfl ?_;cases cl with
  | true=>exact Ok.pos rfl<|Ok.eq (wa _)<|Ok.ret ⟨rfl,rfl⟩
  | false=>exact Ok.neg (by decide)<|Ok.eq (wa _)<|Ok.ret ⟨rfl,rfl⟩
 | close=>exact Ok.eq (a:=.bl false) (by kernel_rfl)<|Ok.eq rfl<|Ok.neg (by decide)<|Ok.nxt<|Ok.cg (uN ..)<|Ok.eq rfl<|Ok.eq rfl<|Ok.neg (by decide)<|Ok.nxt<|Ok.cg (yR ..)<|Ok.eq rfl<|Ok.eq rfl<|Ok.neg (by decide)<|Ok.nxt<|Ok.cg (zc ..)<|Ok.eq rfl<|Ok.eq rfl<|Ok.pos rfl<|Ok.eq (wa _)<|Ok.ret ⟨rfl,rfl⟩
 | look=>
  have em:c8 .Eq (oD mk) (.int (i:Int)) S=.ok (.bl (decide (mk=some i))) S:=by
   cases mk with
   | none=>exact (show c8 .Eq .non (.int (i:Int)) S=.ok (.bl false) S from rfl).trans (by simp)
   | some g=>
    refine (O9 _ _ S).trans ?_;rw [show decide ((g:Int)=(i:Int))=decide (some g=some i) by simp;omega]
  refine Ok.eq (a:=.bl false) (by kernel_rfl)<|Ok.eq rfl<|Ok.neg (by decide)<|Ok.nxt<|Ok.cg (uN ..)<|Ok.eq rfl<|Ok.eq rfl<|Ok.neg (by decide)<|Ok.nxt<|Ok.cg (yR ..)<|Ok.eq rfl<|Ok.eq rfl<|Ok.neg (by decide)<|Ok.nxt<|Ok.cg (zc ..)<|Ok.eq rfl<|Ok.eq rfl<|Ok.neg (by decide)<|Ok.nxt<|Ok.cg (DK ..)<|Ok.eq em<|Ok.eq (k4 _ _) ?_;by_cases q:mk=some i
  ·exact Ok.pos (EO q)<|Ok.eq (wa _)<|Ok.ret ⟨by unfold bhD;rw [lF q],rfl⟩
  ·exact Ok.neg (by rw [EX q];decide)<|Ok.eq (wa _)<|Ok.ret ⟨by unfold bhD;rw [oE q],rfl⟩
theorem xy {i:Nat} {ws:List D} (b:ws[i]?=some Wd.holds.d) (c:i<100) (k:Nat) (S:Sto):Xn (rn (k+2) aZ [.tup [oD mk,.bl cl,.tup ws],.int (i:Int)]) S λn S'=>n=S.length/\S'=S++[exS i]:=by
 rw [rn,a8 rfl,gC,fU];exact Xn.first<|Xn.cg (zI ..)<|Xn.eq rfl<|Xn.nxt<|Xn.cg (wL ..)<|Xn.eq (y9 S b)<|Xn.nxt<|Xn.cg (wR ..)<|Xn.eq (a:=.bl true) (by kernel_rfl)<|Xn.eq rfl<|Xn.pos rfl<|raise_k rfl (td (cM ⟨by omega,by omega⟩))
theorem rl (w:Wd) (k:Nat) (S:Sto):rn (k+1) hR [trD t,w.d] S=.ok (hdD (t,w)) S:=by
 refine d5 ?_;rw [rn,a8 rfl,mW];exact Ok.eq (a:=.bl false) (by cases w <;> kernel_rfl)<|Ok.eq rfl<|Ok.neg (by decide)<|Ok.ret ⟨rfl,rfl⟩
theorem dt (b:Bool) (d:t.length<=5) (k:Nat) (S:Sto):rn (k+1) hR [trD t,u3 b] S=.ok (hdD (t++[b],.out)) S:=by
 refine d5 ?_;have e:(1000:Nat)<=sizeLine:=by decide
 have c:i9 (trD t) (.tup [u3 b]) S=.ok (trD (t++[b])) S:=by
  rw [trD,cat_tup (by simp;omega)];show R.ok (D.tup (t.map u3++[u3 b])) S=.ok (.tup ((t++[b]).map u3)) S;rw [FQ];rfl
 rw [rn,a8 rfl,mW];exact Ok.eq (a:=.bl true) (by cases b <;> kernel_rfl)<|Ok.eq rfl<|Ok.pos rfl<|Ok.eq c<|Ok.ret ⟨rfl,rfl⟩
theorem lM (h:Hnd):E5 (pN h.1 (n9 h.1)) h=h.2.d:=by
 have p:∀ j,pN h.1 (n9 h.1) j=decide (tri (h.1.take j).length+dn (h.1.take j)=tri h.1.length+dn h.1):=λj=>by
  unfold pN n9;rw [Y1]
 have mono:∀ a b:Nat,a<b->tri a+a<tri b:=by
  intro a b hab;have e:∀ n,tri (n+1)=tri n+(n+1):=by
   intro n;unfold tri;have:(n+1) * (n+1+1)=n * (n+1)+(n+1) * 2:=by
    rw [Nat.mul_add (n+1) (n+1) 1,Nat.add_mul n 1 (n+1)];omega
   rw [this,Nat.add_mul_div_right _ _ (by omega)]
  induction hab with
  | refl=>rw [e];omega
  | step _ ih=>rw [e];omega
 have dl:=λt=>by have:=Y1 t;omega
 unfold E5;grind
section
variable {size:Nat} {r:Nst} {i n:Nat} {t:List Bool} {w:Wd} {k:Nat} {S:Sto} {x0:D}
theorem lv (ha:r.hs[i]?=some (t,w)) (en:rn (k+4) cK [.tup [.int (dn t:Int),.int (rt t:Int)]] S=.ok (.int (n:Int)) S) (el:rn (k+4) ck [.int (size:Int),r.d,.int (n:Int)] S=.ok x0 S) (ed:rn (k+4) aZ [x0,.int (i:Int)] S=.ok (.tup [oD m,.bl c,.tup ws]) S)
  (h:Ok (nxt (evK Rs Γ (rn (k+4)) 40) F7 [nth BT.body 4,nth BT.body 5,nth BT.body 6] endD (.nx [some (.int (size:Int)),some r.d,some (.int (i:Int)),some (.tup (r.bx.map bxD)),some (.tup (r.hs.map hdD)),some (trD t),some (.int (n:Int)),some (oD m),some (.bl c),some (.tup ws),none])) S Q):Ok (rn (k+5) v9 [.int (size:Int),r.d,.int (i:Int)]) S Q:=by
 rw [rn,a8 rfl,cq,dE];exact Ok.first<|Ok.cg (lS ..)<|Ok.eq rfl<|Ok.nxt<|Ok.cg (oW ..)<|Ok.eq (y9 S (d7 ha))<|Ok.eq rfl<|Ok.nxt<|Ok.cg (lz ..)<|Ok.eq (Z4 t (k+3) S)<|Ok.eq en<|Ok.nxt<|Ok.cg (nw ..)<|Ok.eq el<|Ok.eq ed<|Ok.eq rfl h
theorem yx (ha:r.hs[i]?=some (t,w)) (en:rn (k+4) cK [.tup [.int (dn t:Int),.int (rt t:Int)]] S=.ok (.int (n:Int)) S) (el:rn (k+4) ck [.int (size:Int),r.d,.int (n:Int)] S=.ok x0 S) (ed:rn (k+4) aZ [x0,.int (i:Int)] S=.ok (.tup [oD m,.bl c,.tup ws]) S)
  (h:Xn (nxt (evK Rs Γ (rn (k+4)) 40) F7 [nth BT.body 4,nth BT.body 5,nth BT.body 6] endD (.nx [some (.int (size:Int)),some r.d,some (.int (i:Int)),some (.tup (r.bx.map bxD)),some (.tup (r.hs.map hdD)),some (trD t),some (.int (n:Int)),some (oD m),some (.bl c),some (.tup ws),none])) S Q):Xn (rn (k+5) v9 [.int (size:Int),r.d,.int (i:Int)]) S Q:=by
 rw [rn,a8 rfl,cq,dE];exact Xn.first<|Xn.cg (lS ..)<|Xn.eq rfl<|Xn.nxt<|Xn.cg (oW ..)<|Xn.eq (y9 S (d7 ha))<|Xn.eq rfl<|Xn.nxt<|Xn.cg (lz ..)<|Xn.eq (Z4 t (k+3) S)<|Xn.eq en<|Xn.nxt<|Xn.cg (nw ..)<|Xn.eq el<|Xn.eq ed<|Xn.eq rfl h
theorem yC (ha:r.hs[i]?=some (t,w)) (en:rn (k+4) cK [.tup [.int (dn t:Int),.int (rt t:Int)]] S=.ok (.int (n:Int)) S) (el:rn (k+4) ck [.int (size:Int),r.d,.int (n:Int)] S=.ok x0 S) (ed:Xn (rn (k+4) aZ [x0,.int (i:Int)]) S Q):Xn (rn (k+5) v9 [.int (size:Int),r.d,.int (i:Int)]) S Q:=by
 rw [rn,a8 rfl,cq,dE];exact Xn.first<|Xn.cg (lS ..)<|Xn.eq rfl<|Xn.nxt<|Xn.cg (oW ..)<|Xn.eq (y9 S (d7 ha))<|Xn.eq rfl<|Xn.nxt<|Xn.cg (lz ..)<|Xn.eq (Z4 t (k+3) S)<|Xn.eq en<|Xn.nxt<|Xn.cg (nw ..)<|Xn.eq el<|Xn.bind ed
theorem pU {ws:List D} {y:D} (e:ws[i]?=some y) (a:rn (k+4) hR [trD t,y] S=.ok (hdD (t',w')) S) (h:t'.length<size) (g:n<r.bx.length) (f:i<r.hs.length) (j:r.bx.length<=15) (l:r.hs.length<=6):Ok (nxt (evK Rs Γ (rn (k+4)) 40) F7 [nth BT.body 4,nth BT.body 5,nth BT.body 6] endD (.nx [some (.int (size:Int)),some r.d,some (.int (i:Int)),some (.tup (r.bx.map bxD)),some (.tup (r.hs.map hdD)),some (trD t),some (.int (n:Int)),some (oD m),some (.bl c),some (.tup ws),none])) S λd S'=>d=gD (j9 size r i n (m,c) t' w')/\S'=S:=by
 have b:k8 (trD t') S=.ok (.int (t'.length:Int)) S:=(p7 _ S).trans (by rw [Es]);refine Ok.nxt<|Ok.cg (vP ..)<|Ok.eq (y9 S e)<|Ok.eq a<|Ok.nxt<|Ok.cg (ve ..)<|Ok.eq rfl<|Ok.eq b<|Ok.eq (ng _ _ _)<|Ok.eq (k4 _ _)<|Ok.neg (by rw [EX (by omega)];decide)<|Ok.nxt<|Ok.cg (AV ..)<|Ok.eq (m8 (.tup [oD m,.bl c]) (by rw [Es];exact g) (by rw [Es];omega) (k+3) S)<|Ok.eq (m8 (hdD (t',w')) (by rw [Es];exact f) (by rw [Es];omega) (k+3) S)<|Ok.ret ⟨?_,rfl⟩;unfold j9;rw [if_neg (by omega)];show D.tup [.tup ((r.bx.map bxD).set n (bxD (m,c))),.tup ((r.hs.map hdD).set i (hdD (t',w')))]=.tup [.tup ((r.bx.set n (m,c)).map bxD),.tup ((r.hs.set i (t',w')).map hdD)];simp_all
theorem yB {ws:List D} {y:D} (d:ws[i]?=some y) (a:rn (k+4) hR [trD t,y] S=.ok (hdD (t',w')) S) (e:size<=t'.length) (f:i<100):Xn (nxt (evK Rs Γ (rn (k+4)) 40) F7 [nth BT.body 4,nth BT.body 5,nth BT.body 6] endD (.nx [some (.int (size:Int)),some r.d,some (.int (i:Int)),some (.tup (r.bx.map bxD)),some (.tup (r.hs.map hdD)),some (trD t),some (.int (n:Int)),some (oD m),some (.bl c),some (.tup ws),none])) S λn S'=>n=S.length/\S'=S++[exS i]:=by
 have b:k8 (trD t') S=.ok (.int (t'.length:Int)) S:=(p7 _ S).trans (by rw [Es]);exact Xn.nxt<|Xn.cg (vP ..)<|Xn.eq (y9 S d)<|Xn.eq a<|Xn.nxt<|Xn.cg (ve ..)<|Xn.eq rfl<|Xn.eq b<|Xn.eq (ng _ _ _)<|Xn.eq (k4 _ _)<|Xn.pos (EO (by omega))<|raise_k rfl (td (cM ⟨by omega,by omega⟩))
end
section
variable {size many:Nat} {r:Nst} (V:VN size many r) {i:Nat} (hi:i<many) (k:Nat) (S:Sto)
include V hi
theorem dr:(i4 size r i=none->Xn (rn (k+5) v9 [.int (size:Int),r.d,.int (i:Int)]) S λn S'=>n=S.length/\S'=S++[exS i])/\(i4 size r i≠none->rn (k+5) v9 [.int (size:Int),r.d,.int (i:Int)] S=.ok (gD (i4 size r i)) S):=by
 have b1:=V.bl;have b2:=V.hl;have b3:=V.s5;have b4:=V.m5;have b5:=kw b3;have hi':i<r.hs.length:=by omega
 have ha:=Ez hi';have htr:=V.tr r.hs[i] (FI hi');generalize r.hs[i]=h at ha htr;obtain ⟨t,w⟩:=h;have htr:t.length<size:=htr;have hn:n9 t<r.bx.length:=by rw [b1];exact nQ b3 htr
 have hb:=Ez hn;generalize r.bx[n9 t]=b at hb;obtain ⟨mk,cl⟩:=b;have hst:=pw (size:=size) ha hb;have nm:(tri (dn t+rt t)+dn t:Nat)=n9 t:=by unfold n9;rw [Y1]
 have el:=d5 (oj hb (λh hh=>by have:=V.tr h hh;omega) (by omega) (.int (size:Int)) k S);obtain ⟨ws,hws⟩:∃ ws,ws=r.hs.map λh=>E5 (pN h.1 (n9 t)) h:=⟨_,rfl⟩;have hl:zm r (mk,cl) (λh=>pN h.1 (n9 t))=.tup [oD mk,.bl cl,.tup ws]:=by rw [hws];rfl
 rw [hl] at el;have wi:ws[i]?=some w.d:=by rw [hws,d7 ha];exact congrArg some (lM (t,w))
 have wl:ws.length<=6:=by rw [hws,Es];omega
 clear hws hl;have en:=fq (dn t) (rt t) (by have:=Y1 t;omega) (k+2) S;rw [nm] at en;have is:∀ y:D,(ws.set i y)[i]?=some y:=λy=>Fg (Et.mp wi).1;have stay:∀ (m:Option Nat) (c:Bool) (w':Wd),bh mk cl i w=some (m,c,w'.s)->i4 size r i=j9 size r i (n9 t) (m,c) t w'->w≠.holds->rn (k+5) v9 [.int (size:Int),r.d,.int (i:Int)] S=.ok (gD (i4 size r i)) S/\i4 size r i≠none:=by
  intro m c w' e1 e2 nh;have eb:bhD mk cl i w ws=.tup [oD m,.bl c,.tup (ws.set i w'.d)]:=by unfold bhD;rw [e1];rfl
  have ed:=gP (mk:=mk) (cl:=cl) wi wl nh (k+2) S;rw [eb] at ed;refine ⟨?_,?_⟩
  ·rw [e2];exact d5 (lv ha en el ed (pU (is _) (rl w' (k+3) S) htr hn hi' (by omega) (by omega)))
  ·rw [e2];unfold j9;rw [if_neg (by omega)];exact λz=>by cases z
 have leave:∀ (m:Option Nat) (c b:Bool),bh mk cl i w=some (m,c,L6 b)->i4 size r i=j9 size r i (n9 t) (m,c) (t++[b]) .out->w≠.holds->(i4 size r i=none->Xn (rn (k+5) v9 [.int (size:Int),r.d,.int (i:Int)]) S λn S'=>n=S.length/\S'=S++[exS i])/\(i4 size r i≠none->rn (k+5) v9 [.int (size:Int),r.d,.int (i:Int)] S=.ok (gD (i4 size r i)) S):=by
  intro m c b e1 e2 nh;have eb:bhD mk cl i w ws=.tup [oD m,.bl c,.tup (ws.set i (u3 b))]:=by unfold bhD;rw [e1];rfl
  have ed:=gP (mk:=mk) (cl:=cl) wi wl nh (k+2) S;rw [eb] at ed;rw [e2];by_cases q:size<=(t++[b]).length
  ·refine ⟨λ_=>yx ha en el ed (yB (is _) (dt b (by omega) (k+3) S) q (by omega)),λz=>(z ?_).elim⟩;unfold j9;exact if_pos q
  ·refine ⟨λz=>?_,λ_=>d5 (lv ha en el ed (pU (is _) (dt b (by omega) (k+3) S) (by omega) hn hi' (by omega) (by omega)))⟩;unfold j9 at z;rw [if_neg q] at z;cases z
 have of_stay:(rn (k+5) v9 [.int (size:Int),r.d,.int (i:Int)] S=.ok (gD (i4 size r i)) S/\i4 size r i≠none)->(i4 size r i=none->Xn (rn (k+5) v9 [.int (size:Int),r.d,.int (i:Int)]) S λn S'=>n=S.length/\S'=S++[exS i])/\(i4 size r i≠none->rn (k+5) v9 [.int (size:Int),r.d,.int (i:Int)] S=.ok (gD (i4 size r i)) S):=λh=>⟨λz=>(h.2 z).elim,λ_=>h.1⟩;cases w with
 | out=>exact of_stay (stay (some i) cl .ask rfl hst (by intro z;cases z))
 | ask=>
  cases cl with
  | true=>exact leave mk true false rfl hst (by intro z;cases z)
  | false=>exact of_stay (stay mk false .close rfl hst (by intro z;cases z))
 | close=>exact of_stay (stay mk true .look rfl hst (by intro z;cases z))
 | look=>
  by_cases q:mk=some i
  ·exact of_stay (stay mk cl .holds (lF q) (by rw [hst];exact if_pos q) (by intro z;cases z))
  ·exact leave mk cl true (oE q) (by rw [hst];exact if_neg q) (by intro z;cases z)
 | holds=>exact ⟨λ_=>yC ha en el (xy wi (by omega) (k+2) S),λz=>(z hst).elim⟩
end
end L3.K35
namespace L3.K35.L
open PySem PySem.Spec PyProof.Rows L2
def bxD:Option Nat->D
 | none=>.non
 | some b=>.int (b:Int)
def nD (n:Nat):D:=.int (n:Int)
def upB (bx:List (Option Nat)) (m i:Nat):Bool:=match bx[i]? with
 | some (some b)=>decide (b<=m)
 | _=>false
def ups (bx:List (Option Nat)) (m:Nat):List Nat:=(List.range bx.length).filter (upB bx m)
theorem eX {bx:List (Option Nat)} {m i:Nat} {b:Bool} (hb:upB bx m i=b):(List.range (i+1)).filter (upB bx m)=(List.range i).filter (upB bx m)++(if b=true then [i] else []):=by
 rw [Gq,FD];cases b with
 | true=>rw [List.filter_cons_of_pos hb];rfl
 | false=>rw [HN (by rw [hb];exact EH)];rfl
theorem sj {bx:List (Option Nat)} {i:Nat} {o:Option Nat} (h:bx[i]?=some o) (S:Sto):O4 (bx.map bxD) i S=some (some (.tup [.int (i:Int),bxD o])):=by
 have e:(bx.map bxD)[i]?=some (bxD o):=d7 h;simp only [O4,e]
theorem ot (bx:List (Option Nat)) (S:Sto):O4 (bx.map bxD) bx.length S=some none:=by
 have e:(bx.map bxD)[bx.length]?=none:=Gr (by simp);simp only [O4,e,Es,Ib]
theorem mC {bx:List (Option Nat)} {m i:Nat} {o:Option Nat} (h:bx[i]?=some o) (S:Sto):(bind (c8 .IsNot (bxD o) .non) λx1=>bind (asB x1) λz2=>if z2=true then (bind (c8 .LtE (bxD o) (.int (m:Int))) λx3=>bind (asB x3) λz4=>ret z4) else (ret false)) S=.ok (upB bx m i) S:=by
 cases o with
 | none=>
  have:upB bx m i=false:=by unfold upB;rw [h]
  rw [this];rfl
 | some b=>
  have:upB bx m i=decide ((b:Int)<=(m:Int)):=by
   unfold upB;rw [h];by_cases q:b<=m
   ·exact (EO q).trans (EO (by omega)).symm
   ·exact (EX q).trans (EX (by omega)).symm
  rw [this];rfl
theorem im {bx:List (Option Nat)} {m i:Nat} {S:Sto} {f:M D} (hl:bx.length<=1000) (hi:i<bx.length) (hf:f S=.ok (nD i) S):if upB bx m i=true then Ok f S λy S2=>(((List.range i).filter (upB bx m)).map nD).length<sizeLine/\S2=S/\((List.range i).filter (upB bx m)).map nD++[y]=((List.range (i+1)).filter (upB bx m)).map nD else (S=S/\((List.range i).filter (upB bx m)).map nD=((List.range (i+1)).filter (upB bx m)).map nD):=by
 cases hb:upB bx m i with
 | true=>
  rw [if_pos rfl];refine ⟨_,_,hf,?_,rfl,?_⟩
  ·rw [Es,Fj];have:=Ft (upB bx m) (List.range i);rw [Gf] at this;omega
  ·rw [eX hb,if_pos rfl,FQ];rfl
 | false=>
  rw [if_neg EH];exact ⟨rfl,by rw [eX hb];simp⟩
theorem Bk {bx:List (Option Nat)} {m k:Nat} {S:Sto} (hl:bx.length<=1000):Ok (rn (k+1) CW [.tup (bx.map bxD),.int (m:Int)]) S λd S'=>d=.tup ((ups bx m).map nD)/\S'=S:=by
 rw [rn,a8 (fd:=Ep) rfl,yT];refine nx_bind (Ok.eq (a:=(O4 (bx.map bxD),bx.length+1)) (by show R.ok (O4 (bx.map bxD),(bx.map bxD).length+1) S=_;rw [Es]) ((Ok.comp (n:=bx.length) (λi S' es=>S'=S/\es=((List.range i).filter (upB bx m)).map nD) (λS' es _=>ot bx S') ?_ ⟨rfl,rfl⟩).mono ?_))
 ·rintro i S' es hi ⟨rfl,rfl⟩;have h:bx[i]?=some (bx[i]):=Ez hi;generalize bx[i]=o at h;refine ⟨_,sj h S',upB bx m i,S',?_,?_⟩
  ·rw [fo];exact mC h S'
  ·have:=im (m:=m) (S:=S') (f:=gI (rn k) [some (.tup (bx.map bxD)),some (.int (m:Int))] (.tup [.int (i:Int),bxD o])) hl hi (by rw [gp];rfl);exact this
 ·rintro es S' ⟨rfl,rfl⟩;exact Ok.eq rfl (Ok.ret ⟨rfl,rfl⟩)
theorem rP {bx:List (Option Nat)} {m k:Nat} {S:Sto} (hl:bx.length<1000):Ok (rn (k+1) xL [.tup (bx.map bxD),.int (m:Int)]) S λd S'=>d=.tup ((ups bx m).map nD)/\S'=S:=by
 rw [rn,a8 (fd:=lY) rfl,qW];refine nx_bind (Ok.eq (p7 _ S) ?_);rw [Es];refine Ok.eq (U0 (n:=bx.length) (by omega) _) ((Ok.comp (n:=bx.length) (λi S' es=>S'=S/\es=((List.range i).filter (upB bx m)).map nD) (λS' es _=>K6 _ S') ?_ ⟨rfl,rfl⟩).mono ?_)
 ·rintro i S' es hi ⟨rfl,rfl⟩;have h:bx[i]?=some (bx[i]):=Ez hi;generalize bx[i]=o at h;refine ⟨.int (i:Int),T5 hi S',upB bx m i,S',?_,?_⟩
  ·rw [a9 (y9 S' (d7 h))];have:=mC (m:=m) h S';cases o with
   | none=>exact this
   | some b=>
    rw [<- this];show L3.bind (ixD (.tup (bx.map bxD)) (.int (i:Int))) _ S'=_;rw [a9 (y9 S' (d7 h))];rfl
  ·exact im (m:=m) (S:=S') (f:=ret (.int (i:Int))) (by omega) hi rfl
 ·rintro es S' ⟨rfl,rfl⟩;exact Ok.eq rfl (Ok.ret ⟨rfl,rfl⟩)
theorem m8 {ds:List D} {i k:Nat} {x:D} {S:Sto} (h:i<ds.length) (hl:ds.length<=1000):Ok (rn (k+1) Z7 [.tup ds,.int (i:Int),x]) S λd S'=>d=.tup (ds.set i x)/\S'=S:=by
 rw [rn,a8 (fd:=oN) rfl,cP];exact G5 h hl
theorem with2_ok {ds:List D} {i k:Nat} {x:D} {S:Sto} (h:i<ds.length) (hl:ds.length<=1000):Ok (rn (k+1) aj [.tup ds,.int (i:Int),x]) S λd S'=>d=.tup (ds.set i x)/\S'=S:=by
 rw [rn,a8 (fd:=pj) rfl,iM];exact G5 h hl
inductive Hd where
 | out
 | look (l:Nat)
 | put (l:Nat)
 | holds (v:List Nat)
def Hd.d:Hd->D
 | .out=>.tup [.str "out"]
 | .look l=>.tup [.str "look",.int l]
 | .put l=>.tup [.str "put",.int l]
 | .holds v=>.tup [.str "holds",.tup (v.map nD)]
structure Lv where
 bx:List (Option Nat)
 hs:List Hd
def Lv.d (r:Lv):D:=.tup [.tup (r.bx.map bxD),.tup (r.hs.map Hd.d)]
def Hd.ok:Hd->Prop
 | .out=>True
 | .look l=>l<=6
 | .put l=>l<=6
 | .holds v=>v.length<=6/\∀ x∈v,x<=6
structure VL (r:Lv):Prop where
 len:r.bx.length=r.hs.length
 few:r.hs.length<=6
 hd:∀ a∈r.hs,a.ok
 bx:∀ g,some g∈r.bx->g<=6
def U2 (bx:List (Option Nat)) (l:Nat):Hd:=if l<=(ups bx l).length then .holds (ups bx l) else .put (l-1)
def stepL (r:Lv) (i:Nat):Option Lv:=match r.hs[i]? with
 | some .out=>some ⟨r.bx.set i (some r.bx.length),r.hs.set i (.look r.bx.length)⟩
 | some (.put l)=>some ⟨r.bx.set i (some l),r.hs.set i (.look l)⟩
 | some (.look l)=>some ⟨r.bx,r.hs.set i (U2 r.bx l)⟩
 | some (.holds _)=>none
 | none=>none
theorem uM {r:Lv} {i:Nat} (e:r.hs[i]?=some .out):stepL r i=some ⟨r.bx.set i (some r.bx.length),r.hs.set i (.look r.bx.length)⟩:=by unfold stepL;rw [e]
theorem uO {r:Lv} {i l:Nat} (e:r.hs[i]?=some (.put l)):stepL r i=some ⟨r.bx.set i (some l),r.hs.set i (.look l)⟩:=by unfold stepL;rw [e]
theorem rf {r:Lv} {i l:Nat} (e:r.hs[i]?=some (.look l)):stepL r i=some ⟨r.bx,r.hs.set i (U2 r.bx l)⟩:=by unfold stepL;rw [e]
theorem wo {r:Lv} {i:Nat} {v:List Nat} (e:r.hs[i]?=some (.holds v)):stepL r i=none:=by unfold stepL;rw [e]
theorem wX {bx:List (Option Nat)} {m:Nat} (h:bx.length<=6):(Hd.holds (ups bx m)).ok:=by
 refine ⟨?_,λx hx=>?_⟩
 ·have:=Ft (upB bx m) (List.range bx.length);rw [Gf] at this;exact Fk this h
 ·have:=Gx.mp (GN.mp hx).1;omega
theorem pT {bx:List (Option Nat)} {l:Nat} (h:bx.length<=6) (hl:l<=6):(U2 bx l).ok:=by
 unfold U2;split
 ·exact wX h
 ·show l-1<=6;omega
theorem VL.mk2 {r:Lv} (V:VL r) {i:Nat} {a:Hd} {bx:List (Option Nat)} (hl:bx.length=r.bx.length) (ha:a.ok) (hb:∀ g,some g∈bx->g<=6):VL ⟨bx,r.hs.set i a⟩:=by
 refine ⟨by show bx.length=(r.hs.set i a).length;rw [EV,hl];exact V.len,by show (r.hs.set i a).length<=6;rw [EV];exact V.few,λx hx=>?_,hb⟩;rcases Gc hx with z | z
 ·exact V.hd x z
 ·rw [z];exact ha
theorem VL.step {r r':Lv} (V:VL r) {i:Nat} (hi:i<r.hs.length) (e:stepL r i=some r'):VL r'/\r'.hs.length=r.hs.length:=by
 have few:=V.few;have len:=V.len;have ha:r.hs[i]?=some r.hs[i]:=Ez hi;have ho:=V.hd r.hs[i] (FI hi);generalize r.hs[i]=a at ha ho;have bset:∀ (o:Nat),o<=6->∀ g,some g∈r.bx.set i (some o)->g<=6:=λo ho g hg=>by
  rcases Gc hg with z | z
  ·exact V.bx g z
  ·cases z;exact ho
 cases a with
 | out=>
  rw [uM ha] at e;cases e;exact ⟨V.mk2 (by rw [EV]) (show r.bx.length<=6 by omega) (bset _ (by omega)),by simp⟩
 | put l=>
  rw [uO ha] at e;cases e;exact ⟨V.mk2 (by rw [EV]) ho (bset _ ho),by simp⟩
 | look l=>
  rw [rf ha] at e;cases e;exact ⟨V.mk2 rfl (pT (by omega) ho) V.bx,by simp⟩
 | holds v=>rw [wo ha] at e;cases e
def dueL (r:Lv) (i:Nat):D:=match stepL r i with
 | none=>.non
 | some r'=>r'.d
def rF (r:Lv) (i:Nat):D:=match stepL r i with
 | none=>.tup [.str "step",.int (i:Int)]
 | some r'=>r'.d
theorem lH {r r':Lv} {i:Nat} (e:stepL r i=some r'):dueL r i=r'.d:=by unfold dueL;rw [e]
theorem AN {r:Lv} {i:Nat} (e:stepL r i=none):dueL r i=.non:=by unfold dueL;rw [e]
theorem out_s {r r':Lv} {i:Nat} (e:stepL r i=some r'):rF r i=r'.d:=by unfold rF;rw [e]
section
variable {r:Lv} (V:VL r) {i:Nat} (hi:i<r.hs.length) (k:Nat) (S:Sto)
include V hi
theorem ze (a:Hd):Ok (rn (k+1) Z7 [.tup (r.hs.map Hd.d),.int (i:Int),a.d]) S λd S'=>d=.tup ((r.hs.set i a).map Hd.d)/\S'=S:=by
 have:=V.few;rw [Fi];exact m8 (by rw [Es];exact hi) (by rw [Es];omega)
theorem oU (a:Hd):Ok (rn (k+1) aj [.tup (r.hs.map Hd.d),.int (i:Int),a.d]) S λd S'=>d=.tup ((r.hs.set i a).map Hd.d)/\S'=S:=by
 have:=V.few;rw [Fi];exact with2_ok (by rw [Es];exact hi) (by rw [Es];omega)
theorem Dn (l:Nat):Ok (rn (k+1) Z7 [.tup (r.bx.map bxD),.int (i:Int),.int (l:Int)]) S λd S'=>d=.tup ((r.bx.set i (some l)).map bxD)/\S'=S:=by
 have:=V.few;have:=V.len;rw [Fi];exact m8 (by rw [Es];omega) (by rw [Es];omega)
theorem BU (l:Nat):Ok (rn (k+1) aj [.tup (r.bx.map bxD),.int (i:Int),.int (l:Int)]) S λd S'=>d=.tup ((r.bx.set i (some l)).map bxD)/\S'=S:=by
 have:=V.few;have:=V.len;rw [Fi];exact with2_ok (by rw [Es];omega) (by rw [Es];omega)
omit hi in
theorem pq (l:Nat):Ok (rn (k+2) zy [.tup (r.bx.map bxD),.int (l:Int)]) S λd S'=>d=(U2 r.bx l).d/\S'=S:=by
 have:=V.few;have:=V.len;rw [rn,a8 (fd:=xR) rfl,wG];refine Ok.bind ((Bk (by omega)).mono ?_);rintro _ _ ⟨rfl,rfl⟩;refine Ok.eq (p7 _ _) ?_;rw [Es];refine Ok.eq (AK _ _ _) (Ok.eq (k4 _ _) ?_);unfold U2;by_cases q:l<=(ups r.bx l).length
 ·rw [if_pos (EO (by omega)),if_pos q];exact Ok.ret ⟨rfl,rfl⟩
 ·rw [if_neg (by rw [EX (by omega)];exact EH),if_neg q];exact Ok.eq (M7 (b:=1) (by omega) _) (Ok.ret ⟨rfl,rfl⟩)
theorem lev_ok:Ok (rn (k+2) zg [r.d,.int (i:Int)]) S λd S'=>d=dueL r i/\S'=S:=by
 have few:=V.few;have len:=V.len;have ha:r.hs[i]?=some r.hs[i]:=Ez hi;rw [rn,a8 (fd:=Ef) rfl,xX,xQ];refine Ok.first (Ok.cg (Cd ..) (Ok.eq (a:=.nx [some r.d,some (.int (i:Int)),some (.tup (r.bx.map bxD)),some (.tup (r.hs.map Hd.d)),none,none,none,none]) rfl (Ok.nxt (Ok.cg (Du ..) (Ok.eq (y9 S (d7 ha)) (Ok.nxt (Ok.cg (Dq ..) ?_)))))));generalize r.hs[i]=a at ha;have last:∀ (l:Nat) (o5 o6 o7:Option D) (S:Sto),stepL r i=some ⟨r.bx.set i (some l),r.hs.set i (.look l)⟩->Ok (nxt (evK Rs Γ (rn (k+1)) 40) eJ [nth Ef.body 5] endD (.nx [some r.d,some (.int (i:Int)),some (.tup (r.bx.map bxD)),some (.tup (r.hs.map Hd.d)),o5,o6,o7,some (.int (l:Int))])) S λd S'=>d=dueL r i/\S'=S:=λl o5 o6 o7 S e=>by
  refine Ok.nxt (Ok.cg (EA ..) (Ok.bind ((BU V hi k S l).mono ?_)));rintro _ _ ⟨rfl,rfl⟩;refine Ok.bind ((oU V hi k _ (.look l)).mono ?_);rintro _ _ ⟨rfl,rfl⟩;exact Ok.ret ⟨(lH e).symm,rfl⟩
 cases a with
 | out=>
  refine Ok.eq rfl (Ok.eq rfl (Ok.eq rfl (Ok.neg (by decide) (Ok.nxt (Ok.cg (yk ..) (Ok.eq rfl (Ok.eq rfl (Ok.eq rfl (Ok.neg (by decide) (Ok.nxt (Ok.cg (Ah ..) (Ok.eq rfl (Ok.eq rfl (Ok.eq rfl (Ok.neg (by decide) (Ok.eq (p7 _ _) ?_))))))))))))))));rw [Es];exact last r.bx.length _ _ _ S (uM ha)
 | put l=>
  exact Ok.eq rfl (Ok.eq rfl (Ok.eq rfl (Ok.neg (by decide) (Ok.nxt (Ok.cg (yk ..) (Ok.eq rfl (Ok.eq rfl (Ok.eq rfl (Ok.neg (by decide) (Ok.nxt (Ok.cg (Ah ..) (Ok.eq rfl (Ok.eq rfl (Ok.eq rfl (Ok.pos (by decide) (Ok.eq rfl (last l _ _ _ S (uO ha))))))))))))))))))
 | holds v=>
  exact Ok.eq rfl (Ok.eq rfl (Ok.eq rfl (Ok.pos (by decide) (Ok.ret ⟨(AN (wo ha)).symm,rfl⟩))))
 | look l=>
  refine Ok.eq rfl (Ok.eq rfl (Ok.eq rfl (Ok.neg (by decide) (Ok.nxt (Ok.cg (yk ..) (Ok.eq rfl (Ok.eq rfl (Ok.eq rfl (Ok.pos (by decide) (Ok.eq rfl (Ok.bind ((rP (by omega)).mono ?_))))))))))));rintro _ _ ⟨rfl,rfl⟩;refine Ok.eq (p7 _ _) ?_;rw [Es];refine Ok.eq rfl (Ok.eq (ng _ _ _) (Ok.eq (k4 _ _) ?_));have e:=rf ha;unfold U2 at e;by_cases q:l<=(ups r.bx l).length
  ·rw [if_pos q] at e;refine Ok.pos (EO (by omega)) (Ok.bind ((oU V hi k _ (.holds (ups r.bx l))).mono ?_));rintro _ _ ⟨rfl,rfl⟩;exact Ok.ret ⟨(lH e).symm,rfl⟩
  ·rw [if_neg q] at e;refine Ok.neg (by rw [EX (by omega)];exact EH) (Ok.eq rfl (Ok.eq (M7 (b:=1) (by omega) _) (Ok.bind ((oU V hi k _ (.put (l-1))).mono ?_))));rintro _ _ ⟨rfl,rfl⟩;exact Ok.ret ⟨(lH e).symm,rfl⟩
end
section
variable {r:Lv} (V:VL r) {i:Nat} (hi:i<r.hs.length) (k:Nat) (S:Sto)
abbrev sρ (r:Lv) (i:Nat) (a:Hd) (o:Option D):L3.Env:=[some r.d,some (.int (i:Int)),some (.tup (r.bx.map bxD)),some (.tup (r.hs.map Hd.d)),some a.d,o]
include hi
theorem iX:∃ a,r.hs[i]?=some a/\rn (k+3) nz [r.d,.int (i:Int)] S=nxt (evK Rs Γ (rn (k+2)) 40) cz [nth Ea.body 2,nth Ea.body 3,nth Ea.body 4,nth Ea.body 5] endD (.nx (sρ r i a none)) S:=by
 have ha:r.hs[i]?=some r.hs[i]:=Ez hi;refine ⟨_,ha,?_⟩;rw [rn,a8 (fd:=Ea) rfl,wn,xJ,du];show XX _ _ _ _ 0 _ _ S=_;rw [Da];rw [a9 (show C8 (n4 [2,3]) r.d _ S=.ok (.nx [some r.d,some (.int (i:Int)),some (.tup (r.bx.map bxD)),some (.tup (r.hs.map Hd.d)),none,none]) S from rfl)];show i6 _ _ [nth Ea.body 1,nth Ea.body 2,nth Ea.body 3,nth Ea.body 4,nth Ea.body 5] _ _ S=_;rw [du];show XX _ _ _ _ 1 _ _ S=_;rw [DG,a9 (y9 S (d7 ha))];rfl
include V
theorem step_ok (hn:stepL r i≠none):Ok (rn (k+3) nz [r.d,.int (i:Int)]) S λd S'=>d=rF r i/\S'=S:=by
 have few:=V.few;obtain ⟨a,ha,e⟩:=iX hi k S;refine Ok.cgS e (Ok.nxt (Ok.cg (zp ..) ?_));have last:∀ (l:Nat) (o5:Option D) (S:Sto),stepL r i=some ⟨r.bx.set i (some l),r.hs.set i (.look l)⟩->Ok (nxt (evK Rs Γ (rn (k+2)) 40) cz [nth Ea.body 5] endD (.nx [some r.d,some (.int (i:Int)),some (.tup (r.bx.map bxD)),some (.tup (r.hs.map Hd.d)),o5,some (.int (l:Int))])) S λd S'=>d=rF r i/\S'=S:=λl o5 S e=>by
  refine Ok.nxt (Ok.cg (DU ..) (Ok.bind ((Dn V hi (k+1) S l).mono ?_)));rintro _ _ ⟨rfl,rfl⟩;refine Ok.bind ((ze V hi (k+1) _ (.look l)).mono ?_);rintro _ _ ⟨rfl,rfl⟩;exact Ok.ret ⟨(out_s e).symm,rfl⟩
 cases a with
 | out=>
  refine Ok.eq rfl (Ok.eq rfl (Ok.eq rfl (Ok.neg (by decide) (Ok.nxt (Ok.cg (xU ..) (Ok.eq rfl (Ok.eq rfl (Ok.eq rfl (Ok.neg (by decide) (Ok.nxt (Ok.cg (Bz ..) (Ok.eq rfl (Ok.eq rfl (Ok.eq rfl (Ok.pos (by decide) (Ok.eq (p7 _ _) ?_))))))))))))))));rw [Es];exact last r.bx.length _ S (uM ha)
 | put l=>
  exact Ok.eq rfl<|Ok.eq rfl<|Ok.eq rfl<|Ok.neg (by decide)<|Ok.nxt<|Ok.cg (xU ..)<|Ok.eq rfl<|Ok.eq rfl<|Ok.eq rfl<|Ok.neg (by decide)<|Ok.nxt<|Ok.cg (Bz ..)<|Ok.eq rfl<|Ok.eq rfl<|Ok.eq rfl<|Ok.neg (by decide)<|Ok.eq rfl<|last l _ S (uO ha)
 | look l=>
  refine Ok.eq rfl (Ok.eq rfl (Ok.eq rfl (Ok.neg (by decide) (Ok.nxt (Ok.cg (xU ..) (Ok.eq rfl (Ok.eq rfl (Ok.eq rfl (Ok.pos (by decide) (Ok.eq rfl (Ok.bind ((pq V k S l).mono ?_))))))))))));rintro _ _ ⟨rfl,rfl⟩;refine Ok.bind ((ze V hi (k+1) _ (U2 r.bx l)).mono ?_);rintro _ _ ⟨rfl,rfl⟩;exact Ok.ret ⟨(out_s (rf ha)).symm,rfl⟩
 | holds v=>exact absurd (wo ha) hn
theorem step_no (hn:stepL r i=none):Xn (rn (k+3) nz [r.d,.int (i:Int)]) S λn S'=>n=S.length/\S'=S++[.exc 1 [("hand",.int (i:Int))]]:=by
 have few:=V.few;obtain ⟨a,ha,e⟩:=iX hi k S;refine Xn.cgS e (Xn.nxt (Xn.cg (zp ..) ?_));cases a with
 | out=>rw [uM ha] at hn;cases hn
 | put l=>rw [uO ha] at hn;cases hn
 | look l=>rw [rf ha] at hn;cases hn
 | holds v=>exact Xn.eq rfl (Xn.eq rfl (Xn.eq rfl (Xn.pos (by decide) (raise_k rfl (td (cM ⟨by omega,by omega⟩))))))
end
theorem lT {a:Hd} (h:a.ok):Sml 2 500 a.d:=by
 cases a with
 | out=>exact Sml.w
 | look l=>exact (Sml.tup (n:=1) (N:=60) (m:=2) (.cons .w (.cons (.nat (by have:l<=6:=h;omega)) .nil)) (EI _)).up
 | put l=>exact (Sml.tup (n:=1) (N:=60) (m:=2) (.cons .w (.cons (.nat (by have:l<=6:=h;omega)) .nil)) (EI _)).up
 | holds v=>
  have hv:Sml 1 375 (.tup (v.map nD)):=(Sml.tup (n:=0) (N:=60) (m:=6) (.map λx hx=>.nat (by have:=h.2 x hx;omega)) (by rw [Es];exact h.1)).up;refine ⟨⟨fm _ (by decide +kernel),hv.pl,trivial⟩,?_,?_⟩
  ·show max 0 (max (dp (.tup (v.map nD))) 0)+1<=2;have:=hv.dp;omega
  ·show sz (.str "holds")+2+(sz (.tup (v.map nD))+2+0)+3<=500;have:=hv.sz;have:sz (.str "holds")=52:=by decide +kernel
   omega
theorem r_sm {r:Lv} (V:VL r):Sml 4 7000 r.d:=by
 have few:=V.few;have len:=V.len;have hb:Smls 0 60 (r.bx.map bxD):=.map λo ho=>by
  cases o with
  | none=>exact .non
  | some g=>exact .nat (by have:=V.bx g ho;omega)
 have hh:Smls 2 500 (r.hs.map Hd.d):=.map λa ha=>lT (V.hd a ha);have h1:Sml 3 3100 (.tup (r.bx.map bxD)):=(Sml.tup (m:=6) hb (by rw [Es];omega)).up;have h2:Sml 3 3100 (.tup (r.hs.map Hd.d)):=(Sml.tup (m:=6) hh (by rw [Es];omega)).up;exact (Sml.tup (m:=2) (.cons h1 (.cons h2 .nil)) (EI _)).up
def R0 (m:Nat):Lv:=⟨List.replicate m none,List.replicate m .out⟩
theorem r0_ok {m:Nat} (h6:m<=6):VL (R0 m)/\(R0 m).hs.length=m:=by
 refine ⟨⟨by simp [R0],by simp [R0];exact h6,λa ha=>?_,λg hg=>?_⟩,by simp [R0]⟩
 ·have ha:a∈List.replicate m Hd.out:=ha;rw [(GU.mp ha).2];trivial
 ·have hg:some g∈List.replicate m (none:Option Nat):=hg;cases (GU.mp hg).2
theorem mul_ok {m:Nat} (h:0<m) (h6:m<=6) (S:Sto):m7 (.tup [.non]) (.int (m:Int)) S=.ok (.tup ((List.replicate m (none:Option Nat)).map bxD)) S/\m7 (.tup [.tup [.str "out"]]) (.int (m:Int)) S=.ok (.tup ((List.replicate m Hd.out).map Hd.d)) S:=by
 have:m=1\/m=2\/m=3\/m=4\/m=5\/m=6:=by omega
 rcases this with rfl | rfl | rfl | rfl | rfl | rfl <;> exact ⟨by kernel_rfl,by kernel_rfl⟩
end L3.K35.L
namespace L3.K35.R
open PySem PySem.Spec PyProof.Rows L2 L3.Rw
theorem m8 {i k:Nat} {x:D} {S:Sto} (h:i<ds.length) (a:ds.length<=1000):rn (k+1) Z7 [.tup ds,.int (i:Int),x] S=.ok (.tup (ds.set i x)) S:=by
 rw [rn,a8 rfl,cP];exact d5 (G5 h a)
theorem oh (a:Hd) (S:Sto):(bind (ixD a.d (.int 0)) λw=>bind (c8 .NotEq w (.str "rests")) λe=>bind (asB e) λz=>ret z) S=.ok a.at S:=by cases a <;> kernel_rfl
theorem rO {hs:List Hd} {k:Nat} {S:Sto} (h:hs.length<=6):rn (k+1) AY [.tup (hs.map Hd.d)] S=.ok (.int (((hs.filter Hd.at).length:Nat):Int)) S:=by
 have e:=v8 (t:=λd=>bind (ixD d (.int 0)) λw=>bind (c8 .NotEq w (.str "rests")) λe=>bind (asB e) λz=>ret z) (zL h) (λa _=>oh a S) (λa _ _=>rfl);rw [rn,a8 rfl,xD];refine (nxb (a:=(hs.filter Hd.at).map Hd.d) (S':=S) ?_).trans ?_
 ·rw [a9 (iZ _ S)];simp;exact e
 ·show R.ok (D.int ((((hs.filter Hd.at).map Hd.d).length:Nat):Int)) S=_;rw [Es]
theorem yS {hs:List Hd} {a i k:Nat} {S:Sto} (I:BI bx (hs.set i (.tries 1))) (c:i<hs.length):rn (k+2) wu [.tup [.tup (bx.map bD),.tup (hs.map Hd.d),.int (a:Int)],.int (i:Int)] S=.ok (Rw.d ⟨bx,hs.set i (.tries 1),max a (cnt 1 (hs.set i (.tries 1)))⟩) S:=by
 have b:=I.few;rw [EV] at b;refine d5 ?_;rw [rn,a8 rfl,rh,uP];refine Ok.first<|Ok.cg (AR ..)<|Ok.eq rfl ?_;refine Ok.nxt<|Ok.cg (AM ..)<|Ok.eq (m8 (by rw [Es];exact c) (by rw [Es];omega)) ?_;rw [show D.tup [.str "tries",.int 1]=(Hd.tries 1).d from rfl,<- Fi];refine Ok.nxt<|Ok.cg (zb ..)<|Ok.eq (rO I.few) ?_;rw [nN I];exact Ok.eq (lB _ _ S)<|Ok.ret ⟨rfl,rfl⟩
theorem step_ok (I:RI r) {i:Nat} (hi:i<r.hs.length) (k:Nat) (S:Sto):rn (k+3) wp [r.d,.int (i:Int)] S=.ok (stepR r i).d S:=by
 obtain ⟨a,ha⟩:∃ a,r.hs[i]?=some a:=⟨_,Ez hi⟩;have J:=I.step hi;have few:=I.b.few;have hi':i<(r.hs.map Hd.d).length:=by rw [Es];exact hi
 have hl':(r.hs.map Hd.d).length<=1000:=by rw [Es];omega
 refine d5 ?_;rw [rn,a8 rfl,qY,qV];refine Ok.first<|Ok.cg (zn ..)<|Ok.eq rfl ?_;refine Ok.nxt<|Ok.cg (zh ..)<|Ok.eq (y9 S (d7 ha)) ?_;refine Ok.nxt<|Ok.cg (CB ..) ?_;unfold stepR at J ⊢;rw [ha] at J ⊢;cases a with
 | rests=>
  refine Ok.eq rfl<|Ok.eq (S1:=S) (a:=.bl true) (by kernel_rfl)<|Ok.eq rfl<|Ok.pos rfl<|Ok.eq (yS J.b hi) ?_;exact Ok.ret ⟨rfl,rfl⟩
 | holds b=>
  obtain ⟨b1,hb⟩:=I.b.mh i b ha;have hbl:b-1<(r.bx.map bD).length:=by rw [Es];exact (Et.mp hb).1
  refine Ok.eq rfl<|Ok.eq (S1:=S) (a:=.bl false) (by kernel_rfl)<|Ok.eq rfl<|Ok.neg (by decide) ?_;refine Ok.nxt<|Ok.cg (vQ ..)<|Ok.eq rfl ?_;refine Ok.nxt<|Ok.cg (vG ..)<|Ok.eq rfl<|Ok.eq (a:=.bl true) (by kernel_rfl)<|Ok.eq rfl<|Ok.pos rfl<|Ok.eq (M7 b1 S) ?_;refine Ok.eq (m8 hbl (by rw [Es,I.b.len];omega))<|Ok.eq (m8 hi' hl') ?_;rw [show D.non=bD none from rfl,<- Fi,show D.tup [.str "rests"]=Hd.rests.d from rfl,<- Fi];exact Ok.ret ⟨rfl,rfl⟩
 | tries b=>
  obtain ⟨b1,b2⟩:=I.b.tr i b ha;have hbl:b-1<r.bx.length:=by rw [I.b.len];omega
  have hbl':b-1<(r.bx.map bD).length:=by rw [Es];exact hbl
  obtain ⟨o,ho⟩:∃ o,r.bx[b-1]?=some o:=⟨_,Ez hbl⟩;refine Ok.eq rfl<|Ok.eq (S1:=S) (a:=.bl false) (by kernel_rfl)<|Ok.eq rfl<|Ok.neg (by decide) ?_;refine Ok.nxt<|Ok.cg (vQ ..)<|Ok.eq rfl ?_;refine Ok.nxt<|Ok.cg (vG ..)<|Ok.eq rfl<|Ok.eq (S1:=S) (a:=.bl false) (by kernel_rfl)<|Ok.eq rfl<|Ok.neg (by decide) ?_;refine Ok.nxt<|Ok.cg (As ..)<|Ok.eq (M7 b1 S)<|Ok.eq (y9 S (d7 ho)) ?_;cases o with
  | none=>
   simp only [ho];refine Ok.eq rfl<|Ok.eq rfl<|Ok.pos rfl<|Ok.eq (M7 b1 S) ?_;refine Ok.eq (m8 hbl' (by rw [Es,I.b.len];omega))<|Ok.eq (m8 hi' hl') ?_;rw [show D.int (i:Int)=bD (some i) from rfl,<- Fi,show D.tup [.str "holds",.int (b:Int)]=(Hd.holds b).d from rfl,<- Fi];exact Ok.ret ⟨rfl,rfl⟩
  | some g=>
   simp only [ho];obtain ⟨q1,q2⟩:=I.blocked ha ho;refine Ok.eq rfl<|Ok.eq (a:=false) rfl<|Ok.neg (by decide) ?_;refine Ok.nxt<|Ok.cg (zZ ..)<|Ok.eq (p7 _ S) ?_;rw [Es,I.b.len];refine Ok.eq (O9 _ _ S)<|Ok.eq (k4 _ S)<|Ok.neg (by rw [EX (by omega)];decide) ?_;refine Ok.nxt<|Ok.cg (AH ..)<|Ok.eq (D6 b 1 S)<|Ok.eq (m8 hi' hl') ?_;rw [show D.tup [.str "tries",.int ((b+1:Nat):Int)]=(Hd.tries (b+1)).d from rfl,<- Fi];exact Ok.ret ⟨rfl,rfl⟩
theorem with2_ok {i k:Nat} {x:D} {S:Sto} (h:i<ds.length) (a:ds.length<=1000):rn (k+1) aj [.tup ds,.int (i:Int),x] S=.ok (.tup (ds.set i x)) S:=by
 rw [rn,a8 rfl,iM];exact d5 (G5 h a)
theorem wZ (a:Hd) (S:Sto):(bind (c8 .NotEq a.d (.tup [(.str "rests")])) λx6=>bind (asB x6) λb=>ret b) S=.ok a.at S:=by cases a <;> kernel_rfl
theorem lstep_ok (I:RI r) {i:Nat} (hi:i<r.hs.length) (k:Nat) (S:Sto):rn (k+2) wb [r.d,.int (i:Int)] S=.ok (stepR r i).d S:=by
 obtain ⟨a,ha⟩:∃ a,r.hs[i]?=some a:=⟨_,Ez hi⟩;have J:=I.step hi;have few:=I.b.few;have hi':i<(r.hs.map Hd.d).length:=by rw [Es];exact hi
 have hl':(r.hs.map Hd.d).length<=1000:=by rw [Es];omega
 refine d5 ?_;rw [rn,a8 rfl,tw,rR];refine Ok.first<|Ok.cg (Bu ..)<|Ok.eq rfl ?_;refine Ok.nxt<|Ok.cg (BP ..)<|Ok.eq (y9 S (d7 ha)) ?_;refine Ok.nxt<|Ok.cg (CT ..) ?_;unfold stepR at J ⊢;rw [ha] at J ⊢;cases a with
 | rests=>
  refine Ok.eq (S1:=S) (a:=.bl true) (by kernel_rfl)<|Ok.eq rfl<|Ok.pos rfl<|Ok.eq (with2_ok hi' hl') ?_;rw [show D.tup [.str "tries",.int 1]=(Hd.tries 1).d from rfl,<- Fi];have e:=v8 (l:=r.hs.set i (.tries 1)) (t:=λd4=>bind (c8 .NotEq d4 (.tup [(.str "rests")])) λx6=>bind (asB x6) λz7=>ret z7) (by rw [EV];exact zL few) (λa _=>wZ a S) (λa _ _=>rfl);refine nx_bind<|Ok.eq (iZ _ S) ?_;rw [Es];refine Ok.of e ?_;have le:k8 (.lst (((r.hs.set i (.tries 1)).filter Hd.at).map Hd.d)) S=.ok (.int ((Rw.cnt 1 (r.hs.set i (.tries 1)):Nat):Int)) S:=by
   show R.ok (D.int (((((r.hs.set i (.tries 1)).filter Hd.at).map Hd.d).length:Nat):Int)) S=_;rw [Es,nN J.b]
  exact Ok.eq le<|Ok.eq (lB _ _ S)<|Ok.ret ⟨rfl,rfl⟩
 | holds b=>
  obtain ⟨b1,hb⟩:=I.b.mh i b ha;have hbl:b-1<(r.bx.map bD).length:=by rw [Es];exact (Et.mp hb).1
  refine Ok.eq (S1:=S) (a:=.bl false) (by kernel_rfl)<|Ok.eq rfl<|Ok.neg (by decide) ?_;refine Ok.nxt<|Ok.cg (vA ..)<|Ok.eq rfl<|Ok.eq (M7 b1 S) ?_;refine Ok.nxt<|Ok.cg (vD ..)<|Ok.eq rfl<|Ok.eq (S1:=S) (a:=.bl true) (by kernel_rfl)<|Ok.eq rfl<|Ok.pos rfl ?_;refine Ok.eq (with2_ok hbl (by rw [Es,I.b.len];omega))<|Ok.eq (with2_ok hi' hl') ?_;rw [show D.non=bD none from rfl,<- Fi,show D.tup [.str "rests"]=Hd.rests.d from rfl,<- Fi];exact Ok.ret ⟨rfl,rfl⟩
 | tries b=>
  obtain ⟨b1,b2⟩:=I.b.tr i b ha;have hbl:b-1<r.bx.length:=by rw [I.b.len];omega
  have hbl':b-1<(r.bx.map bD).length:=by rw [Es];exact hbl
  obtain ⟨o,ho⟩:∃ o,r.bx[b-1]?=some o:=⟨_,Ez hbl⟩;refine Ok.eq (S1:=S) (a:=.bl false) (by kernel_rfl)<|Ok.eq rfl<|Ok.neg (by decide) ?_;refine Ok.nxt<|Ok.cg (vA ..)<|Ok.eq rfl<|Ok.eq (M7 b1 S) ?_;refine Ok.nxt<|Ok.cg (vD ..)<|Ok.eq rfl<|Ok.eq (S1:=S) (a:=.bl false) (by kernel_rfl)<|Ok.eq rfl<|Ok.neg (by decide) ?_;refine Ok.nxt<|Ok.cg (BV ..)<|Ok.eq (y9 S (d7 ho)) ?_;cases o with
  | none=>
   simp only [ho];refine Ok.eq rfl<|Ok.eq rfl<|Ok.pos rfl ?_;refine Ok.eq (with2_ok hbl' (by rw [Es,I.b.len];omega))<|Ok.eq rfl<|Ok.eq (with2_ok hi' hl') ?_;rw [show D.int (i:Int)=bD (some i) from rfl,<- Fi,show D.tup [.str "holds",.int (b:Int)]=(Hd.holds b).d from rfl,<- Fi];exact Ok.ret ⟨rfl,rfl⟩
  | some g=>
   simp only [ho];obtain ⟨q1,q2⟩:=I.blocked ha ho;refine Ok.eq rfl<|Ok.eq (a:=false) rfl<|Ok.neg (by decide) ?_;refine Ok.nxt<|Ok.cg (Av ..)<|Ok.eq rfl<|Ok.eq (p7 _ S) ?_;rw [Es,I.b.len];refine Ok.eq (O9 _ _ S)<|Ok.eq (k4 _ S)<|Ok.neg (by rw [EX (by omega)];decide) ?_;refine Ok.nxt<|Ok.cg (Bv ..)<|Ok.eq rfl<|Ok.eq (D6 b 1 S)<|Ok.eq (with2_ok hi' hl') ?_;rw [show D.tup [.str "tries",.int ((b+1:Nat):Int)]=(Hd.tries (b+1)).d from rfl,<- Fi];exact Ok.ret ⟨rfl,rfl⟩
theorem sixs (b:1<=n) (a:n<=6):n=1\/n=2\/n=3\/n=4\/n=5\/n=6:=by omega
end L3.K35.R
namespace L3.K35
open PySem PySem.Spec PyProof.Rows L2 L3.Nt
def bh7 (mk:Option Nat) (cl:Bool) (i:Nat):W7->Option (Option Nat×Bool×Str)
 | .out=>some (some i,cl,"ask")
 | .ask=>some (mk,cl,if cl=true then "right" else "close")
 | .close=>some (mk,true,"look")
 | .look=>some (mk,cl,if mk=some i then "holds" else "down")
 | _=>none
def mdD (o:Option (Option Nat×Bool×Str)):D:=match o with
 | none=>.non
 | some (m,c,x)=>.tup [oD m,.bl c,.str x]
def cu (a b:Str):O:=.dct [(.inr "out",.str "ask"),(.inr "close",.str "look"),(.inr "ask",.str a),(.inr "look",.str b)]
theorem iG {S:Sto} {a b:List (Key×D)} {w:Str} {v:D} (c:a.length<=10) (h:gm a (.inr w) v=b):B7 (.ref S.length) (.str w) v (S++[.dct a])=.ok .non (S++[.dct b]):=by
 have e:(S++[O.dct a])[S.length]?=some (.dct a):=by simp
 simp only [B7,e,B5];rw [if_pos (by rw [Fj];omega),ir,h]
theorem tz (mk:Option Nat) (i:Nat) (S:Sto):c8 .Eq (oD mk) (.int (i:Int)) S=.ok (.bl (decide (mk=some i))) S:=by
 cases mk with
 | none=>exact (show c8 .Eq .non (.int (i:Int)) S=.ok (.bl false) S from rfl).trans (by rw [EX (by simp)])
 | some g=>
  refine (O9 (g:Int) (i:Int) S).trans ?_;congr 2;by_cases q:g=i
  ·grind
  ·grind
theorem zH (e:S[q]?=some (cu a b)):ixD (.ref q) (.str "out") S=.ok (.str "ask") S/\ixD (.ref q) (.str "close") S=.ok (.str "look") S/\ixD (.ref q) (.str "ask") S=.ok (.str a) S/\ixD (.ref q) (.str "look") S=.ok (.str b) S:=by
 refine ⟨?_,?_,?_,?_⟩ <;> (simp only [ixD,e,cu];rfl)
theorem yQ (e:S[q]?=some (cu a b)) (w:W7) (cl:Bool) (mk:Option Nat) (i:Nat):gM true w.d (.ref q) S=.ok (.bl (!(bh7 mk cl i w).isSome)) S:=by
 cases w <;> (simp only [gM,e,cu,W7.d];rfl)
theorem Y4 (mk:Option Nat) (cl:Bool) (i:Nat) (w:W7) (k:Nat) (S:Sto):Ok (rn (k+1) xH [oD mk,.bl cl,w.d,.int (i:Int)]) S λd S'=>d=mdD (bh7 mk cl i w)/\Ex S S':=by
 rw [rn,a8 rfl,rZ,qC];have core:∀ a b:Str,a=(if cl=true then ("right" : Str) else "close")->b=(if mk=some i then ("holds" : Str) else "down")->Ok (nxt (evK Rs Γ (rn k) 40) V3 [nth Ed.body 3,nth Ed.body 4] endD (.nx [some (oD mk),some (.bl cl),some w.d,some (.int (i:Int)),some (.ref S.length)])) (S++[cu a b]) λd S'=>d=mdD (bh7 mk cl i w)/\Ex S S':=by
  intro a b ha hb;have hS:Ex S (S++[cu a b]):=⟨_,rfl⟩;have e:(S++[cu a b])[S.length]?=some (cu a b):=by simp
  generalize S++[cu a b]=S1 at e hS;obtain ⟨x1,x2,x3,x4⟩:=zH e;refine Ok.nxt<|Ok.cg (zx ..)<|Ok.eq (yQ e w cl mk i)<|Ok.eq (k4 _ S1) ?_;cases w with
  | out=>
   refine Ok.neg (by simp [bh7])<|Ok.nxt<|Ok.cg (jI ..)<|Ok.eq (S1:=S1) (a:=.bl true) (by kernel_rfl)<|Ok.eq rfl<|Ok.pos rfl<|Ok.eq rfl ?_;cases cl with
   | true=>exact Ok.pos rfl<|Ok.eq x1<|Ok.ret ⟨rfl,hS⟩
   | false=>exact Ok.neg (by decide)<|Ok.eq (by kernel_rfl)<|Ok.eq x1<|Ok.ret ⟨rfl,hS⟩
  | ask=>
   subst ha;refine Ok.neg (by simp [bh7])<|Ok.nxt<|Ok.cg (jI ..)<|Ok.eq (S1:=S1) (a:=.bl false) (by kernel_rfl)<|Ok.eq rfl<|Ok.neg (by decide)<|Ok.eq rfl ?_;cases cl with
   | true=>exact Ok.pos rfl<|Ok.eq x3<|Ok.ret ⟨rfl,hS⟩
   | false=>exact Ok.neg (by decide)<|Ok.eq (by kernel_rfl)<|Ok.eq x3<|Ok.ret ⟨rfl,hS⟩
  | close=>
   refine Ok.neg (by simp [bh7])<|Ok.nxt<|Ok.cg (jI ..)<|Ok.eq (S1:=S1) (a:=.bl false) (by kernel_rfl)<|Ok.eq rfl<|Ok.neg (by decide)<|Ok.eq rfl ?_;cases cl with
   | true=>exact Ok.pos rfl<|Ok.eq x2<|Ok.ret ⟨rfl,hS⟩
   | false=>exact Ok.neg (by decide)<|Ok.eq (by kernel_rfl)<|Ok.eq x2<|Ok.ret ⟨rfl,hS⟩
  | look=>
   subst hb;refine Ok.neg (by simp [bh7])<|Ok.nxt<|Ok.cg (jI ..)<|Ok.eq (S1:=S1) (a:=.bl false) (by kernel_rfl)<|Ok.eq rfl<|Ok.neg (by decide)<|Ok.eq rfl ?_;cases cl with
   | true=>exact Ok.pos rfl<|Ok.eq x4<|Ok.ret ⟨rfl,hS⟩
   | false=>exact Ok.neg (by decide)<|Ok.eq (by kernel_rfl)<|Ok.eq x4<|Ok.ret ⟨rfl,hS⟩
  | holds=>exact Ok.pos rfl<|Ok.ret ⟨rfl,hS⟩
  | right=>exact Ok.pos rfl<|Ok.ret ⟨rfl,hS⟩
  | down=>exact Ok.pos rfl<|Ok.ret ⟨rfl,hS⟩
 refine Ok.first<|Ok.cg (CV ..)<|Ok.eq (S1:=S++[.dct [(.inr "out",.str "ask"),(.inr "close",.str "look")]]) (a:=.ref S.length) (by kernel_rfl) ?_;have two:∀ a:Str,a=(if cl=true then ("right" : Str) else "close")->Ok (nxt (evK Rs Γ (rn k) 40) V3 [nth Ed.body 2,nth Ed.body 3,nth Ed.body 4] endD (.nx [some (oD mk),some (.bl cl),some w.d,some (.int (i:Int)),some (.ref S.length)])) (S++[.dct [(.inr "out",.str "ask"),(.inr "close",.str "look"),(.inr "ask",.str a)]]) λd S'=>d=mdD (bh7 mk cl i w)/\Ex S S':=by
  intro a ha;refine Ok.nxt<|Ok.cg (AT ..)<|Ok.eq (tz mk i _)<|Ok.eq (k4 _ _) ?_;by_cases q:mk=some i
  ·exact Ok.pos (EO q)<|Ok.eq (iG (by simp) rfl)<|core a "holds" ha (by rw [if_pos q])
  ·exact Ok.neg (by rw [EX q];decide)<|Ok.eq (iG (by simp) rfl)<|core a "down" ha (by rw [if_neg q])
 refine Ok.nxt<|Ok.cg (Bx ..)<|Ok.eq rfl ?_;cases cl with
 | true=>exact Ok.pos rfl<|Ok.eq (iG (by simp) rfl)<|two "right" rfl
 | false=>exact Ok.neg (by decide)<|Ok.eq (iG (by simp) rfl)<|two "close" rfl
theorem aY {i k:Nat} {x:D} {S:Sto} (h:i<ds.length) (a:ds.length<=1000):rn (k+1) aj [.tup ds,.int (i:Int),x] S=.ok (.tup (ds.set i x)) S:=R.with2_ok h a
theorem Cv (w:Wd):w.d=w.w7.d:=by cases w <;> rfl
theorem uZ (mk:Option Nat) (cl:Bool) (i:Nat) (w:Wd):bh7 mk cl i w.w7=bh mk cl i w:=by cases w <;> rfl
section
variable {size many:Nat} {r:Nst} (V:VN size many r) {i:Nat} (hi:i<many) (k:Nat)
include V hi
theorem sQ (S:Sto):Ok (rn (k+2) xw [.int (size:Int),r.d,.int (i:Int)]) S λd S'=>d=gD (i4 size r i)/\Ex S S':=by
 have b1:=V.bl;have b2:=V.hl;have b3:=V.s5;have b4:=V.m5;have b5:=kw b3;have hi':i<r.hs.length:=by omega
 have ha:=Ez hi';have htr:=V.tr r.hs[i] (FI hi');generalize r.hs[i]=h at ha htr;obtain ⟨t,w⟩:=h;have htr:t.length<size:=htr;have hn:n9 t<r.bx.length:=by rw [b1];exact nQ b3 htr
 have hb:=Ez hn;generalize r.bx[n9 t]=b at hb;obtain ⟨mk,cl⟩:=b;have hst:=pw (size:=size) ha hb;rw [rn,a8 rfl,rM,tm];refine Ok.first<|Ok.cg (AL ..)<|Ok.eq rfl ?_;refine Ok.nxt<|Ok.cg (CU ..)<|Ok.eq (y9 S (d7 ha))<|Ok.eq rfl ?_;have l2:∀ S,k8 (trD t) S=.ok (.int (t.length:Int)) S:=λS=>(p7 _ S).trans (by rw [Es]);refine Ok.nxt<|Ok.cg (AS ..)<|Ok.eq (l2 S)<|Ok.eq (l2 S)<|Ok.eq (D6 t.length 1 S)<|Ok.eq (V2 (.inl ⟨by omega,by omega⟩) S)<|Ok.eq (N3 (by decide) (by decide) S) ?_;have nn:((t.length:Int) * ((t.length+1:Nat):Int) / 2)=((tri t.length:Nat):Int):=by
  rw [<- Hs];exact (HR (t.length * (t.length+1)) 2).symm
 rw [nn];refine Ok.eq rfl<|Ok.eq (iJ t S)<|Ok.eq (D6 _ _ S) ?_;refine Ok.nxt<|Ok.cg (zl ..)<|Ok.eq (y9 S (d7 hb))<|Ok.eq rfl<|Ok.eq (y9 S (d7 hb))<|Ok.eq rfl ?_;rw [Cv];refine Ok.bind ((Y4 mk cl i w.w7 k S).mono ?_);rintro _ S1 ⟨rfl,hS⟩;rw [uZ];have stay:∀ (m:Option Nat) (c:Bool) (w':Wd) (o:Option D),i4 size r i=j9 size r i (n9 t) (m,c) t w'->Ok (nxt (evK Rs Γ (rn (k+1)) 40) G2 [nth Cl.body 4,nth Cl.body 5,nth Cl.body 6,nth Cl.body 7] endD (.nx [some (.int (size:Int)),some r.d,some (.int (i:Int)),some (.tup (r.bx.map bxD)),some (.tup (r.hs.map hdD)),some (trD t),o,some (.int ((tri t.length+dn t:Nat):Int)),some (.tup [oD m,.bl c,.str w'.s]),none])) S1 λd S'=>d=gD (i4 size r i)/\Ex S S':=by
  intro m c w' o e;refine Ok.nxt<|Ok.cg (li ..)<|Ok.eq rfl<|Ok.eq (a:=false) rfl<|Ok.neg (by decide) ?_;refine Ok.nxt<|Ok.cg (vf ..)<|Ok.eq rfl ?_;refine Ok.nxt<|Ok.cg (vc ..)<|Ok.eq rfl<|Ok.eq (S1:=S1) (a:=.bl false) (by cases w' <;> kernel_rfl)<|Ok.eq rfl<|Ok.neg (by decide) ?_;refine Ok.nxt<|Ok.cg (vO ..)<|Ok.eq (a:=.tup [oD m,.bl c]) rfl<|Ok.eq (aY (by rw [Es];exact hn) (by rw [Es];omega))<|Ok.eq (aY (by rw [Es];exact hi') (by rw [Es];omega)) ?_;rw [e];unfold j9;rw [if_neg (by omega),show D.tup [oD m,.bl c]=bxD (m,c) from rfl,<- Fi,show D.tup [trD t,.str w'.s]=hdD (t,w') from rfl,<- Fi];exact Ok.ret ⟨rfl,hS⟩
 have go:∀ (b:Bool) (m:Option Nat) (c:Bool) (o:Option D),i4 size r i=j9 size r i (n9 t) (m,c) (t++[b]) .out->Ok (nxt (evK Rs Γ (rn (k+1)) 40) G2 [nth Cl.body 4,nth Cl.body 5,nth Cl.body 6,nth Cl.body 7] endD (.nx [some (.int (size:Int)),some r.d,some (.int (i:Int)),some (.tup (r.bx.map bxD)),some (.tup (r.hs.map hdD)),some (trD t),o,some (.int ((tri t.length+dn t:Nat):Int)),some (.tup [oD m,.bl c,u3 b]),none])) S1 λd S'=>d=gD (i4 size r i)/\Ex S S':=by
  intro b m c o e;refine Ok.nxt<|Ok.cg (li ..)<|Ok.eq rfl<|Ok.eq (a:=false) rfl<|Ok.neg (by decide) ?_;refine Ok.nxt<|Ok.cg (vf ..)<|Ok.eq (a:=u3 b) rfl ?_;refine Ok.nxt<|Ok.cg (vc ..)<|Ok.eq (a:=u3 b) rfl<|Ok.eq (a:=.bl true) (by cases b <;> kernel_rfl)<|Ok.eq rfl<|Ok.pos rfl<|Ok.eq (l2 S1)<|Ok.eq (D6 t.length 1 S1)<|Ok.eq (O9 _ _ S1)<|Ok.eq (k4 _ S1) ?_;rw [e];unfold j9;rw [FC];by_cases q:t.length+1=size
  ·refine Ok.pos (EO (by omega)) ?_;rw [if_pos (by simp;omega)];exact Ok.ret ⟨rfl,hS⟩
  ·refine Ok.neg (by rw [EX (by omega)];decide) ?_;rw [if_neg (by simp;omega)];have cat:i9 (trD t) (.tup [u3 b]) S1=.ok (trD (t++[b])) S1:=by
    show (if (t.map u3).length+[u3 b].length<=sizeLine then ret (D.tup (t.map u3++[u3 b])) else bad) S1=_;rw [if_pos (by rw [Es,Fj];simp;omega)];unfold trD;rw [FQ];rfl
   refine Ok.eq rfl<|Ok.eq cat ?_;refine Ok.nxt<|Ok.cg (vO ..)<|Ok.eq (a:=.tup [oD m,.bl c]) rfl<|Ok.eq (aY (by rw [Es];exact hn) (by rw [Es];omega))<|Ok.eq (aY (by rw [Es];exact hi') (by rw [Es];omega)) ?_;rw [show D.tup [oD m,.bl c]=bxD (m,c) from rfl,<- Fi,show D.tup [trD (t++[b]),.str "out"]=hdD (t++[b],.out) from rfl,<- Fi];exact Ok.ret ⟨rfl,hS⟩
 cases w with
 | out=>exact stay (some i) cl .ask _ hst
 | ask=>
  cases cl with
  | true=>exact go false mk true _ hst
  | false=>exact stay mk false .close _ hst
 | close=>exact stay mk true .look _ hst
 | look=>
  by_cases q:mk=some i
  ·rw [lF q];exact stay mk cl .holds _ (by rw [hst];exact if_pos q)
  ·rw [oE q];exact go true mk cl _ (by rw [hst];exact if_neg q)
 | holds=>
  rw [hst];exact Ok.nxt<|Ok.cg (li ..)<|Ok.eq rfl<|Ok.eq rfl<|Ok.pos rfl<|Ok.ret ⟨rfl,hS⟩
end
end L3.K35
namespace L3.K35
open PySem PySem.Spec PyProof.Rows L2
theorem few {v l:List Int} (g:v.Nodup) (h:∀ x∈v,x∈l):v.length<=l.length:=by
 induction v generalizing l with
 | nil=>exact FU _
 | cons a v f=>
  have c:=h a (EL ..);have b:=FF.mp g;have e:=List.length_erase_of_mem c;have:=f (l:=l.erase a) b.2 λx d=>(List.mem_erase_of_ne (λz=>b.1 (by rw [<- z];exact d))).mpr (h x (EM _ d));have:=List.length_pos_of_mem c;rw [Fy];omega
theorem zK {ns:List Int} (e:S[q]?=some (.lst (ns.map D.int))) (x:Int):c8 .In (.int x) (.ref q) S=.ok (.bl (decide (x∈ns))) S:=by
 have e:i5 64 S (.ref q)=some (.list (ns.map PyData.int)):=by
  show (match S[q]? with
   | some (.lst ds)=>(h9 (i5 63 S) ds).map PyData.list
   | _=>none)=_
  rw [e];simp only;rw [cp 62 S ns];rfl
 show inD false (.int x) (.ref q) S=_;unfold inD;rw [e];show sg false (.int x) (ns.map PyData.int) S=_;unfold sg;have hd:PyData.depth (.int x)=0:=by simp [PyData.depth]
 rw [if_pos ⟨rfl,cU ns,by rw [hd];omega⟩,pE];rfl
theorem L0 {p N m:Nat} {S:Sto} (h:Fw ns p (N+1) S) (b:0<m) (a:m<1073741824) (k:Nat):Ok (rn (k+1) vr [.ref p,.int (m:Int)]) S λd S'=>∃ r:Nat,d=.int (r:Int)/\r<m/\Fw ns p N S'/\S'.length=S.length/\∀ q,q≠p->S'[q]?=S[q]?:=by
 rw [rn,a8 rfl,tJ];exact pg h b a
theorem wj (S:Sto):fG (.int 10) (.int 9) S=.ok (.int 1000000000) S:=by kernel_rfl
theorem sE {p q:Nat} {m:Int} {S:Sto} {gs:List Int} (w:S[q]?=some (.lst (gs.map D.int))) (J:gs.length<=6) (g:Int) (n:0<=g) (i:g<=1000000000) (c d:Option D) (k:Nat) :
  Ok (t6 (M6 (rn k)) (D4 (rn k)) 10000 [some (.ref p),some (.int m),some (.ref q),c,d,some (.int g)]) S λB S'=>S'=S/\∃ g:Int,g∉gs/\0<=g/\g<=1000000000/\B=.nx [some (.ref p),some (.int m),some (.ref q),c,d,some (.int g)]:=by
 refine (Ok.while_ (λj ρ S'=>S'=S/\∃ (g:Int) (v:List Int),0<=g/\g<=1000000000/\ρ=[some (.ref p),some (.int m),some (.ref q),c,d,some (.int g)]/\v.Nodup/\(∀ x∈v,x∈gs)/\v.length+j=7/\∀ x∈v,∃ t:Nat,1<=t/\t<=v.length/\0<=x/\x<=1000000000/\(x+t) % 1000000001=g) (λρ S'=>S'=S/\∃ g:Int,g∉gs/\0<=g/\g<=1000000000/\ρ=[some (.ref p),some (.int m),some (.ref q),c,d,some (.int g)]) (λ_ _=>False) ?_ 10000 7 _ _ (by omega) ⟨rfl,g,[],n,i,rfl,.nil,(by simp),rfl,(by simp)⟩).mono ?_
 ·rintro j ρ S' ⟨y,g,v,n,i,rfl,s,u,I,l⟩;cases y;rw [al];refine Ok.eq (zK w g)<|Ok.eq (k4 _ _)<|Ok.ret ?_;by_cases o:g∈gs
  ·rw [if_pos (EO o)];have G:g∉v:=λA=>by
    obtain ⟨t,E,C,r,h,e⟩:=l g A;have:=few s u;omega
   have a:=FF.mpr ⟨G,s⟩;have b:∀ x∈g :: v,x∈gs:=λx f=>by
    rcases EU.mp f with z | z
    ·rw [z];exact o
    ·exact u x z
   have F:=few a b;rw [Fy] at F;unfold D4;rw [W0];have H:R8 (.int (g+1)) (.int 1000000001) S=.ok (.int ((g+1) % 1000000001)) S:=V5 (by omega) S;refine Ok.first<|Ok.cg (ay ..)<|Ok.eq rfl<|Ok.eq (wj S)<|Ok.eq rfl<|Ok.eq H<|Ok.ret ⟨j-1,by omega,rfl,(g+1) % 1000000001,g :: v,by omega,by omega,rfl,a,b,by rw [Fy];omega,λx f=>?_⟩;rcases EU.mp f with z | z
   ·grind
   ·obtain ⟨t,E,C,r,h,e⟩:=l x z;exact ⟨t+1,by omega,by rw [Fy];omega,r,h,by omega⟩
  ·grind
 ·grind
def jb (gs:List Int) (m:Nat):Prop:=gs.length=m/\(∀ g∈gs,0<=g/\g<=1000000000)/\gs.Nodup
theorem kF (F:Fw ns p (N+5 * m) S) (X:m<=6) (k:Nat):Ok (rn (k+2) wC [.ref p,.int (m:Int)]) S λd S'=>Fw ns p N S'/\∃ gs:List Int,d=.tup (gs.map D.int)/\jb gs m:=by
 have hp:=F.lt;rw [rn,a8 rfl,sR,rH];refine Ok.first<|Ok.cg (BN ..)<|Ok.eq (rfl)<|Ok.nxt<|Ok.cg (zi ..)<|Ok.eq (U0 (by omega) _)<|Ok.bind ((Ok.loop (λi ρ S'=>Fw ns p (N+5 * (m-i)) S'/\∃ (gs:List Int) (j n h:Option D),S'[S.length]?=some (.lst (gs.map D.int))/\jb gs i/\ρ=[some (.ref p),some (.int (m:Int)),some (.ref S.length),j,n,h]) (λρ S' _=>K6 m S') ?_ ⟨F.push _,[],_,_,_,(by simp),⟨rfl,by simp,.nil⟩,rfl⟩).mono ?_)
 ·rintro i ρ S1 H ⟨P,gs,j,n,h,I,⟨K,hg,J⟩,rfl⟩;refine ⟨.int (i:Int),_,T5 H S1,rfl,?_⟩;unfold dv;rw [df];refine Ok.first<|Ok.cg (kn ..)<|Ok.bind ((L0 (N:=N+5 * (m-(i+1))+4) (m:=10) (P.less (by omega)) (by omega) (by omega) k).mono ?_);rintro _ S2 ⟨a,rfl,s,M,Z,k2⟩;refine Ok.eq (wj S2)<|Ok.eq rfl<|Ok.bind ((L0 (N:=N+5 * (m-(i+1))+3) (m:=1000000001) (M.less (by omega)) (by omega) (by omega) k).mono ?_);rintro _ q ⟨b,rfl,o,l,W,B⟩;refine Ok.eq (wj q)<|Ok.bind ((L0 (N:=N+5 * (m-(i+1))+2) (m:=4) (l.less (by omega)) (by omega) (by omega) k).mono ?_);rintro _ S4 ⟨c,rfl,hc,Q,l4,t⟩;refine Ok.eq rfl<|Ok.bind ((L0 (N:=N+5 * (m-(i+1))+1) (m:=100) (Q.less (by omega)) (by omega) (by omega) k).mono ?_);rintro _ V ⟨d,rfl,hd,T,l5,E⟩;refine Ok.nxt<|Ok.cg (jg ..)<|Ok.bind ((L0 (N:=N+5 * (m-(i+1))) (m:=4) (T.less (by omega)) (by omega) (by omega) k).mono ?_);rintro _ r ⟨w,rfl,hw,R,l6,L⟩;obtain ⟨g,v,A,u⟩:∃ g:Int,([.int (a:Int),.int (b:Int),.int (1000000000-(c:Int)),.int (d:Int)]:List D)[w]?=some (.int g)/\0<=g/\g<=1000000000:=by
   have:w=0\/w=1\/w=2\/w=3:=by omega
   rcases this with rfl | rfl | rfl | rfl
   ·grind
   ·grind
   ·grind
   ·grind
  have e:r[S.length]?=some (.lst (gs.map D.int)):=by rw [L _ (by omega),E _ (by omega),t _ (by omega),B _ (by omega),k2 _ (by omega)];exact I
  refine Ok.eq (D3 r v)<|Ok.nxt<|Ok.cg (jv ..)<|Ok.bind ((sE e (by omega) g A u _ _ (k+1)).mono ?_);rintro _ S7 ⟨y,g',f,U,C,rfl⟩;cases y;have Y:=(Et.mp e).1;refine Ok.nxt<|Ok.cg (kG ..)<|Ok.eq (pQ e)<|Ok.eq (mz e (by rw [Es,Fj];omega))<|Ok.ret ⟨_,.inl rfl,?_,gs++[g'],_,_,_,?_,⟨by simp [K],λx hx=>?_,Gw.mpr ⟨J,(FF.mpr ⟨by simp,.nil⟩),λa s b o z=>f (by rw [EZ.mp o] at z;rw [<- z];exact s)⟩⟩,rfl⟩
  ·exact R.keep (by rw [ER (by omega)])
  ·grind
  ·grind
 ·rintro _ q ⟨ρ,rfl,l,gs,j,n,h,O,G,rfl⟩;exact Ok.nxt<|Ok.cg (CS ..)<|Ok.eq (zU O)<|Ok.ret ⟨l.less (by omega),gs,rfl,G⟩
def Wc (w v:Str) (b:Bool):Prop:=∀ S,c8 .Eq (.str w) (.str v) S=.ok (.bl b) S
theorem xn:Wc "row" "decider" false:=λS=>by kernel_rfl
theorem tM:Wc "row" "net" false:=λS=>by kernel_rfl
theorem fR:Wc "row" "levels" false:=λS=>by kernel_rfl
theorem Dm:Wc "row" "row" true:=λS=>by kernel_rfl
theorem tI:Wc "net" "decider" false:=λS=>by kernel_rfl
theorem mQ:Wc "net" "net" true:=λS=>by kernel_rfl
theorem wM:Wc "net" "levels" false:=λS=>by kernel_rfl
theorem DV:Wc "levels" "decider" false:=λS=>by kernel_rfl
theorem Dg:Wc "levels" "net" false:=λS=>by kernel_rfl
theorem CH:Wc "levels" "levels" true:=λS=>by kernel_rfl
theorem qR:Wc "decider" "decider" true:=λS=>by kernel_rfl
theorem Dw:Wc "decider" "net" false:=λS=>by kernel_rfl
theorem si:Wc "decider" "levels" false:=λS=>by kernel_rfl
theorem Dt:Wc "decider" "row" false:=λS=>by kernel_rfl
theorem ix0 (w:Str) (xs:List D) (S:Sto):ixD (.tup (.str w :: xs)) (.int 0) S=.ok (.str w) S:=y9 S rfl
section
variable {w v:Str} {xs:List D} {β:Type} {a b:M β} {S:Sto} {Q:β->Sto->Prop} {P:Nat->Sto->Prop}
theorem no_ (h:Wc w v false) (k:Ok b S Q):Ok (bind (ixD (.tup (.str w :: xs)) (.int 0)) λc=>bind (c8 .Eq c (.str v)) λd=>bind (asB d) λe=>if e=true then a else b) S Q:=
 Ok.eq (ix0 w xs S)<|Ok.eq (h S)<|Ok.eq rfl<|Ok.neg (by decide) k
theorem yes_ (h:Wc w v true) (k:Ok a S Q):Ok (bind (ixD (.tup (.str w :: xs)) (.int 0)) λc=>bind (c8 .Eq c (.str v)) λd=>bind (asB d) λe=>if e=true then a else b) S Q:=
 Ok.eq (ix0 w xs S)<|Ok.eq (h S)<|Ok.eq rfl<|Ok.pos rfl k
theorem noX (h:Wc w v false) (k:Xn b S P):Xn (bind (ixD (.tup (.str w :: xs)) (.int 0)) λc=>bind (c8 .Eq c (.str v)) λd=>bind (asB d) λe=>if e=true then a else b) S P:=
 Xn.eq (ix0 w xs S)<|Xn.eq (h S)<|Xn.eq rfl<|Xn.neg (by decide) k
theorem yesX (h:Wc w v true) (k:Xn a S P):Xn (bind (ixD (.tup (.str w :: xs)) (.int 0)) λc=>bind (c8 .Eq c (.str v)) λd=>bind (asB d) λe=>if e=true then a else b) S P:=
 Xn.eq (ix0 w xs S)<|Xn.eq (h S)<|Xn.eq rfl<|Xn.pos rfl k
end
theorem j4 (b:Wc w "levels" false) (a:∀ S,ixD (.tup (.str w :: xs)) (.int (-1)) S=.ok x S) (k:Nat) (S:Sto):rn (k+1) R6 [.tup (.str w :: xs)] S=.ok x S/\rn (k+1) gS [.tup (.str w :: xs)] S=.ok x S:=by
 refine ⟨d5 ?_,d5 ?_⟩
 ·rw [rn,a8 rfl,ij];exact no_ b<|Ok.eq rfl<|Ok.eq (a S)<|Ok.ret ⟨rfl,rfl⟩
 ·rw [rn,a8 rfl,jK];exact no_ b<|Ok.eq rfl<|Ok.eq (a S)<|Ok.ret ⟨rfl,rfl⟩
structure Mc where
 σ:Type
 d:σ->D
 ok:σ->Prop
 step:σ->Nat->Option σ
 md:D
 many:Nat
 s0:σ
def Mc.oD (m:Mc):Option m.σ->D
 | none=>.non
 | some s=>m.d s
structure McOk (m:Mc):Prop where
 m1:1<=m.many
 m6:m.many<=6
 no:∀ s i k S,m.ok s->i<m.many->m.step s i=none->Xn (rn (k+6) N1 [m.md,m.d s,.int (i:Int)]) S λn S'=>n=S.length/\S'=S++[exS i]
 go:∀ s s' i k S,m.ok s->i<m.many->m.step s i=some s'->rn (k+6) N1 [m.md,m.d s,.int (i:Int)] S=.ok (m.d s') S/\m.ok s'
 lw:∀ s i k S,m.ok s->i<m.many->Ok (rn (k+3) fN [m.md,m.d s,.int (i:Int)]) S λd S'=>d=m.oD (m.step s i)/\Ex S S'
 tp:∀ s,∃ ds,m.d s=.tup ds
 sm:∀ s,m.ok s->Sml 5 8000 (m.d s)
 ms:Sml 5 20000 m.md
 hn:∀ k S,rn (k+1) R6 [m.md] S=.ok (.int (m.many:Int)) S
 fi:∀ k S,rn (k+2) xS [m.md] S=.ok (m.d m.s0) S
 o0:m.ok m.s0
theorem P2 (S:Sto):Ex S S:=⟨[],by simp⟩
theorem B9 (a:Ex S T) (b:Ex T U):Ex S U:=by
 obtain ⟨x,rfl⟩:=a;obtain ⟨y,rfl⟩:=b;exact ⟨x++y,by simp⟩
section
variable {m:Mc} (M:McOk m) {s:m.σ} (V:m.ok s)
include M V
theorem xg (hi:i<m.many) (k:Nat) (S:Sto):Ok (rn (k+7) CZ [m.md,m.d s,.int (i:Int)]) S λd S'=>d=m.oD (m.step s i)/\Ex S S':=by
 rw [rn,a8 rfl,wW,wq];refine Ok.first<|Ok.cg (Dk ..)<|Ok.bind ?_;cases e:m.step s i with
 | none=>
  refine Ok.caught ?_;rw [bu];refine Xn.bind ((M.no s i k S V hi e).mono ?_);rintro n S1 ⟨rfl,rfl⟩;refine ⟨1,[("hand",.int (i:Int))],by simp [exS],rfl,?_⟩;unfold vn;rw [fO];exact Ok.first<|Ok.cg (ny ..)<|Ok.ret<|Ok.ret ⟨rfl,_,rfl⟩
 | some s'=>
  refine Ok.try_ ?_;rw [bu];exact Ok.eq (M.go s s' i k S V hi e).1<|Ok.ret<|Ok.ret ⟨rfl,[],by simp⟩
omit V in
theorem oC (s:m.σ) (S:Sto):c8 .IsNot (m.d s) .non S=.ok (.bl true) S/\c8 .Is (m.d s) .non S=.ok (.bl false) S:=by
 obtain ⟨ds,e⟩:=M.tp s;rw [e];exact ⟨rfl,rfl⟩
end
end L3.K35
namespace L3.K35
open PySem PySem.Spec PyProof.Rows L2 L3.Nt
def N0 (size many:Nat):Nst:=⟨List.replicate (tri size) (none,false),List.replicate many ([],.out)⟩
theorem N0.ok (e:0<size) (i:size<=5) (f:many<=5):VN size many (N0 size many):=by
 refine ⟨i,f,Ga ..,Ga ..,λh a=>?_,λb c g d=>?_⟩
 ·have a:=a;rw [(GU.mp a).2];exact e
 ·have c:=c;rw [(GU.mp c).2] at d;cases d
theorem pr2 {n A B:Nat} {a b:D} (ha:Sml n A a) (hb:Sml n B b):Sml (n+1) (A+B+7) (.tup [a,b]):=by
 have d1:=ha.dp;have d2:=hb.dp;have s1:=ha.sz;have s2:=hb.sz;exact ⟨⟨ha.pl,hb.pl,trivial⟩,by show max (dp a) (max (dp b) 0)+1<=n+1;omega,by show sz a+2+(sz b+2+0)+3<=_;omega⟩
theorem zG {size many:Nat} {r:Nst} (V:VN size many r):Sml 5 8000 r.d:=by
 have h5:=V.s5;have m5:=V.m5;have hl:=V.hl;have bl:=V.bl;have:=kw h5;have s1:Sml 3 4600 (.tup (r.hs.map hdD)):=(Sml.tup (n:=2) (N:=900) (m:=5) (.map λh hh=>lT (by have:=V.tr h hh;omega)) (by rw [Es];omega)).up;have s2:Sml 3 2400 (.tup (r.bx.map bxD)):=by
  refine (Sml.tup (n:=1) (N:=150) (m:=15) (.map λb hb=>?_) (by rw [Es];omega)).up;obtain ⟨mk,cl⟩:=b;have a:Sml 0 60 (oD mk):=by
   cases mk with
   | none=>exact Sml.non
   | some g=>exact .nat (by have:=V.mg _ hb g rfl;omega)
  exact (Sml.tup (m:=2) (.cons a (.cons Sml.bl .nil)) (EI _)).mono (by decide) (by decide)
 exact (pr2 s2 s1).up
theorem CY (h1:1<=n) (h:n<=5) (S:Sto):m7 (.tup [.tup [.non,.bl false]]) (.int ((tri n:Nat):Int)) S=.ok (.tup ((List.replicate (tri n) ((none,false):Box)).map bxD)) S:=by
 have:n=1\/n=2\/n=3\/n=4\/n=5:=by omega
 rcases this with rfl | rfl | rfl | rfl | rfl <;> kernel_rfl
theorem CG {n:Nat} (h1:1<=n) (h:n<=5) (S:Sto):m7 (.tup [.tup [.tup [],.str "out"]]) (.int (n:Int)) S=.ok (.tup ((List.replicate n (([],.out):Hnd)).map hdD)) S:=by
 have:n=1\/n=2\/n=3\/n=4\/n=5:=by omega
 rcases this with rfl | rfl | rfl | rfl | rfl <;> kernel_rfl
def T9 (size many:Nat):Mc:=⟨Nst,Nst.d,VN size many,i4 size,.tup [.str "net",.int (size:Int),.int (many:Int)],many,N0 size many⟩
theorem E3 {size many:Nat} (h1:1<=many) (hs:1<=size) (h5:size<=5) (m5:many<=5):McOk (T9 size many):=by
 have hh:∀ k S,rn (k+1) R6 [(T9 size many).md] S=.ok (.int (many:Int)) S:=λk S=>(j4 wM (λS=>rfl) k S).1;refine ⟨h1,by show many<=6;omega,λr i k S V hi e=>?_,λr r' i k S V hi e=>?_,λr i k S V hi=>?_,λr=>⟨_,rfl⟩,λr V=>zG V,?_,hh,λk S=>?_,N0.ok hs h5 m5⟩
 ·have e:i4 size r i=none:=e;show Xn (rn (k+6) N1 [_,r.d,.int (i:Int)]) S _;rw [rn,a8 (fd:=U8) rfl,D8];exact noX tI<|yesX mQ<|Xn.eq (a:=.int (size:Int)) rfl<|Xn.bind ((dr V hi k S).1 e)
 ·have e:i4 size r i=some r':=e;refine ⟨?_,VN.step V hi e⟩;have n2:=(dr V hi k S).2 (by rw [e];exact λz=>by cases z);rw [e] at n2;refine d5 ?_;rw [rn,a8 (fd:=U8) rfl,D8];exact no_ tI<|yes_ mQ<|Ok.eq (a:=.int (size:Int)) rfl<|Ok.eq n2<|Ok.ret ⟨rfl,rfl⟩
 ·rw [rn,a8 (fd:=eL) rfl,W3];refine yes_ mQ<|Ok.eq (a:=.int (size:Int)) rfl<|Ok.bind ((sQ V hi k S).mono ?_);rintro _ S' ⟨rfl,ex⟩;refine Ok.ret ⟨?_,ex⟩;show gD (i4 size r i)=Mc.oD (T9 size many) (i4 size r i);cases i4 size r i <;> rfl
 ·exact (Sml.tup (n:=0) (N:=60) (m:=3) (.cons Sml.w (.cons (Sml.nat (by omega)) (.cons (Sml.nat (by omega)) .nil))) (EI _)).mono (by decide) (by decide)
 ·refine d5 ?_;rw [rn,a8 (fd:=ii) rfl,X7];have tr:((size:Int) * ((size+1:Nat):Int) / 2)=((tri size:Nat):Int):=by
   rw [<- Hs];exact (HR (size * (size+1)) 2).symm
  refine Ok.eq (hh k S)<|no_ tI<|yes_ mQ ?_;refine Ok.eq (a:=.int (size:Int)) rfl<|Ok.eq (a:=.int (size:Int)) rfl<|Ok.eq (D6 size 1 S)<|Ok.eq (V2 (.inl ⟨by omega,by omega⟩) S)<|Ok.eq (N3 (by decide) (by decide) S) ?_;rw [tr];exact Ok.eq (CY hs h5 S)<|Ok.eq (CG h1 m5 S)<|Ok.ret ⟨rfl,rfl⟩
def X8 (gs:List Int) (many:Nat):Mc:=⟨L.Lv,L.Lv.d,λr=>L.VL r/\r.hs.length=many,L.stepL,.tup [.str "levels",.tup (gs.map D.int)],many,L.R0 many⟩
theorem X3 {gs:List Int} {many:Nat} (h1:1<=many) (h6:many<=6) (G:jb gs many):McOk (X8 gs many):=by
 obtain ⟨gl,gb,_⟩:=G;have hh:∀ k S,rn (k+1) R6 [(X8 gs many).md] S=.ok (.int (many:Int)) S:=λk S=>by
  refine d5 ?_;rw [rn,a8 (fd:=pB) rfl,ij];refine Ok.eq (a:=.str "levels") rfl<|Ok.eq (S1:=S) (a:=.bl true) (by kernel_rfl)<|Ok.eq (a:=true) rfl<|Ok.pos rfl<|Ok.eq (a:=.tup (gs.map D.int)) rfl<|Ok.eq (p7 _ S) ?_;rw [Es,gl];exact Ok.ret ⟨rfl,rfl⟩
 refine ⟨h1,h6,λr i k S V hi e=>?_,λr r' i k S V hi e=>?_,λr i k S V hi=>?_,λr=>⟨_,rfl⟩,λr V=>(L.r_sm V.1).mono (by decide) (by decide),?_,hh,λk S=>?_,L.r0_ok h6⟩
 ·have hi:i<r.hs.length:=by rw [V.2];exact hi
  have n1:=L.step_no V.1 hi (k+2) S e;show Xn (rn (k+6) N1 [_,r.d,.int (i:Int)]) S _;rw [rn,a8 (fd:=U8) rfl,D8];exact Xn.eq (a:=.str "levels") rfl<|Xn.eq (a:=.bl false) rfl<|Xn.eq (a:=false) rfl<|Xn.neg (by decide)<|Xn.eq (a:=.str "levels") rfl<|Xn.eq (a:=.bl false) rfl<|Xn.eq (a:=false) rfl<|Xn.neg (by decide)<|Xn.eq (a:=.str "levels") rfl<|Xn.eq (S1:=S) (a:=.bl true) (by kernel_rfl)<|Xn.eq (a:=true) rfl<|Xn.pos rfl<|Xn.bind n1
 ·have hi:i<r.hs.length:=by rw [V.2];exact hi
  have e:L.stepL r i=some r':=e;obtain ⟨V1,l1⟩:=L.VL.step V.1 hi e;refine ⟨?_,V1,by rw [l1];exact V.2⟩;have n2:=d5 (L.step_ok V.1 hi (k+2) S (by rw [e];exact λz=>by cases z));rw [L.out_s e] at n2;refine d5 ?_;show Ok (rn (k+6) N1 [_,r.d,.int (i:Int)]) S _;rw [rn,a8 (fd:=U8) rfl,D8];exact Ok.eq (a:=.str "levels") rfl<|Ok.eq (a:=.bl false) rfl<|Ok.eq (a:=false) rfl<|Ok.neg (by decide)<|Ok.eq (a:=.str "levels") rfl<|Ok.eq (a:=.bl false) rfl<|Ok.eq (a:=false) rfl<|Ok.neg (by decide)<|Ok.eq (a:=.str "levels") rfl<|Ok.eq (S1:=S) (a:=.bl true) (by kernel_rfl)<|Ok.eq (a:=true) rfl<|Ok.pos rfl<|Ok.eq n2<|Ok.ret ⟨rfl,rfl⟩
 ·have hi:i<r.hs.length:=by rw [V.2];exact hi
  show Ok (rn (k+3) fN [_,r.d,.int (i:Int)]) S _;rw [rn,a8 (fd:=eL) rfl,W3];refine Ok.eq (a:=.str "levels") rfl<|Ok.eq (a:=.bl false) rfl<|Ok.eq (a:=false) rfl<|Ok.neg (by decide)<|Ok.eq (a:=.str "levels") rfl<|Ok.eq (S1:=S) (a:=.bl true) (by kernel_rfl)<|Ok.eq (a:=true) rfl<|Ok.pos rfl<|Ok.bind ((L.lev_ok V.1 hi k S).mono ?_);rintro _ S' ⟨rfl,rfl⟩;refine Ok.ret ⟨?_,P2 _⟩;show L.dueL r i=Mc.oD (X8 gs many) (L.stepL r i);unfold L.dueL;cases L.stepL r i <;> rfl
 ·have s1:Sml 1 400 (.tup (gs.map D.int)):=(Sml.tup (n:=0) (N:=60) (m:=6) (Smls.map λg hg=>by
   obtain ⟨g0,g1⟩:=gb g hg;obtain ⟨n,rfl⟩:=GW g0;exact Sml.big (by omega)) (by rw [Es];omega)).up
  exact (Sml.tup (n:=1) (N:=400) (m:=2) (.cons Sml.w (.cons s1 .nil)) (EI _)).mono (by decide) (by decide)
 ·refine d5 ?_;rw [rn,a8 (fd:=ii) rfl,X7];obtain ⟨q1,q2⟩:=L.mul_ok (m:=many) (by omega) h6 S;exact Ok.eq (hh k S)<|Ok.eq (a:=.str "levels") rfl<|Ok.eq (a:=.bl false) rfl<|Ok.eq (a:=false) rfl<|Ok.neg (by decide)<|Ok.eq (a:=.str "levels") rfl<|Ok.eq (a:=.bl false) rfl<|Ok.eq (a:=false) rfl<|Ok.neg (by decide)<|Ok.eq (a:=.str "levels") rfl<|Ok.eq (S1:=S) (a:=.bl true) (by kernel_rfl)<|Ok.eq (a:=true) rfl<|Ok.pos rfl<|Ok.eq q1<|Ok.eq q2<|Ok.ret ⟨rfl,rfl⟩
end L3.K35
namespace L3.K35
open PySem PySem.Spec PyProof.Rows L2
theorem DQ (I:Rw.BI bx hs) {a:Rw.Hd} (ha:a∈hs):a=.rests\/(1<=a.bx/\a.bx<=hs.length):=by
 obtain ⟨i,hi,e⟩:=GH ha;have e:hs[i]?=some a:=by rw [Ez hi,e]
 cases a with
 | rests=>exact .inl rfl
 | tries b=>exact .inr (I.tr i b e)
 | holds b=>
  obtain ⟨h1,h2⟩:=I.mh i b e;have:=(Et.mp h2).1;have:=I.len;refine .inr ⟨h1,?_⟩;show b<=hs.length;omega
theorem xZ {r:Rw.Rw} (I:Rw.RI r):Sml 5 8000 r.d:=by
 have few:=I.b.few;have len:=I.b.len;have mx:=I.mx;have s1:Sml 1 400 (.tup (r.bx.map Rw.bD)):=(Sml.tup (n:=0) (N:=60) (m:=6) (Smls.map λo ho=>by
  cases o with
  | none=>exact Sml.non
  | some g=>
   obtain ⟨j,hj,e⟩:=GH ho;have:=(Et.mp (I.b.mt j g (by rw [Ez hj,e]))).1;exact Sml.nat (by omega)) (by rw [Es];omega)).mono (by decide) (by decide)
 have s2:Sml 2 2000 (.tup (r.hs.map Rw.Hd.d)):=(Sml.tup (n:=1) (N:=200) (Smls.map λa ha=>by
  have:=DQ I.b ha;cases a with
  | rests=>exact Sml.w
  | tries b=>
   rcases this with z | ⟨z,w⟩
   ·cases z
   ·have w:b<=r.hs.length:=w;exact (Sml.tup (n:=0) (N:=60) (m:=2) (.cons Sml.w (.cons (Sml.nat (by omega)) .nil)) (EI _)).mono (by decide) (by decide)
  | holds b=>
   rcases this with z | ⟨z,w⟩
   ·cases z
   ·have w:b<=r.hs.length:=w;exact (Sml.tup (n:=0) (N:=60) (m:=2) (.cons Sml.w (.cons (Sml.nat (by omega)) .nil)) (EI _)).mono (by decide) (by decide)) (by rw [Es];omega)).mono (by decide) (by decide)
 exact (Sml.tup (m:=3) (.cons (s1.mono (by decide) (by decide)) (.cons s2 (.cons (Sml.nat (by omega)) .nil))) (EI _)).mono (by decide) (by decide)
theorem zt {n:Nat} (a:1<=n) (b:n<=6) (S:Sto):m7 (.tup [.non]) (.int (n:Int)) S=.ok (.tup ((Rw.r0 n).bx.map Rw.bD)) S/\m7 (.tup [.tup [.str "rests"]]) (.int (n:Int)) S=.ok (.tup ((Rw.r0 n).hs.map Rw.Hd.d)) S:=by
 rcases R.sixs a b with rfl | rfl | rfl | rfl | rfl | rfl <;> exact ⟨by kernel_rfl,by kernel_rfl⟩
def bH (many:Nat):Mc:=⟨Rw.Rw,Rw.Rw.d,λr=>Rw.RI r/\r.hs.length=many,λr i=>some (Rw.stepR r i),.tup [.str "row",.int (many:Int)],many,Rw.r0 many⟩
theorem W4 (c:1<=many) (b:many<=6):McOk (bH many):=by
 have d:∀ k S,rn (k+1) R6 [(bH many).md] S=.ok (.int (many:Int)) S:=λk S=>(j4 fR (λS=>rfl) k S).1;refine ⟨c,b,λr i k S V a e=>?_,λr j i k S V a e=>?_,λr i k S V a=>?_,λr=>⟨_,rfl⟩,λr V=>xZ V.1,?_,d,λk S=>?_,Rw.r0_ok b,by simp [bH,Rw.r0]⟩
 ·cases e
 ·have a:i<r.hs.length:=by rw [V.2];exact a
  cases e;refine ⟨?_,V.1.step a,(Rw.step_len r i).trans V.2⟩;have f:=R.step_ok V.1 a (k+2) S;refine d5 ?_;rw [rn,a8 rfl,D8];exact no_ xn<|no_ tM<|no_ fR<|Ok.eq f<|Ok.ret ⟨rfl,rfl⟩
 ·have a:i<r.hs.length:=by rw [V.2];exact a
  rw [rn,a8 rfl,W3];exact no_ tM<|no_ fR<|yes_ Dm<|Ok.eq (R.lstep_ok V.1 a k S)<|Ok.ret ⟨rfl,P2 _⟩
 ·exact (Sml.tup (n:=0) (N:=60) (m:=2) (.cons Sml.w (.cons (Sml.nat (by omega)) .nil)) (EI _)).mono (by decide) (by decide)
 ·refine d5 ?_;rw [rn,a8 rfl,X7];obtain ⟨g,h⟩:=zt c b S;exact Ok.eq (d k S)<|no_ xn<|no_ tM<|no_ fR<|Ok.eq g<|Ok.eq h<|Ok.ret ⟨rfl,rfl⟩
end L3.K35
namespace L3.K35
open PySem PySem.Spec PyProof.Rows L2 L3.Nt
structure Dst where
 ma:Option Nat
 cl:Bool
 ws:List W7
def Dst.d (r:Dst):D:=.tup [oD r.ma,.bl r.cl,.tup (r.ws.map W7.d)]
def b7 (mk:Option Nat) (cl:Bool) (i:Nat):W7->Option (Option Nat×Bool×W7)
 | .out=>some (some i,cl,.ask)
 | .ask=>some (mk,cl,if cl=true then .right else .close)
 | .close=>some (mk,true,.look)
 | .look=>some (mk,cl,if mk=some i then .holds else .down)
 | _=>none
theorem vF (mk:Option Nat) (cl:Bool) (i:Nat) (w:W7):bh7 mk cl i w=(b7 mk cl i w).map λx=>(x.1,x.2.1,x.2.2.s):=by
 cases w with
 | ask=>cases cl <;> rfl
 | look=>
  show some (mk,cl,if mk=some i then ("holds" : Str) else "down")=some (mk,cl,(if mk=some i then W7.holds else .down).s);by_cases q:mk=some i
  ·rw [if_pos q,if_pos q];rfl
  ·rw [if_neg q,if_neg q];rfl
 | _=>rfl
def X9 (r:Dst) (i:Nat):Option Dst:=match r.ws[i]? with
 | none=>none
 | some w=>(b7 r.ma r.cl i w).map λx=>⟨x.1,x.2.1,r.ws.set i x.2.2⟩
theorem uF {i:Nat} {w:W7} (h:r.ws[i]?=some w):X9 r i=(b7 r.ma r.cl i w).map λx=>⟨x.1,x.2.1,r.ws.set i x.2.2⟩:=by unfold X9;rw [h]
structure DI (many:Nat) (r:Dst):Prop where
 l:r.ws.length=many
 m:∀ g,r.ma=some g->g<many
theorem DI.step (V:DI many r) {i:Nat} (d:i<many) (e:X9 r i=some r'):DI many r':=by
 obtain ⟨w,h⟩:∃ w,r.ws[i]?=some w:=⟨_,Ez (by rw [V.l];exact d)⟩;rw [uF h] at e;obtain ⟨⟨m,c,x⟩,b,f⟩:=FS.mp e;subst f;refine ⟨by show (r.ws.set i x).length=many;rw [EV];exact V.l,λg a=>?_⟩;have a:=a;cases w <;> first | (cases b;done) | (cases b;first | (cases a;exact d) | exact V.m g a)
theorem wv {many:Nat} {r:Dst} (V:DI many r) (h6:many<=6):Sml 5 8000 r.d:=by
 have l:=V.l;have a:Sml 1 400 (oD r.ma):=by
  cases e:r.ma with
  | none=>exact Sml.non
  | some g=>exact Sml.nat (by have:=V.m g e;omega)
 have b:Sml 1 400 (.tup (r.ws.map W7.d)):=(Sml.tup (n:=0) (N:=60) (m:=6) (Smls.map λw _=>by cases w <;> exact Sml.w) (by rw [Es];omega)).up;exact (Sml.tup (m:=3) (.cons a (.cons Sml.bl (.cons b .nil))) (EI _)).mono (by decide) (by decide)
theorem sH {i:Nat} {w:W7} {ws:List D} (c:ws[i]?=some w.d) (b:b7 mk cl i w=none) (d:i<100) (k:Nat) (S:Sto):Xn (rn (k+2) aZ [.tup [oD mk,.bl cl,.tup ws],.int (i:Int)]) S λn S'=>n=S.length/\S'=S++[exS i]:=by
 rw [rn,a8 rfl,gC,fU];refine Xn.first<|Xn.cg (zI ..)<|Xn.eq rfl<|Xn.nxt<|Xn.cg (wL ..)<|Xn.eq (y9 S c)<|Xn.nxt<|Xn.cg (wR ..)<|Xn.eq (a:=.bl true) ?_<|Xn.eq rfl<|Xn.pos rfl<|raise_k rfl (td (cM ⟨by omega,by omega⟩));cases w <;> first | (cases b;done) | kernel_rfl
def yz:W7->Wd
 | .out=>.out
 | .ask=>.ask
 | .close=>.close
 | .look=>.look
 | _=>.holds
theorem yH {i:Nat} {w x:W7} {m:Option Nat} {c:Bool} {ws:List W7} (g:ws[i]?=some w) (b:ws.length<=6) (e:b7 mk cl i w=some (m,c,x)) (k:Nat) (S:Sto):rn (k+2) aZ [.tup [oD mk,.bl cl,.tup (ws.map W7.d)],.int (i:Int)] S=.ok (Dst.d ⟨m,c,ws.set i x⟩) S:=by
 have d:bh mk cl i (yz w)=some (m,c,x.s):=by
  have:=vF mk cl i w;rw [e] at this;rw [<- uZ];cases w <;> first | exact this | (cases e)
 have f:yz w≠.holds:=by cases w <;> first | (intro z;cases z;done) | (cases e)
 have a:(yz w).d=w.d:=by cases w <;> first | rfl | (cases e)
 have:=gP (mk:=mk) (cl:=cl) (by rw [d7 g,a]) (by rw [Es];exact b) f k S;rw [this];unfold bhD;rw [d];show R.ok (D.tup [oD m,.bl c,.tup ((ws.map W7.d).set i (.str x.s))]) S=_;rw [show D.str x.s=x.d from rfl,<- Fi];rfl
theorem BR {n:Nat} (b:1<=n) (a:n<=6) (S:Sto):m7 (.tup [.str "out"]) (.int (n:Int)) S=.ok (.tup ((List.replicate n W7.out).map W7.d)) S:=by
 rcases R.sixs b a with rfl | rfl | rfl | rfl | rfl | rfl <;> kernel_rfl
def bJ (many:Nat):Mc:=⟨Dst,Dst.d,DI many,X9,.tup [.str "decider",.int (many:Int)],many,⟨none,false,List.replicate many .out⟩⟩
theorem X5 (l:1<=many) (h:many<=6):McOk (bJ many):=by
 have o:∀ k S,rn (k+1) R6 [(bJ many).md] S=.ok (.int (many:Int)) S:=λk S=>(j4 si (λS=>rfl) k S).1;refine ⟨l,h,λr i k S V b e=>?_,λr v i k S V b e=>?_,λr i k S V b=>?_,λr=>⟨_,rfl⟩,λr V=>wv V h,?_,o,λk S=>?_,by show (List.replicate many W7.out).length=many;simp,λg t=>by cases t⟩
 ·have V:DI many r:=V;have b:i<many:=b;obtain ⟨w,f⟩:∃ w,r.ws[i]?=some w:=⟨_,Ez (by rw [V.l];exact b)⟩;have e:X9 r i=none:=e;rw [uF f,Option.map_eq_none_iff] at e;have q:=sH (ws:=r.ws.map W7.d) (d7 f) e (by omega) (k+3) S;show Xn (rn (k+6) N1 [_,r.d,.int (i:Int)]) S _;rw [rn,a8 (fd:=U8) rfl,D8];exact yesX qR<|Xn.bind q
 ·have V:DI many r:=V;have b:i<many:=b;have e:X9 r i=some v:=e;refine ⟨?_,V.step b e⟩;obtain ⟨w,f⟩:∃ w,r.ws[i]?=some w:=⟨_,Ez (by rw [V.l];exact b)⟩;rw [uF f] at e;obtain ⟨⟨m,c,x⟩,u,s⟩:=FS.mp e;subst s;have p:=yH f (by rw [V.l];exact h) u (k+3) S;refine d5 ?_;show Ok (rn (k+6) N1 [_,r.d,.int (i:Int)]) S _;rw [rn,a8 (fd:=U8) rfl,D8];exact yes_ qR<|Ok.eq p<|Ok.ret ⟨rfl,rfl⟩
 ·have V:DI many r:=V;have b:i<many:=b;obtain ⟨w,f⟩:∃ w,r.ws[i]?=some w:=⟨_,Ez (by rw [V.l];exact b)⟩;show Ok (rn (k+3) fN [_,r.d,.int (i:Int)]) S λd S'=>d=Mc.oD (bJ many) (X9 r i)/\Ex S S';rw [rn,a8 (fd:=eL) rfl,W3,uF f];refine no_ Dw<|no_ si<|no_ Dt ?_;refine Ok.eq (a:=oD r.ma) rfl<|Ok.eq (a:=.bl r.cl) rfl<|Ok.eq (a:=.tup (r.ws.map W7.d)) rfl<|Ok.eq (y9 S (d7 f))<|Ok.bind ((Y4 r.ma r.cl i w (k+1) S).mono ?_);rintro _ S1 ⟨rfl,j⟩;rw [vF];cases e:b7 r.ma r.cl i w with
  | none=>exact Ok.eq (a:=.bl true) rfl<|Ok.eq (a:=true) rfl<|Ok.pos rfl<|Ok.ret ⟨rfl,j⟩
  | some y=>
   obtain ⟨m,c,x⟩:=y;refine Ok.eq (a:=.bl false) rfl<|Ok.eq (a:=false) rfl<|Ok.neg (by decide)<|Ok.eq rfl<|Ok.eq rfl<|Ok.eq (a:=x.d) rfl<|Ok.eq (aY (by rw [Es,V.l];exact b) (by rw [Es,V.l];omega)) ?_;rw [<- Fi];exact Ok.eq rfl<|Ok.ret ⟨rfl,j⟩
 ·exact (Sml.tup (n:=0) (N:=100) (m:=2) (.cons Sml.w (.cons (Sml.nat (by omega)) .nil)) (EI _)).mono (by decide) (by decide)
 ·refine d5 ?_;rw [rn,a8 rfl,X7];exact Ok.eq (o k S)<|yes_ qR<|Ok.eq (BR l h S)<|Ok.ret ⟨rfl,rfl⟩
end L3.K35
namespace L3.K35
open PySem PySem.Spec PyProof.Rows L2
section
variable (m:Mc)
def kOf (s:m.σ):PyData:=(q9 (m.d s)).getD .none
def kvs (st:List m.σ):List (D×D):=st.map λs=>(m.d s,.bl true)
def B4 (st:List m.σ) (s:m.σ):List m.σ:=if (F3 (kvs m st) (kOf m s)).isSome=true then st else st++[s]
def k6 (s:m.σ) (n:Nat):List m.σ:=(List.range n).filterMap (m.step s)
def yp (st:List m.σ) (s:m.σ):List m.σ:=(k6 m s m.many).foldl (B4 m) st
def W:Nat->List m.σ
 | 0=>[m.s0]
 | n+1=>match (W n)[n]? with
  | some s=>yp m (W n) s
  | none=>W n
def stop (n:Nat):Prop:=(W m n).length<=n\/2000<(W m n).length
theorem dL (s:m.σ) (n:Nat):k6 m s (n+1)=k6 m s n++(m.step s n).toList:=by
 unfold k6;rw [Gq,List.filterMap_append];cases e:m.step s n <;> simp [e]
theorem bn (s:m.σ):∀ n,(k6 m s n).length<=n:=λn=>by
 unfold k6;exact Fk (List.length_filterMap_le ..) (by rw [Gf];exact EI _)
theorem rN (st:List m.σ) (s:m.σ):st.length<=(B4 m st s).length/\(B4 m st s).length<=st.length+1:=by
 unfold B4;split
 ·omega
 ·rw [FC,Hf];omega
theorem aR:∀ (l:List m.σ) (st:List m.σ),st.length<=(l.foldl (B4 m) st).length/\(l.foldl (B4 m) st).length<=st.length+l.length
 | [],st=>⟨EI _,EI _⟩
 | s :: l,st=>by
  have a:=rN m st s;have b:=aR l (B4 m st s);rw [List.foldl_cons,Fy];omega
theorem rS (st:List m.σ) (s:m.σ) {i:Nat} {x:m.σ} (h:st[i]?=some x):(B4 m st s)[i]?=some x:=by
 unfold B4;split
 ·exact h
 ·rw [EJ (Et.mp h).1];exact h
theorem dP:∀ (l:List m.σ) (st:List m.σ) {i:Nat} {x:m.σ},st[i]?=some x->(l.foldl (B4 m) st)[i]?=some x
 | [],st,i,x,h=>h
 | s :: l,st,i,x,h=>dP l _ (rS m st s h)
theorem tB:∃ n,stop m n/\n<=2001/\∀ j,j<n->¬ stop m j:=by
 have key:∀ B,(∃ n,n<=B/\stop m n/\∀ j,j<n->¬ stop m j)\/∀ j,j<=B->¬ stop m j:=by
  intro B;induction B with
  | zero=>
   by_cases h:stop m 0
   ·exact .inl ⟨0,EI _,h,λj hj=>by omega⟩
   ·exact .inr λj hj=>by rw [show j=0 by omega];exact h
  | succ B ih=>
   rcases ih with ⟨n,h1,h2,h3⟩ | h
   ·exact .inl ⟨n,by omega,h2,h3⟩
   ·by_cases q:stop m (B+1)
    ·exact .inl ⟨B+1,EI _,q,λj hj=>h j (by omega)⟩
    ·refine .inr λj hj=>?_;by_cases z:j=B+1
     ·rw [z];exact q
     ·exact h j (by omega)
 rcases key 2001 with ⟨n,h1,h2,h3⟩ | h
 ·exact ⟨n,h2,h1,h3⟩
 ·exfalso;refine h 2001 (EI _) ?_;by_cases q:2000<(W m 2001).length
  ·exact .inr q
  ·exact .inl (Nat.le_succ_of_le (Nat.le_of_not_lt q))
theorem W_s {n:Nat} {s:m.σ} (h:(W m n)[n]?=some s):W m (n+1)=yp m (W m n) s:=by
 rw [W,h]
theorem AC {n:Nat} (h:¬ stop m n):∃ s,(W m n)[n]?=some s:=by
 have:n<(W m n).length:=Hm λz=>h (.inl z);exact ⟨_,Ez this⟩
end
mutual
theorem vC:∀ (d:D) {q:PyData},kP d=some q->q=py d
 | .non,_,e=>by cases e;rfl
 | .bl _,_,e=>by cases e;rfl
 | .int _,_,e=>by cases e;rfl
 | .str _,_,e=>by cases e;rfl
 | .tup ds,_,e=>by
  rw [kP] at e;obtain ⟨ps,e1,rfl⟩:=FS.mp e;rw [nU ds e1];rfl
 | .lst _,_,e=>by cases e
 | .scr _,_,e=>by cases e
 | .ref _,_,e=>by cases e
theorem nU:∀ (ds:List D) {qs:List PyData},kPs ds=some qs->qs=pys ds
 | [],_,e=>by cases e;rfl
 | d :: ds,_,e=>by
  rw [kPs] at e;cases e1:kP d with
  | none=>rw [e1] at e;cases e
  | some p=>
   cases e2:kPs ds with
   | none=>rw [e1,e2] at e;cases e
   | some ps=>
    rw [e1,e2] at e;cases e;rw [vC d e1,nU ds e2];rfl
end
theorem kPs_map {α:Type} {f:α->D}:∀ {l:List α},(∀ a∈l,(kP (f a)).isSome=true)->(kPs (l.map f)).isSome=true
 | [],_=>rfl
 | a :: l,h=>by
  obtain ⟨p,e1⟩:=Fe.mp (h a (EL ..));obtain ⟨ps,e2⟩:=Fe.mp (kPs_map (l:=l) λb hb=>h b (EM _ hb));rw [Fb,kPs,e1,e2];rfl
theorem n8 {ds:List D} (h:(kPs ds).isSome=true):(kP (.tup ds)).isSome=true:=by
 rw [kP,Gv];exact h
theorem kPs_cons {d:D} {ds:List D} (h:(kP d).isSome=true) (hs:(kPs ds).isSome=true):(kPs (d :: ds)).isSome=true:=by
 obtain ⟨p,e1⟩:=Fe.mp h;obtain ⟨ps,e2⟩:=Fe.mp hs;rw [kPs,e1,e2];rfl
theorem sw {N:Nat} {ds:List D} (h:Sml 5 N (.tup ds)) (k:(kP (.tup ds)).isSome=true):∃ q,q9 (.tup ds)=some q:=by
 obtain ⟨p,e⟩:=Fe.mp k;have e1:=vC _ e;have:py (.tup ds)=.tuple (pys ds):=rfl;rw [this] at e1;subst e1;have l:=nH (.tup ds) h.pl;have dd:=O5 (.tup ds);have:=h.dp;unfold q9;rw [e];dsimp only;rw [if_pos ⟨l,by show (py (.tup ds)).depth<=6;omega⟩];exact ⟨_,rfl⟩
structure McFi (m:Mc):Prop where
 ho:∀ k S,rn (k+1) gS [m.md] S=.ok (.int (m.many:Int)) S
 pf:∀ k S,rn (k+3) yP [m.md] S=.ok (m.d m.s0) S
 kp:∀ s,(kP (m.d s)).isSome=true
theorem cV {n:Nat} (h1:1<=n) (h6:n<=6):McFi (bJ n):=by
 refine ⟨λk S=>(j4 si (λS=>rfl) k S).2,λk S=>d5 ?_,λr=>?_⟩
 ·rw [rn,a8 (fd:=bU) rfl,X6];refine Ok.eq (j4 si (λS=>rfl) (k+1) S).2<|yes_ qR<|Ok.eq (a:=(bJ n).d (bJ n).s0) (S1:=S) ?_<|Ok.ret ⟨rfl,rfl⟩;show rn (k+2) Bb [.int (n:Int)] S=_;rw [rn,a8 (fd:=yo) rfl,zJ];exact d5<|Ok.eq (BR h1 h6 S)<|Ok.ret ⟨rfl,rfl⟩
 ·exact n8<|kPs_cons (by cases r.ma <;> rfl)<|kPs_cons rfl<|kPs_cons (n8<|kPs_map λw _=>rfl) rfl
theorem O0 {size many:Nat} (h1:1<=many) (hs:1<=size) (h5:size<=5) (m5:many<=5):McFi (T9 size many):=by
 refine ⟨λk S=>(j4 wM (λS=>rfl) k S).2,λk S=>d5 ?_,λr=>?_⟩
 ·rw [rn,a8 (fd:=bU) rfl,X6];refine Ok.eq (j4 wM (λS=>rfl) (k+1) S).2<|no_ tI<|yes_ mQ<|Ok.eq (a:=.int (size:Int)) rfl<|Ok.eq (a:=(T9 size many).d (T9 size many).s0) (S1:=S) ?_<|Ok.ret ⟨rfl,rfl⟩;show rn (k+2) ya [.int (size:Int),.int (many:Int)] S=_;rw [rn,a8 (fd:=mm) rfl,sy];exact d5<|Ok.eq (nc size (by omega) k S)<|Ok.eq (CY hs h5 S)<|Ok.eq (CG h1 m5 S)<|Ok.ret ⟨rfl,rfl⟩
 ·refine n8<|kPs_cons (n8<|kPs_map λb _=>?_)<|kPs_cons (n8<|kPs_map λh _=>?_) rfl
  ·exact n8<|kPs_cons (by cases b.1 <;> rfl)<|kPs_cons rfl rfl
  ·exact n8<|kPs_cons (n8<|kPs_map λb _=>by cases b <;> rfl)<|kPs_cons rfl rfl
theorem cR {gs:List Int} {n:Nat} (h1:1<=n) (h6:n<=6) (gl:gs.length=n):McFi (X8 gs n):=by
 have ho:∀ k S,rn (k+1) gS [(X8 gs n).md] S=.ok (.int (n:Int)) S:=λk S=>by
  refine d5 ?_;rw [rn,a8 (fd:=nM) rfl,jK];refine yes_ CH<|Ok.eq (a:=.tup (gs.map D.int)) rfl<|Ok.eq (p7 _ S) ?_;rw [Es,gl];exact Ok.ret ⟨rfl,rfl⟩
 refine ⟨ho,λk S=>d5 ?_,λr=>?_⟩
 ·rw [rn,a8 (fd:=bU) rfl,X6];refine Ok.eq (ho (k+1) S)<|no_ DV<|no_ Dg<|yes_ CH<|Ok.eq (a:=(X8 gs n).d (X8 gs n).s0) (S1:=S) ?_<|Ok.ret ⟨rfl,rfl⟩;show rn (k+2) Bs [.int (n:Int)] S=_;rw [rn,a8 (fd:=xj) rfl,xC];obtain ⟨q1,q2⟩:=L.mul_ok (m:=n) (by omega) h6 S;exact d5<|Ok.eq q1<|Ok.eq q2<|Ok.ret ⟨rfl,rfl⟩
 ·refine n8<|kPs_cons (n8<|kPs_map λb _=>?_)<|kPs_cons (n8<|kPs_map λh _=>?_) rfl
  ·cases b <;> rfl
  ·cases h with
   | holds v=>exact n8<|kPs_cons rfl<|kPs_cons (n8<|kPs_map λb _=>rfl) rfl
   | _=>rfl
theorem dJ {n:Nat} (h1:1<=n) (h6:n<=6):McFi (bH n):=by
 refine ⟨λk S=>(j4 fR (λS=>rfl) k S).2,λk S=>d5 ?_,λr=>?_⟩
 ·rw [rn,a8 (fd:=bU) rfl,X6];refine Ok.eq (j4 fR (λS=>rfl) (k+1) S).2<|no_ xn<|no_ tM<|no_ fR<|Ok.eq (a:=(bH n).d (bH n).s0) (S1:=S) ?_<|Ok.ret ⟨rfl,rfl⟩;show rn (k+2) wd [.int (n:Int)] S=_;rw [rn,a8 (fd:=mD) rfl,sX];obtain ⟨q1,q2⟩:=zt h1 h6 S;exact d5<|Ok.eq q1<|Ok.eq q2<|Ok.ret ⟨rfl,rfl⟩
 ·refine n8<|kPs_cons (n8<|kPs_map λb _=>?_)<|kPs_cons (n8<|kPs_map λh _=>?_)<|kPs_cons rfl rfl
  ·cases b <;> rfl
  ·cases h <;> rfl
theorem Xn.while_ {t:L3.Env->M Bool} {body:L3.Env->M Fl} {P:Nat->Sto->Prop} (I:Nat->L3.Env->Sto->Prop)
  (step:∀ k ρ S,I k ρ S->Ok (t ρ) S λb S1=>b=true/\(Xn (body ρ) S1 P\/Ok (body ρ) S1 λfl S2=>∃ ρ2 j,fl=.nx ρ2/\j<k/\I j ρ2 S2)) :
  ∀ (n k:Nat) (ρ:L3.Env) (S:Sto),k<n->I k ρ S->Xn (t6 t body n ρ) S P
 | 0,k,ρ,S,hk,h=>by omega
 | n+1,k,ρ,S,hk,h=>by
  refine Xn.ok ((step k ρ S h).mono ?_);rintro b S1 ⟨rfl,q⟩;rw [if_pos rfl];rcases q with q | q
  ·exact Xn.bind q
  ·refine Xn.ok (q.mono ?_);rintro fl S2 ⟨ρ2,j,rfl,hj,q3⟩;exact Xn.while_ I step n j ρ2 S2 (by omega) q3
def Kb (S S':Sto):Prop:=S.length<=S'.length/\∀ i,i<S.length->S'[i]?=S[i]?
theorem Kb.refl (S:Sto):Kb S S:=⟨EI _,λ_ _=>rfl⟩
theorem Kb.ex {S T U:Sto} (a:Kb S T) (b:Ex T U):Kb S U:=by
 obtain ⟨E,rfl⟩:=b;refine ⟨by have:=a.1;simp;omega,λi hi=>?_⟩;rw [EJ (by have:=a.1;omega)];exact a.2 i hi
theorem Kb.set {S T:Sto} (a:Kb S T) {i:Nat} (h:S.length<=i) (o:O):Kb S (T.set i o):=
 ⟨by rw [EV];exact a.1,λj hj=>by rw [ER (by omega)];exact a.2 j hj⟩
section
variable {m:Mc} (M:McOk m) (F:McFi m)
include M
theorem ai {s:m.σ} (V:m.ok s):∀ n,n<=m.many->∀ x∈k6 m s n,m.ok x
 | 0,_,x,hx=>by simp [k6] at hx
 | n+1,hn,x,hx=>by
  rw [dL] at hx;rcases Ff.mp hx with z | z
  ·exact ai V n (by omega) x z
  ·have e:m.step s n=some x:=by simpa using z
   exact (M.go s x n 0 [] V (by omega) e).2
theorem yG {st:List m.σ} {s:m.σ} (h:∀ x∈st,m.ok x) (hs:m.ok s):∀ x∈B4 m st s,m.ok x:=by
 unfold B4;split
 ·exact h
 ·intro x hx;rcases Ff.mp hx with z | z
  ·exact h x z
  ·rw [EZ.mp z];exact hs
theorem ip:∀ {l st:List m.σ},(∀ x∈st,m.ok x)->(∀ x∈l,m.ok x)->∀ x∈l.foldl (B4 m) st,m.ok x
 | [],st,h,_=>h
 | s :: l,st,h,hl=>ip (l:=l) (yG M h (hl s (EL ..))) λx hx=>hl x (EM _ hx)
theorem dq:∀ n,∀ x∈W m n,m.ok x
 | 0,x,hx=>by rw [EZ.mp hx];exact M.o0
 | n+1,x,hx=>by
  rw [W] at hx;split at hx
  ·rename_i s e;exact ip M (dq n) (ai M (dq n s (EY e)) m.many (EI _)) x hx
  ·exact dq n x hx
include F
theorem lf {s:m.σ} (V:m.ok s):q9 (m.d s)=some (kOf m s):=by
 obtain ⟨ds,e⟩:=M.tp s;have h:=M.sm s V;have k:=F.kp s;rw [e] at h k;obtain ⟨q,hq⟩:=sw h k;unfold kOf;rw [e,hq];rfl
theorem EG {s:m.σ} (V:m.ok s) {st:List m.σ} {q:Nat} {S:Sto} (e:S[q]?=some (.dcT (kvs m st))):Y9 true (m.d s) (.ref q) S=.ok (.bl (!(F3 (kvs m st) (kOf m s)).isSome)) S:=by
 simp only [Y9,e,lf M F V];rfl
theorem Ak {s:m.σ} (V:m.ok s) {st:List m.σ} {q:Nat} {S:Sto} (e:S[q]?=some (.dcT (kvs m st))) (hl:st.length<3000) (no:(F3 (kvs m st) (kOf m s)).isSome=false):M3 (.ref q) (m.d s) (.bl true) S=.ok .non (S.set q (.dcT (kvs m (st++[s])))):=by
 have l:(kvs m st).length<sizeLine:=by unfold kvs;rw [Es,Fj];omega
 simp only [M3,e,lf M F V,if_pos l];unfold kK;rw [no,if_neg EH];unfold kvs;rw [FQ];rfl
theorem putS_ok {α:Type} {s:m.σ} (V:m.ok s) {st:List m.σ} {p q:Nat} {S S':Sto} (hp:S.length<=p) (hq:S.length<=q) (ne:p≠q) (e1:S'[p]?=some (.lst (st.map m.d))) (e2:S'[q]?=some (.dcT (kvs m st))) (hl:st.length<3000) (kb:Kb S S') {Q:α->Sto->Prop} {f:L3.M α}
  (fin:∀ S2,S2[p]?=some (.lst ((B4 m st s).map m.d))->S2[q]?=some (.dcT (kvs m (B4 m st s)))->Kb S S2->Ok f S2 Q) :
  Ok (bind (Y9 true (m.d s) (.ref q)) λx1=>bind (asB x1) λz2=>if z2=true then (bind (M3 (.ref q) (m.d s) (.bl true)) λ_=>bind (lstOf (.ref p)) λ_=>bind (Q9 (.ref p) [m.d s]) λ_=>f) else f) S' Q:=by
 refine Ok.eq (EG M F V e2)<|Ok.eq (k4 _ _) ?_;have lp:=(Et.mp e1).1;have lq:=(Et.mp e2).1;cases no:(F3 (kvs m st) (kOf m s)).isSome with
 | true=>
  refine Ok.neg (by decide)<|fin S' ?_ ?_ kb
  ·unfold B4;rw [no,if_pos rfl];exact e1
  ·unfold B4;rw [no,if_pos rfl];exact e2
 | false=>
  have ea:B4 m st s=st++[s]:=by unfold B4;rw [no,if_neg EH]
  have e3:(S'.set q (.dcT (kvs m (st++[s]))))[p]?=some (.lst (st.map m.d)):=by rw [ER (Ne.symm ne)];exact e1
  refine Ok.pos rfl<|Ok.eq (Ak M F V e2 hl no)<|Ok.eq (pQ e3)<|Ok.eq (mz e3 (by rw [Es,Fj];omega))<|fin _ ?_ ?_ ((kb.set hq _).set hp _)
  ·rw [Fg (by rw [EV];exact lp),ea,FQ];rfl
  ·rw [ER ne,Fg lq,ea]
omit F in
theorem ez {α β γ:Type} (f:α->Option β) (g:β->γ) (h:α->γ):∀ (l:List α),(∀ a∈l,∀ b,f a=some b->h a=g b)->(l.filter λa=>(f a).isSome).map h=(l.filterMap f).map g
 | [],_=>rfl
 | a :: l,H=>by
  have ih:=ez f g h l λx hx=>H x (EM _ hx);rw [List.filter_cons,GD];cases e:f a with
  | none=>simpa [e] using ih
  | some b=>
   simp only [Option.isSome_some,Ib,Fb];rw [ih,H a (EL ..) b e]
theorem oG {s:m.σ} (V:m.ok s) (k:Nat) (S:Sto):Ok (rn (k+8) oy [m.md,m.d s]) S λd S'=>d=.lst (((List.range m.many).filter λj=>(m.step s j).isSome).map λ(j:Nat)=>.int (j:Int))/\Ex S S':=by
 have m6:=M.m6;rw [rn,a8 (fd:=mS) rfl,sG];refine nx_bind<|Ok.eq (F.ho (k+6) S)<|Ok.eq (U0 (n:=m.many) (by omega) _) ((Ok.comp (n:=m.many) (λi S' es=>Ex S S'/\es=((List.range i).filter λj=>(m.step s j).isSome).map λ(j:Nat)=>.int (j:Int)) (λS' es _=>K6 _ S') ?_ ⟨P2 S,rfl⟩).mono ?_)
 ·rintro i S' es hi ⟨ex,rfl⟩;refine ⟨.int (i:Int),T5 hi S',Ok.bind ((xg M V hi k S').mono ?_)⟩;rintro _ S2 ⟨rfl,ex2⟩;have le:(((List.range i).filter λj=>(m.step s j).isSome).map λ(j:Nat)=>D.int (j:Int)).length<sizeLine:=by
   rw [Es,Fj];have:=Ft (λj=>(m.step s j).isSome) (List.range i);rw [Gf] at this;omega
  cases e:m.step s i with
  | none=>
   refine Ok.eq (a:=.bl false) rfl<|Ok.eq (a:=false) rfl<|Ok.ret ?_;rw [if_neg EH];exact ⟨B9 ex ex2,by rw [Gq,FD];simp [e]⟩
  | some s'=>
   refine Ok.eq (oC M s' S2).1<|Ok.eq (a:=true) rfl<|Ok.ret ?_;rw [if_pos rfl];exact Ok.ret ⟨le,B9 ex ex2,by rw [Gq,FD];simp [e]⟩
 ·rintro es S' ⟨ex,rfl⟩;exact Ok.ret ⟨rfl,ex⟩
theorem eC {s:m.σ} (V:m.ok s) (k:Nat) (S:Sto):Ok (rn (k+9) wB [m.md,m.d s]) S λd S'=>d=.lst ((k6 m s m.many).map m.d)/\Ex S S':=by
 have m6:=M.m6;rw [rn,a8 (fd:=nj) rfl,tP];refine nx_bind<|Ok.bind ((oG M F V k S).mono ?_);rintro _ S1 ⟨rfl,ex⟩;have ll:((List.range m.many).filter λj=>(m.step s j).isSome).length<sizeLine:=by
  rw [Fj];have:=Ft (λj=>(m.step s j).isSome) (List.range m.many);rw [Gf] at this;omega
 refine Ok.eq (a:=(F9 (((List.range m.many).filter λj=>(m.step s j).isSome).map λ(j:Nat)=>.int (j:Int)),((List.range m.many).filter λj=>(m.step s j).isSome).length+1)) (S1:=S1) (by show R.ok (F9 _,_+1) S1=_;rw [Es])<|Ok.of (v8 (l:=(List.range m.many).filter λj=>(m.step s j).isSome) (h:=λ(j:Nat)=>.int (j:Int)) (g:=λj=>m.d ((m.step s j).getD s)) (p:=λ_=>true) (t:=λ_=>ret true) ll (λ_ _=>rfl) λj hj _=>?_)<|Ok.ret ⟨?_,ex⟩
 ·obtain ⟨h1,h2⟩:=GN.mp hj;obtain ⟨s',e⟩:=Fe.mp h2;rw [e];exact a9 (M.go s s' j (k+2) S1 V (Gx.mp h1) e).1
 ·rw [List.filter_eq_self.mpr λ_ _=>rfl];unfold k6;rw [ez M (m.step s) m.d (λj=>m.d ((m.step s j).getD s)) (List.range m.many) λj _ b e=>by rw [e];rfl]
end
section
variable {m:Mc} (M:McOk m) (F:McFi m)
include M F
def At (m:Mc) (S S':Sto) (st:List m.σ):Prop:=S'[S.length]?=some (.lst (st.map m.d))/\S'[S.length+1]?=some (.dcT (kvs m st))/\Kb S S'
omit M F in
theorem At.ex {S T U:Sto} {st:List m.σ} (a:At m S T st) (b:Ex T U):At m S U st:=
 ⟨by rw [b.at (Et.mp a.1).1];exact a.1,by rw [b.at (Et.mp a.2.1).1];exact a.2.1,a.2.2.ex b⟩
theorem ak (S:Sto):At m S (S++[.lst [m.d m.s0]]++[.dcT [(m.d m.s0,.bl true)]]) [m.s0]/\U1 [(m.d m.s0,.bl true)] (S++[.lst [m.d m.s0]])=.ok (.ref (S.length+1)) (S++[.lst [m.d m.s0]]++[.dcT [(m.d m.s0,.bl true)]]):=by
 refine ⟨⟨by simp,by rw [HC,Fp (by omega)];simp [kvs],(Kb.refl S).ex ⟨[.lst [m.d m.s0],.dcT [(m.d m.s0,.bl true)]],by simp⟩⟩,?_⟩;simp only [U1,lf M F M.o0,FC,Hf]
theorem eT {S S':Sto} {st:List m.σ} {s:m.σ} (V:m.ok s) (at_:At m S S' st) (hl:st.length<=2000) (k:Nat) (o4 o6:Option D) :
  Ok (z0 (F9 ((k6 m s m.many).map m.d)) (λd ρ=>some (ρ.set 5 (some d))) (E1 (rn (k+9))) ((k6 m s m.many).length+1) 0 [some m.md,some (.ref S.length),some (.ref (S.length+1)),o4,some (m.d s),o6]) S' λfl S2=>∃ o6,fl=.nx [some m.md,some (.ref S.length),some (.ref (S.length+1)),o4,some (m.d s),o6]/\At m S S2 (yp m st s):=by
 have m6:=M.m6;have nl:=bn m s m.many;have nk:=ai M V m.many (EI _);refine (Ok.loop (n:=(k6 m s m.many).length) (λi ρ S2=>At m S S2 (((k6 m s m.many).take i).foldl (B4 m) st)/\∃ o6,ρ=[some m.md,some (.ref S.length),some (.ref (S.length+1)),o4,some (m.d s),o6]) (λρ S2 _=>by simp [F9]) ?_ ⟨at_,_,rfl⟩).mono ?_
 ·rintro i ρ S2 hi ⟨a2,o6,rfl⟩;have ei:(k6 m s m.many)[i]?=some (k6 m s m.many)[i]:=Ez hi;have Vi:=nk _ (FI hi);generalize (k6 m s m.many)[i]=x at ei Vi;refine ⟨m.d x,_,by simp [F9,ei],rfl,?_⟩;unfold E1;rw [W1];have fl:=(aR m ((k6 m s m.many).take i) st).2;rw [FW] at fl;refine Ok.first<|Ok.cg (bB ..)<|putS_ok M F Vi (EI _) (FV _) (by omega) a2.1 a2.2.1 (by omega) a2.2.2 λS3 e1 e2 kb=>Ok.ret ⟨_,.inl rfl,?_,_,rfl⟩;rw [List.take_add_one,ei,List.foldl_append];exact ⟨e1,e2,kb⟩
 ·rintro _ S2 ⟨ρ,rfl,a2,o6,rfl⟩;rw [Hl] at a2;exact ⟨_,rfl,a2⟩
theorem cW {S S':Sto} {n:Nat} (ns:¬ stop m n) (at_:At m S S' (W m n)) (k:Nat) (o5 o6:Option D) :
  (2000<(W m (n+1)).length->Xn (Q1 (rn (k+9)) [some m.md,some (.ref S.length),some (.ref (S.length+1)),some (.int (n:Int)),o5,o6]) S' λe S2=>∃ S3,Kb S S3/\e=S3.length/\S2=S3++[.exc 4 [("word",.str "stands")]]) /\
  ((W m (n+1)).length<=2000->Ok (Q1 (rn (k+9)) [some m.md,some (.ref S.length),some (.ref (S.length+1)),some (.int (n:Int)),o5,o6]) S' λfl S2=>∃ o5 o6,fl=.nx [some m.md,some (.ref S.length),some (.ref (S.length+1)),some (.int ((n+1:Nat):Int)),o5,o6]/\At m S S2 (W m (n+1))):=by
 obtain ⟨s,es⟩:=AC m ns;have V:=dq M n s (EY es);have l2:(W m n).length<=2000:=FE λz=>ns (.inr z);have ew:=W_s m es;unfold Q1;rw [ey];have ed:((W m n).map m.d)[n]?=some (m.d s):=d7 es;constructor
 ·intro big;refine Xn.first<|Xn.cg (bN ..)<|Xn.eq (gQ at_.1 ed)<|Xn.nxt<|Xn.cg (bf ..)<|Xn.ok ((eC M F V k S').mono ?_);rintro _ S1 ⟨rfl,ex⟩;refine Xn.eq (a:=(F9 ((k6 m s m.many).map m.d),(k6 m s m.many).length+1)) (S1:=S1) (by show R.ok (F9 _,_+1) S1=_;rw [Es])<|Xn.ok ((eT M F V (at_.ex ex) l2 k _ _).mono ?_);rintro _ S2 ⟨o6,rfl,a2⟩;rw [<- ew] at a2;refine Xn.nxt<|Xn.cg (bQ ..)<|Xn.eq (aP a2.1) ?_;rw [Es];refine Xn.eq (vk _ _ S2)<|Xn.eq (k4 _ S2)<|Xn.pos (EO (by omega))<|(raise_k rfl (by kernel_rfl)).mono ?_;rintro e S3 ⟨rfl,rfl⟩;exact ⟨S2,a2.2.2,rfl,rfl⟩
 ·intro few;refine Ok.first<|Ok.cg (bN ..)<|Ok.eq (gQ at_.1 ed)<|Ok.nxt<|Ok.cg (bf ..)<|Ok.bind ((eC M F V k S').mono ?_);rintro _ S1 ⟨rfl,ex⟩;refine Ok.eq (a:=(F9 ((k6 m s m.many).map m.d),(k6 m s m.many).length+1)) (S1:=S1) (by show R.ok (F9 _,_+1) S1=_;rw [Es])<|Ok.bind ((eT M F V (at_.ex ex) l2 k _ _).mono ?_);rintro _ S2 ⟨o6,rfl,a2⟩;rw [<- ew] at a2;refine Ok.nxt<|Ok.cg (bQ ..)<|Ok.eq (aP a2.1) ?_;rw [Es];refine Ok.eq (vk _ _ S2)<|Ok.eq (k4 _ S2)<|Ok.neg (by rw [EX (by omega)];decide)<|Ok.nxt<|Ok.cg (jY ..)<|Ok.eq (a:=.int ((n+1:Nat):Int)) rfl<|Ok.ret ⟨_,_,rfl,a2⟩
theorem tT {N:Nat} (hs:stop m N) (h1:N<=2001) (hj:∀ j,j<N->¬ stop m j) (few:(W m N).length<=2000) (k:Nat) (S:Sto):Ok (rn (k+10) pK [m.md]) S λd S'=>d=.ref S.length/\S'[S.length]?=some (.lst ((W m N).map m.d))/\Kb S S':=by
 rw [rn,a8 (fd:=Eg) rfl,gx,jG];obtain ⟨b1,b2⟩:=ak M F S;have few':∀ j,j<=N->(W m j).length<=2000:=λj hj'=>by
  by_cases z:j=N
  ·rw [z];exact few
  ·exact FE λq=>hj j (by omega) (.inr q)
 refine Ok.first<|Ok.cg (vU ..)<|Ok.eq (F.pf (k+6) S)<|Ok.eq (show newL [m.d m.s0] S=.ok (.ref S.length) (S++[.lst [m.d m.s0]]) from rfl)<|Ok.nxt<|Ok.cg (vR ..)<|Ok.eq (gQ (i:=0) (d:=m.d m.s0) (ds:=[m.d m.s0]) (by simp) rfl)<|Ok.eq b2<|Ok.nxt<|Ok.cg (vh ..)<|Ok.nxt<|Ok.cg (vV ..)<|Ok.bind ((Ok.while_ (λt ρ S'=>∃ n o5 o6,n+t=N/\At m S S' (W m n)/\ρ=[some m.md,some (.ref S.length),some (.ref (S.length+1)),some (.int (n:Int)),o5,o6]) (λρ S'=>∃ x y z u v,ρ=[x,some (.ref S.length),y,z,u,v]/\At m S S' (W m N)) (λ_ _=>False) ?_ 10000 N _ _ (by omega) ⟨0,_,_,by omega,b1,rfl⟩).mono ?_)
 ·rintro t ρ S' ⟨n,o5,o6,hn,a1,rfl⟩;rw [Y6];refine Ok.eq (aP a1.1) ?_;rw [Es];refine Ok.eq (bi _ _ S')<|Ok.eq (k4 _ S')<|Ok.ret ?_;by_cases z:n=N
  ·subst z;have:(W m n).length<=n:=by
    rcases hs with q | q
    ·exact q
    ·omega
   rw [if_neg (by rw [EX (by omega)];decide)];exact ⟨_,_,_,_,_,rfl,a1⟩
  ·have ns:=hj n (by omega);have:n<(W m n).length:=Hm λq=>ns (.inl q);rw [if_pos (EO (by omega))];refine ((cW M F ns a1 k o5 o6).2 (few' (n+1) (by omega))).mono ?_;rintro _ S2 ⟨o5,o6,rfl,a2⟩;exact ⟨t-1,by omega,n+1,o5,o6,by omega,a2,rfl⟩
 ·rintro fl S' q;cases fl with
  | nx ρ=>
   obtain ⟨x,y,z,u,v,rfl,a⟩:=q;exact Ok.nxt<|Ok.cg (za ..)<|Ok.ret ⟨rfl,a.1,a.2.2⟩
  | rt r=>exact q.elim
  | bk ρ=>exact q.elim
  | ct ρ=>exact q.elim
theorem oR {N:Nat} (h1:N<=2001) (hj:∀ j,j<N->¬ stop m j) (big:2000<(W m N).length) (k:Nat) (S:Sto):Xn (rn (k+10) pK [m.md]) S λe S2=>∃ S3,Kb S S3/\e=S3.length/\S2=S3++[.exc 4 [("word",.str "stands")]]:=by
 rw [rn,a8 (fd:=Eg) rfl,gx,jG];obtain ⟨b1,b2⟩:=ak M F S;have N0:0<N:=Nat.pos_of_ne_zero λz=>by
  subst z;have:(W m 0).length=1:=rfl;omega
 refine Xn.first<|Xn.cg (vU ..)<|Xn.eq (F.pf (k+6) S)<|Xn.eq (show newL [m.d m.s0] S=.ok (.ref S.length) (S++[.lst [m.d m.s0]]) from rfl)<|Xn.nxt<|Xn.cg (vR ..)<|Xn.eq (gQ (i:=0) (d:=m.d m.s0) (ds:=[m.d m.s0]) (by simp) rfl)<|Xn.eq b2<|Xn.nxt<|Xn.cg (vh ..)<|Xn.nxt<|Xn.cg (vV ..)<|Xn.bind (Xn.while_ (λt ρ S'=>∃ n o5 o6,n+1+t=N/\At m S S' (W m n)/\ρ=[some m.md,some (.ref S.length),some (.ref (S.length+1)),some (.int (n:Int)),o5,o6]) ?_ 10000 (N-1) _ _ (by omega) ⟨0,_,_,by omega,b1,rfl⟩);rintro t ρ S' ⟨n,o5,o6,hn,a1,rfl⟩;rw [Y6];refine Ok.eq (aP a1.1) ?_;rw [Es];have ns:=hj n (by omega);have:n<(W m n).length:=Hm λq=>ns (.inl q);refine Ok.eq (bi _ _ S')<|Ok.eq (k4 _ S')<|Ok.ret ⟨EO (by omega),?_⟩;by_cases z:n+1=N
 ·exact .inl ((cW M F ns a1 k o5 o6).1 (by rw [z];exact big))
 ·have few:(W m (n+1)).length<=2000:=FE λq=>hj (n+1) (by omega) (.inr q);refine .inr (((cW M F ns a1 k o5 o6).2 few).mono ?_);rintro _ S2 ⟨o5,o6,rfl,a2⟩;exact ⟨_,t-1,rfl,by omega,n+1,o5,o6,by omega,a2,rfl⟩
end
section
variable {m:Mc} (M:McOk m) (F:McFi m)
include M F
theorem vz {N:Nat} (hs:stop m N) (h1:N<=2001) (hj:∀ j,j<N->¬ stop m j) (k:Nat) (S:Sto):Ok (rn (k+4) zF [m.md]) S λd S'=>d=.ref S.length/\S'[S.length]?=some (.lst ((W m N).map m.d))/\Kb S S':=by
 have m6:=M.m6;rw [rn,a8 (fd:=Ei) rfl,qO,rC];obtain ⟨b1,b2⟩:=ak M F S;refine Ok.first<|Ok.cg (zr ..)<|Ok.eq (M.fi (k+1) S)<|Ok.eq (show newL [m.d m.s0] S=.ok (.ref S.length) (S++[.lst [m.d m.s0]]) from rfl)<|Ok.nxt<|Ok.cg (Ca ..)<|Ok.eq (gQ (i:=0) (d:=m.d m.s0) (ds:=[m.d m.s0]) (by simp) rfl)<|Ok.eq b2<|Ok.nxt<|Ok.cg (zQ ..)<|Ok.nxt<|Ok.cg (Af ..)<|Ok.bind ((Ok.while_ (λt ρ S'=>∃ n o5 o6,n+t=N/\At m S S' (W m n)/\ρ=[some m.md,some (.ref S.length),some (.ref (S.length+1)),some (.int (n:Int)),o5,o6]) (λρ S'=>∃ x y z u v,ρ=[x,some (.ref S.length),y,z,u,v]/\At m S S' (W m N)) (λ_ _=>False) ?_ 10000 N _ _ (by omega) ⟨0,_,_,by omega,b1,rfl⟩).mono ?_)
 ·rintro t ρ S' ⟨n,o5,o6,hn,a1,rfl⟩;rw [gf];have ln:k8 (.ref S.length) S'=.ok (.int ((W m n).length:Int)) S':=by rw [aP a1.1,Es]
  refine Ok.eq ln<|Ok.eq (bi _ _ S')<|Ok.eq (k4 _ S') ?_;by_cases z:n=N
  ·subst z;have fin:∃ x y z u v,[some m.md,some (D.ref S.length),some (.ref (S.length+1)),some (.int (n:Int)),o5,o6]=[x,some (.ref S.length),y,z,u,v]/\At m S S' (W m n):=⟨_,_,_,_,_,rfl,a1⟩;refine Ok.ite (λ_=>?_) λ_=>Ok.ret ?_
   ·refine Ok.eq ln<|Ok.eq (bi _ _ S')<|Ok.eq (k4 _ S')<|Ok.ret ?_;rename_i q;have q:n<(W m n).length:=by have:=Ge q;omega
    have:2000<(W m n).length:=by
     rcases hs with r | r
     ·omega
     ·exact r
    rw [if_neg (by rw [EX (by omega)];decide)];exact fin
   ·rw [if_neg EH];exact fin
  ·have ns:=hj n (by omega);have lt:n<(W m n).length:=Hm λq=>ns (.inl q);have l2:(W m n).length<=2000:=FE λq=>ns (.inr q);refine Ok.pos (EO (by omega))<|Ok.eq ln<|Ok.eq (bi _ _ S')<|Ok.eq (k4 _ S')<|Ok.ret ?_;rw [if_pos (EO (by omega))];obtain ⟨s,es⟩:=AC m ns;have V:=dq M n s (EY es);have ew:=W_s m es;unfold eH;rw [dz];refine Ok.first<|Ok.cg (jt ..)<|Ok.eq (M.hn (k+2) S')<|Ok.eq (U0 (n:=m.many) (by omega) _)<|Ok.bind ((Ok.loop (n:=m.many) (λi ρ S2=>At m S S2 ((k6 m s i).foldl (B4 m) (W m n))/\∃ o5 o6,ρ=[some m.md,some (.ref S.length),some (.ref (S.length+1)),some (.int (n:Int)),o5,o6]) (λρ S2 _=>K6 _ S2) ?_ ⟨a1,_,_,rfl⟩).mono ?_)
   ·rintro i ρ S2 hi ⟨a2,o5,o6,rfl⟩;refine ⟨.int (i:Int),_,T5 hi S2,rfl,?_⟩;unfold Q4;rw [V9];have fl:=(aR m (k6 m s i) (W m n)).2;have nl:=bn m s i;refine Ok.first<|Ok.cg (bA ..)<|Ok.eq (gQ a2.1 (d7 (dP m _ _ es)))<|Ok.bind ((M.lw s i k S2 V hi).mono ?_);rintro _ S3 ⟨rfl,ex⟩;have a3:=a2.ex ex;refine Ok.nxt<|Ok.cg (bE ..) ?_;cases e:m.step s i with
    | none=>
     refine Ok.eq (a:=.bl false) (S1:=S3) rfl<|Ok.eq (a:=false) rfl<|Ok.neg (by decide)<|Ok.ret ⟨_,.inl rfl,?_,_,_,rfl⟩;rw [dL,e];simpa using a3
    | some s'=>
     have Vs:=(M.go s s' i 0 [] V hi e).2;refine Ok.eq (oC M s' S3).1<|Ok.eq (a:=true) rfl<|Ok.pos rfl<|putS_ok M F Vs (EI _) (FV _) (by omega) a3.1 a3.2.1 (by omega) a3.2.2 λS4 e1 e2 kb=>Ok.ret ⟨_,.inl rfl,?_,_,_,rfl⟩;rw [dL,e,List.foldl_append];exact ⟨e1,e2,kb⟩
   ·rintro _ S2 ⟨ρ,rfl,a2,o5,o6,rfl⟩;have a2:At m S S2 (W m (n+1)):=by rw [ew];exact a2
    exact Ok.nxt<|Ok.cg (jl ..)<|Ok.eq (D6 n 1 S2)<|Ok.ret ⟨t-1,by omega,n+1,o5,o6,by omega,a2,rfl⟩
 ·rintro fl S' q;cases fl with
  | nx ρ=>
   obtain ⟨x,y,z,u,v,rfl,a⟩:=q;exact Ok.nxt<|Ok.cg (Az ..)<|Ok.ret ⟨rfl,a.1,a.2.2⟩
  | rt r=>exact q.elim
  | bk ρ=>exact q.elim
  | ct ρ=>exact q.elim
end
theorem vJ {S:Sto} {n:Nat} {ds:List D} (e:S[n]?=some (.lst ds)):(∀ k,i5 (k+1) S (.ref n)=i5 (k+1) S (.lst ds))/\u8 (.ref n) S=u8 (.lst ds) S:=by
 have:∀ k,i5 (k+1) S (.ref n)=i5 (k+1) S (.lst ds):=λk=>by simp only [i5,e]
 refine ⟨this,?_⟩;unfold u8;rw [this 63]
theorem O7 {N:Nat} {d:D} (h:Sml 6 N d) (hN:N<=16777216) (S:Sto):u8 d S=.ok (.str (py d).shown) S:=by
 obtain ⟨a,b,c⟩:=cy (j:=0) (by omega) d h.pl;have e:=cN S d 64 h.pl (by have:=h.dp;omega);have e2:u8 d S=(match i5 64 S d with
  | some p=>(if Shows p then ret (D.str p.shown) else bad) S
  | none=>.bad):=rfl
 rw [e2,e];show (if Shows (py d) then ret (D.str (py d).shown) else bad) S=_;rw [if_pos ⟨a,b,by have:=O5 d;have:=h.dp;omega,by have:=h.sz;rw [Fj];omega⟩];rfl
theorem cv {n:Nat} {S:Sto} (e:S[n]?=some (.exc 4 [("word",.str "stands")])) (k:Nat):Ok (rn (k+1) xO [.ref n]) S λd S'=>d=.tup [.str "many",.str "stands"]/\Ex S S':=by
 have hn:n<S.length:=(Et.mp e).1;have eo:∀ o:O,(S++[o])[n]?=some (.exc 4 [("word",.str "stands")]):=λo=>by rw [EJ hn];exact e
 have ef:∀ o:O,(S++[o])[S.length]?=some o:=λo=>by simp
 have i:∀ (o:O) sx,u6 sx (.ref n) (S++[o])=.ok (.bl (sx 4)) (S++[o]):=λo sx=>by simp only [u6,eo o]
 rw [rn,a8 (fd:=Eh) rfl,uC,uR];refine Ok.first<|Ok.cg (Br ..)<|Ok.eq (show newL [] S=.ok (.ref S.length) (S++[.lst []]) from rfl)<|Ok.nxt<|Ok.cg (Bj ..)<|Ok.eq (i _ _)<|Ok.eq rfl<|Ok.neg (by decide)<|Ok.nxt<|Ok.cg (Bc ..)<|Ok.eq (i _ _)<|Ok.eq rfl<|Ok.neg (by decide)<|Ok.nxt<|Ok.cg (Aa ..)<|Ok.eq (i _ _)<|Ok.eq rfl<|Ok.pos (by decide)<|Ok.eq (pQ (ef _))<|Ok.eq (a:=.str "stands") (S1:=S++[.lst []]) (by simp only [dN,eo];rfl)<|Ok.eq (mz (ef _) (by show 0<sizeLine;decide)) ?_;rw [ir];exact Ok.nxt<|Ok.cg (Cb ..)<|Ok.eq (i _ _)<|Ok.eq rfl<|Ok.neg (by decide)<|Ok.eq (i _ _)<|Ok.eq rfl<|Ok.neg (by decide)<|Ok.nxt<|Ok.cg (CP ..)<|Ok.eq (aP (ef _))<|Ok.eq (a:=.bl true) rfl<|Ok.eq rfl<|Ok.pos rfl<|Ok.eq (gQ (i:=0) (ef _) rfl)<|Ok.ret ⟨rfl,_,rfl⟩
section
variable {m:Mc} (M:McOk m) (F:McFi m)
include M F
def u5 (m:Mc) (s:m.σ):Bool:=((List.range m.many).filter λj=>(m.step s j).isSome).isEmpty
theorem pH {s:m.σ} (V:m.ok s) (k:Nat) (S:Sto):Ok (bind (rn (k+8) oy [m.md,m.d s]) λx4=>bind (v1 x4) λz5=>ret (!z5)) S λb S'=>b=u5 m s/\Ex S S':=by
 refine Ok.bind ((oG M F V k S).mono ?_);rintro _ S1 ⟨rfl,ex⟩;refine Ok.eq (a:=!u5 m s) (S1:=S1) ?_<|Ok.ret ⟨by rw [Bool.not_not],ex⟩;unfold u5;cases (List.range m.many).filter λj=>(m.step s j).isSome <;> rfl
theorem iC {st:List m.σ} (hst:∀ s∈st,m.ok s) (h2:st.length<=2000) {p:Nat} {S:Sto} (e:S[p]?=some (.lst (st.map m.d))) {t:D->L3.M Bool} (ht:∀ s S',m.ok s->Ok (t (m.d s)) S' λb S2=>b=u5 m s/\Ex S' S2) :
  Ok (j0 (gA p) t (λd=>ret d) (st.length+1) 0 []) S λes S'=>es=(st.filter (u5 m)).map m.d/\Ex S S':=by
 refine (Ok.comp (n:=st.length) (λi S' es=>Ex S S'/\es=((st.take i).filter (u5 m)).map m.d) (λS' es h=>?_) ?_ ⟨P2 S,rfl⟩).mono ?_
 ·have:=h.1.at (Et.mp e).1;exact (vW (this.trans e) _).trans (by simp)
 ·rintro i S' es hi ⟨ex,rfl⟩;have ei:st[i]?=some st[i]:=Ez hi;have V:=hst _ (FI hi);generalize st[i]=s at ei V;have e':=(ex.at (Et.mp e).1).trans e;refine ⟨m.d s,(vW e' i).trans (by rw [d7 ei]),(ht s S' V).mono ?_⟩;rintro b S2 ⟨rfl,ex2⟩;have tk:st.take (i+1)=st.take i++[s]:=by rw [List.take_add_one,ei];rfl
  cases q:u5 m s with
  | true=>
   rw [if_pos rfl];refine Ok.ret ⟨?_,B9 ex ex2,?_⟩
   ·rw [Es,Fj];have:=Ft (u5 m) (st.take i);rw [FW] at this;omega
   ·rw [tk,FD,FQ];simp [q]
  | false=>
   rw [if_neg EH];refine ⟨B9 ex ex2,?_⟩;rw [tk,FD,FQ];simp [q]
 ·rintro es S' ⟨ex,rfl⟩;rw [Hl];exact ⟨rfl,ex⟩
variable {N:Nat} (hs:stop m N) (h1:N<=2001) (hj:∀ j,j<N->¬ stop m j)
include hs h1 hj
theorem pr (few:(W m N).length<=2000) (k:Nat) (S:Sto):Ok (rn (k+11) jQ [m.md]) S λd S'=>∃ p,d=.ref p/\S.length<=p/\S'[p]?=some (.lst (((W m N).filter (u5 m)).map m.d))/\Kb S S':=by
 rw [rn,a8 (fd:=cG) rfl,fJ];refine Ok.bind ((tT M F hs h1 hj few k S).mono ?_);rintro _ S1 ⟨rfl,e,kb⟩;refine Ok.eq (a:=(gA S.length,(W m N).length+1)) (S1:=S1) (by simp only [N5,e,Es])<|nx_bind<|(iC M F (dq M N) few e λs S' V=>pH M F V (k+2) S').mono ?_;rintro _ S2 ⟨rfl,ex⟩;have kb2:=kb.ex ex;have le:(((W m N).filter (u5 m)).map m.d).length<=sizeLine:=by
  rw [Es,Fj];have:=Ft (u5 m) (W m N);omega
 exact Ok.eq (S1:=S2++[.lst (((W m N).filter (u5 m)).map m.d)]) (a:=.ref S2.length) (by simp only [newL,if_pos le])<|Ok.ret ⟨S2.length,rfl,kb2.1,by simp,kb2.ex ⟨_,rfl⟩⟩
omit hs in
theorem ji (big:2000<(W m N).length) (k:Nat) (S:Sto):Xn (rn (k+11) jQ [m.md]) S λe S2=>∃ S3,Kb S S3/\e=S3.length/\S2=S3++[.exc 4 [("word",.str "stands")]]:=by
 rw [rn,a8 (fd:=cG) rfl,fJ];exact Xn.bind (oR M F h1 hj big k S)
theorem dg (few:(W m N).length<=2000) (k:Nat) (S:Sto):Ok (rn (k+12) oM [m.md]) S λd S'=>∃ p,d=.ref p/\S.length<=p/\S'[p]?=some (.lst (((W m N).filter (u5 m)).map m.d))/\Kb S S':=by
 rw [rn,a8 (fd:=Ej) rfl,iu,iQ];refine Ok.first (Ok.cg (vg ..) (Ok.nxt (Ok.cg (vp ..) (Ok.bind (Ok.try_ ?_)))));rw [ar];refine Ok.bind ((pr M F hs h1 hj few k S).mono ?_);rintro _ S1 ⟨p,rfl,hp,e,kb⟩;exact Ok.ret<|Ok.nxt<|Ok.cg (uX ..)<|Ok.ret ⟨p,rfl,hp,e,kb⟩
omit hs in
theorem kZ (big:2000<(W m N).length) (k:Nat) (S:Sto):Ok (rn (k+12) oM [m.md]) S λd S'=>d=.tup [.str "many",.str "stands"]/\Kb S S':=by
 rw [rn,a8 (fd:=Ej) rfl,iu,iQ];refine Ok.first (Ok.cg (vg ..) (Ok.nxt (Ok.cg (vp ..) (Ok.bind (Ok.caught ?_)))));rw [ar];refine Xn.bind ((ji M F h1 hj big k S).mono ?_);rintro n _ ⟨S3,kb,rfl,rfl⟩;refine ⟨4,[("word",.str "stands")],by simp,rfl,?_⟩;unfold ou;rw [eO];refine Ok.first<|Ok.cg (jT ..)<|nx_bind<|(cv (by simp) (k+10)).mono ?_;rintro _ S4 ⟨rfl,ex⟩;exact Ok.ret<|Ok.nxt<|Ok.cg (uX ..)<|Ok.ret ⟨rfl,(kb.ex ⟨_,rfl⟩).ex ex⟩
end
theorem tH (ns:List Int) (i:Nat) (hi:i<5) (S:Sto) (k:Nat):∃ ms:List Int,rn (k+1) yj [.scr (ns.map D.int),.int (i:Int)] S=.ok (.ref S.length) (S++[k5 ms i 0 (17 * i)]):=by
 obtain ⟨ms,em⟩:=mw ns;refine ⟨ms,?_⟩;rw [rn,a8 (fd:=lW) rfl,rj,a9 (show slD (.scr (ns.map D.int)) none (some 63) S=.ok (.lst (F8 (ns.map D.int) none (some 63))) S from rfl),em];have:i=0\/i=1\/i=2\/i=3\/i=4:=by omega
 rcases this with rfl | rfl | rfl | rfl | rfl <;> kernel_rfl
theorem dA {gs:List Int} (G:jb gs 4) {j:Nat} (h:j<=4):jb (gs.take j) j:=by
 refine ⟨by rw [FW,G.1];omega,λg hg=>G.2.1 g (List.mem_of_mem_take hg),G.2.2.sublist (List.take_sublist ..)⟩
theorem vw {gs:List Int} (G:jb gs 4) {j:Nat} (h:j<=4) (S:Sto):slD (.tup (gs.map D.int)) none (some (j:Int)) S=.ok (.tup ((gs.take j).map D.int)) S:=by
 show R.ok (D.tup (F8 (gs.map D.int) none (some (j:Int)))) S=_;rw [Z0 (by rw [Es,G.1];exact h),Ia]
theorem lP {ns:List Int} {p K:Nat} {S:Sto} (Fw0:Fw ns p 40 S) (h0:0<K) (h19:K<=19) (k:Nat):Ok (rn (k+3) yL [.ref p,.int (K:Int)]) S λd _=>∃ m,McOk m/\McFi m/\d=m.md:=by
 rw [rn,a8 (fd:=oV) rfl,uH];refine Ok.bind ((kF (N:=20) (m:=4) Fw0 (by omega) k).mono ?_);rintro _ S1 ⟨F1,gs,rfl,G⟩;refine Ok.eq (vw G (j:=1) (by omega) S1)<|Ok.eq (vw G (j:=2) (by omega) S1)<|Ok.eq (vw G (j:=3) (by omega) S1) ?_;have g1:=dA G (j:=1) (by omega);have g2:=dA G (j:=2) (by omega);have g3:=dA G (j:=3) (by omega);refine Ok.eq rfl<|Ok.eq rfl<|Ok.eq rfl<|Ok.bind ((L0 (N:=10) (m:=K) (F1.less (by omega)) h0 (by omega) (k+1)).mono ?_);rintro _ S2 ⟨r,rfl,hr,F2,_,_⟩;have:r=0\/r=1\/r=2\/r=3\/r=4\/r=5\/r=6\/r=7\/r=8\/r=9\/r=10\/r=11\/r=12\/r=13\/r=14\/r=15\/r=16\/r=17\/r=18:=by omega
 rcases this with rfl | rfl | rfl | rfl | rfl | rfl | rfl | rfl | rfl | rfl | rfl | rfl | rfl | rfl | rfl | rfl | rfl | rfl | rfl
 ·exact Ok.eq (D3 (i:=0) S2 rfl)<|Ok.ret ⟨bJ 1,X5 (by decide) (by decide),cV (by decide) (by decide),rfl⟩
 ·exact Ok.eq (D3 (i:=1) S2 rfl)<|Ok.ret ⟨bJ 2,X5 (by decide) (by decide),cV (by decide) (by decide),rfl⟩
 ·exact Ok.eq (D3 (i:=2) S2 rfl)<|Ok.ret ⟨bJ 3,X5 (by decide) (by decide),cV (by decide) (by decide),rfl⟩
 ·exact Ok.eq (D3 (i:=3) S2 rfl)<|Ok.ret ⟨T9 1 1,E3 (by decide) (by decide) (by decide) (by decide),O0 (by decide) (by decide) (by decide) (by decide),rfl⟩
 ·exact Ok.eq (D3 (i:=4) S2 rfl)<|Ok.ret ⟨T9 2 1,E3 (by decide) (by decide) (by decide) (by decide),O0 (by decide) (by decide) (by decide) (by decide),rfl⟩
 ·exact Ok.eq (D3 (i:=5) S2 rfl)<|Ok.ret ⟨T9 2 2,E3 (by decide) (by decide) (by decide) (by decide),O0 (by decide) (by decide) (by decide) (by decide),rfl⟩
 ·exact Ok.eq (D3 (i:=6) S2 rfl)<|Ok.ret ⟨T9 3 2,E3 (by decide) (by decide) (by decide) (by decide),O0 (by decide) (by decide) (by decide) (by decide),rfl⟩
 ·exact Ok.eq (D3 (i:=7) S2 rfl)<|Ok.ret ⟨X8 (gs.take 1) 1,X3 (by decide) (by decide) g1,cR (by decide) (by decide) g1.1,rfl⟩
 ·exact Ok.eq (D3 (i:=8) S2 rfl)<|Ok.ret ⟨X8 (gs.take 2) 2,X3 (by decide) (by decide) g2,cR (by decide) (by decide) g2.1,rfl⟩
 ·exact Ok.eq (D3 (i:=9) S2 rfl)<|Ok.ret ⟨X8 (gs.take 3) 3,X3 (by decide) (by decide) g3,cR (by decide) (by decide) g3.1,rfl⟩
 ·exact Ok.eq (D3 (i:=10) S2 rfl)<|Ok.ret ⟨bH 1,W4 (by decide) (by decide),dJ (by decide) (by decide),rfl⟩
 ·exact Ok.eq (D3 (i:=11) S2 rfl)<|Ok.ret ⟨bH 2,W4 (by decide) (by decide),dJ (by decide) (by decide),rfl⟩
 ·exact Ok.eq (D3 (i:=12) S2 rfl)<|Ok.ret ⟨bH 3,W4 (by decide) (by decide),dJ (by decide) (by decide),rfl⟩
 ·exact Ok.eq (D3 (i:=13) S2 rfl)<|Ok.ret ⟨T9 5 1,E3 (by decide) (by decide) (by decide) (by decide),O0 (by decide) (by decide) (by decide) (by decide),rfl⟩
 ·exact Ok.eq (D3 (i:=14) S2 rfl)<|Ok.ret ⟨bJ 4,X5 (by decide) (by decide),cV (by decide) (by decide),rfl⟩
 ·exact Ok.eq (D3 (i:=15) S2 rfl)<|Ok.ret ⟨T9 3 3,E3 (by decide) (by decide) (by decide) (by decide),O0 (by decide) (by decide) (by decide) (by decide),rfl⟩
 ·exact Ok.eq (D3 (i:=16) S2 rfl)<|Ok.ret ⟨T9 4 2,E3 (by decide) (by decide) (by decide) (by decide),O0 (by decide) (by decide) (by decide) (by decide),rfl⟩
 ·exact Ok.eq (D3 (i:=17) S2 rfl)<|Ok.ret ⟨X8 gs 4,X3 (by decide) (by decide) G,cR (by decide) (by decide) G.1,rfl⟩
 ·exact Ok.eq (D3 (i:=18) S2 rfl)<|Ok.ret ⟨bH 4,W4 (by decide) (by decide),dJ (by decide) (by decide),rfl⟩
theorem ph {m:Mc} (M:McOk m) {s:m.σ} (V:m.ok s) (k:Nat) (S:Sto):Ok (rn (k+4) wg [m.md,m.d s]) S λd S'=>d=.bl (u5 m s)/\Ex S S':=by
 have m6:=M.m6;rw [rn,a8 (fd:=mO) rfl,sk];refine nx_bind<|Ok.eq (M.hn (k+2) S)<|Ok.eq (U0 (n:=m.many) (by omega) _) ((Ok.comp (n:=m.many) (λi S' es=>Ex S S'/\es=(((List.range i).filter λj=>(m.step s j).isSome).map λ(j:Nat)=>(j:Int)).map D.int) (λS' es _=>K6 _ S') ?_ ⟨P2 S,rfl⟩).mono ?_)
 ·rintro i S' es hi ⟨ex,rfl⟩;refine ⟨.int (i:Int),T5 hi S',Ok.bind ((M.lw s i k S' V hi).mono ?_)⟩;rintro _ S2 ⟨rfl,ex2⟩;have le:((((List.range i).filter λj=>(m.step s j).isSome).map λ(j:Nat)=>(j:Int)).map D.int).length<sizeLine:=by
   rw [Es,Es,Fj];have:=Ft (λj=>(m.step s j).isSome) (List.range i);rw [Gf] at this;omega
  cases e:m.step s i with
  | none=>
   refine Ok.eq (a:=.bl false) (S1:=S2) rfl<|Ok.eq (a:=false) rfl<|Ok.ret ?_;rw [if_neg EH];exact ⟨B9 ex ex2,by rw [Gq,FD];simp [e]⟩
  | some s'=>
   refine Ok.eq (oC M s' S2).1<|Ok.eq (a:=true) rfl<|Ok.ret ?_;rw [if_pos rfl];exact Ok.ret ⟨le,B9 ex ex2,by rw [Gq,FD];simp [e]⟩
 ·rintro es S' ⟨ex,rfl⟩;refine Ok.eq (tU _ [] S')<|Ok.ret ⟨?_,ex⟩;unfold u5;cases (List.range m.many).filter λj=>(m.step s j).isSome <;> rfl
theorem cw (x:Str) (S:Sto):c8 .NotEq (.str x) (.str x) S=.ok (.bl false) S:=by
 show R.ok (D.bl (!decide (x=x))) S=_;rw [EO rfl];rfl
theorem oi {m:Mc} (M:McOk m) (F:McFi m) (ns:List Int) (i:Nat) (o3 o5 o6 o7:Option D) (S:Sto) :
  Ok (nxt (evK Rs Γ (rn 12) 39) D2 [nth d8 2,nth d8 3,nth d8 4,nth d8 5,nth d8 6,nth d8 7] ret (.nx [some (.scr (ns.map D.int)),some (.int (i:Int)),o3,some m.md,o5,o6,o7])) S λfl _=>∃ o3 o4 o5 o6 o7,fl=.nx [some (.scr (ns.map D.int)),some (.int (i:Int)),o3,o4,o5,o6,o7]:=by
 obtain ⟨N,hs,h1,hj⟩:=tB m;refine Ok.nxt<|Ok.cg (ke ..)<|Ok.bind ((vz M F hs h1 hj 8 S).mono ?_);rintro _ S1 ⟨rfl,e1,kb1⟩;refine Ok.nxt<|Ok.cg (kM ..)<|Ok.nxt<|Ok.cg (js ..)<|Ok.eq (aP e1) ?_;rw [Es];refine Ok.eq (bi _ _ S1)<|Ok.eq (k4 _ S1) ?_;by_cases big:2000<(W m N).length
 ·refine Ok.neg (by rw [EX (by omega)];decide)<|Ok.nxt<|Ok.cg (cA ..)<|Ok.bind ((kZ M F h1 hj big 0 S1).mono ?_);rintro _ S2 ⟨rfl,kb2⟩;have rp:u8 (.tup [.str "many",.str "stands"]) S2=.ok (.str (py (.tup [.str "many",.str "stands"])).shown) S2:=(Sml.w (n:=1) (N:=200)).repr (S:=S2);refine Ok.nxt<|Ok.cg (bc ..)<|Ok.eq rp<|Ok.eq rp<|Ok.eq (cw _ S2)<|Ok.eq (a:=false) rfl<|Ok.neg (by decide)<|Ok.nxt<|Ok.cg (bg ..)<|Ok.eq (O9 _ _ S2)<|Ok.eq (k4 _ S2)<|Ok.ite (λ_=>?_) λ_=>Ok.ret ⟨_,_,_,_,_,rfl⟩;exact Ok.eq (a:=.bl false) (S1:=S2) rfl<|Ok.eq (a:=false) rfl<|Ok.neg (by decide)<|Ok.ret ⟨_,_,_,_,_,rfl⟩
 ·have few:(W m N).length<=2000:=by omega
  refine Ok.pos (EO (by omega))<|nx_bind<|Ok.eq (a:=(gA S.length,(W m N).length+1)) (S1:=S1) (by simp only [N5,e1,Es])<|(iC M F (dq M N) few e1 λs S' V=>(Ok.bind ((ph M V 8 S').mono λd S2 h=>by rw [h.1];exact Ok.eq (a:=u5 m s) rfl<|Ok.ret ⟨rfl,h.2⟩))).mono ?_;rintro _ S2 ⟨rfl,ex2⟩;have sm:Sml 6 16004003 (.lst (((W m N).filter (u5 m)).map m.d)):=Sml.lst (n:=5) (N:=8000) (m:=2000) (Smls.map λs hs'=>M.sm s (dq M N s (GN.mp hs').1)) (by rw [Es];exact Fk (Ft ..) few);refine Ok.nxt<|Ok.cg (cA ..)<|Ok.bind ((dg M F hs h1 hj few 0 S2).mono ?_);rintro _ S3 ⟨p,rfl,hp,e3,kb3⟩;have r1:=(vJ e3).2.trans (O7 sm (by decide) S3);refine Ok.nxt<|Ok.cg (bc ..)<|Ok.eq r1<|Ok.eq (O7 sm (by decide) S3)<|Ok.eq (cw _ S3)<|Ok.eq (a:=false) rfl<|Ok.neg (by decide)<|Ok.nxt<|Ok.cg (bg ..)<|Ok.eq (O9 _ _ S3)<|Ok.eq (k4 _ S3)<|Ok.ite (λ_=>?_) λ_=>Ok.ret ⟨_,_,_,_,_,rfl⟩;refine Ok.eq (a:=.bl true) (S1:=S3) (by simp only [dZ,tyD,e3];rfl)<|Ok.eq (a:=true) rfl<|Ok.pos rfl<|Ok.eq (ED e3) ?_;generalize S3.set p (O.lst [])=S4;refine Ok.bind ((dg M F hs h1 hj few 0 S4).mono ?_);rintro _ S5 ⟨p5,rfl,hp5,e5,kb5⟩;have r2:=(vJ e5).2.trans (O7 sm (by decide) S5);exact Ok.eq r2<|Ok.eq (O7 sm (by decide) S5)<|Ok.eq (cw _ S5)<|Ok.eq (a:=false) rfl<|Ok.neg (by decide)<|Ok.ret ⟨_,_,_,_,_,rfl⟩
theorem wU (ns:List Int):∃ S',rn 13 nG [.scr (ns.map D.int)] []=.ok (.bl true) S':=by
 suffices h:Ok (rn 13 nG [.scr (ns.map D.int)]) [] λd _=>d=.bl true by
  obtain ⟨d,S',e,rfl⟩:=h;exact ⟨S',e⟩
 rw [rn,a8 (fd:=law_F) rfl,tG,tX];refine Ok.first<|Ok.cg (CL ..)<|Ok.eq (U0 (n:=2) (by omega) _)<|Ok.bind ((Ok.loop (n:=2) (λi ρ _=>∃ (o2 o3 o4 o5 o6 o7:Option D),ρ=[some (.scr (ns.map D.int)),o2,o3,o4,o5,o6,o7]) (λρ S' _=>K6 2 S') ?_ ⟨_,_,_,_,_,_,rfl⟩).mono ?_)
 ·rintro i ρ S hi ⟨o2,o3,o4,o5,o6,o7,rfl⟩;refine ⟨.int (i:Int),_,T5 hi S,rfl,?_⟩;unfold eZ;rw [de];obtain ⟨ms,ew⟩:=tH ns i (by omega) S 11;have F0:Fw ms S.length 40 (S++[k5 ms i 0 (17 * i)]):=⟨i,0,17 * i,by simp,by omega,by omega,by omega,by omega⟩;refine Ok.first<|Ok.cg (kj ..)<|Ok.eq ew ?_;generalize S++[k5 ms i 0 (17 * i)]=S1 at F0;obtain ⟨K,k0,k19,ek⟩:∃ K:Nat,0<K/\K<=19/\ixD (.lst [.int 19,.int 14]) (.int (i:Int)) S1=.ok (.int (K:Int)) S1:=by
   have:i=0\/i=1:=by omega
   rcases this with rfl | rfl
   ·exact ⟨19,by decide,by decide,rfl⟩
   ·exact ⟨14,by decide,by decide,rfl⟩
  refine Ok.nxt<|Ok.cg (jp ..)<|Ok.eq ek<|Ok.bind ((lP F0 k0 k19 9).mono ?_);rintro _ S2 ⟨m,M,F,rfl⟩;refine (oi M F ns i _ _ _ _ S2).mono ?_;rintro _ S3 ⟨o3,o4,o5,o6,o7,rfl⟩;exact ⟨_,.inl rfl,_,_,_,_,_,_,rfl⟩
 ·rintro _ S' ⟨ρ,rfl,o2,o3,o4,o5,o6,o7,rfl⟩;exact Ok.nxt<|Ok.cg (BY ..)<|Ok.ret rfl
end L3.K35
namespace L3.K35
open PySem L2 Hn
abbrev iHE:Stmt:=K8 (top 1) 0
abbrev iNS:Stmt:=K8 (top 2) 0
abbrev iNP:Stmt:=K8 (top 3) 0
abbrev iND:Stmt:=K8 (top 4) 0
abbrev iTM:Stmt:=K8 (top 5) 0
abbrev iNT:Stmt:=K8 (top 6) 0
section
variable {P:Program} {w:World} {K:PySem.W.Frag} {mg:Str->Option Value} {base:Heap} {f fB B:Addr} {fd fdB:FuncData}
theorem Dc:FnScope ["self","text"] ["self","text"] (b8 iHE):=⟨rfl,rfl,rfl,by decide +kernel,rfl,by decide +kernel,by decide +kernel⟩
theorem bP (F:Fun K "__init__" "HandError.__init__" iHE f fd) (T:TxE K mg B fB):FnOk P w K mg base CX0 1 f fd ["self","text"] (spHE K):=by
 refine F.ok Dc (λvs H Q E h=>?_) (λc A a s H vs Q E e h=>?_)
 ·obtain ⟨x,y,C,d,rfl,_⟩:=h;rfl
 ·obtain ⟨x,y,C,d,rfl,M,b,k⟩:=h;refine ⟨_,K4 (E2 (kt rfl T.mV T.fV (f8 (pv 0) (f8 (pv 1) y4)))),?_⟩;exact ⟨_,rfl,_,rfl,x,C,d,y,rfl,M,b,k⟩
theorem Dh:FnScope ["self","hand"] ["self","hand"] (b8 iNS):=⟨rfl,rfl,rfl,by decide +kernel,rfl,by decide +kernel,by decide +kernel⟩
theorem Ax (F:Fun K "__init__" "NoStep.__init__" iNS f fd) (T:TxE K mg B fB) (t:Fun K "__init__" "HandError.__init__" iHE fB fdB) (r:Binds K fdB ["self","text"] []):FnOk P w K mg base CX0 2 f fd ["self","hand"] (sp1 K "hand"):=by
 have G:FnOk P w K mg base CX0 1 fB fdB ["self","text"] (spHE K):=bP t T;refine F.ok Dh (λvs H Q E h=>?_) (λj A e s H vs Q E g h=>?_)
 ·obtain ⟨x,v,C,l,rfl,_⟩:=h;rfl
 ·obtain ⟨x,v,C,l,rfl,M,o,c,a,k⟩:=h;have n:(A.deeper (PyProof.Rows.envOfC "NoStep.__init__" (b8 iNS) s.heap.objs.size f j)).units+80<cLine:=by have:=g.un;omega
  refine ⟨_,u4 (E2 (G1 rfl T.mB T.sB T.rB T.cB T.kB G g r U3 (f8 (pv 0) (f8 (P7 (A3 (E8 g.gd n (pv 1) (A3 Q3))) (by decide)) y4))))
   (K4 (E7 (pv 0) (pv 1) rfl)),?_⟩
  refine ⟨_,rfl,_,rfl,l,a.at_,a.sh,a.l1,a.l2,λz hz=>?_⟩;refine ⟨x,.str z,C,none,rfl,M,c,?_⟩;refine ⟨_,rfl,_,rfl,x,C,rfl,M,o,.inl ⟨c,λd hd=>?_⟩⟩;have m:d≠x:=λq=>by rw [q,c] at hd;cases hd
  exact k _ ⟨d,hd,m,b6,by rw [a7 m,b6],λb p i=>by rw [a7 p,a7 i]⟩
theorem Dy:FnScope ["self","word","at"] ["self","word","at"] (b8 iNP):=⟨rfl,rfl,rfl,by decide +kernel,rfl,by decide +kernel,by decide +kernel⟩
theorem AW (F:Fun K "__init__" "NoPaper.__init__" iNP f fd) (T:TxE K mg B fB) (I:Fun K "__init__" "HandError.__init__" iHE fB fdB) (D:Binds K fdB ["self","text"] []):FnOk P w K mg base CX0 2 f fd ["self","word","at"] (sp2 K "word" "at"):=by
 have G:FnOk P w K mg base CX0 1 fB fdB ["self","text"] (spHE K):=bP I T;refine F.ok Dy (λvs H Q E h=>?_) (λm A j s H vs Q E e h=>?_)
 ·obtain ⟨x,v,u,C,o,p,rfl,_⟩:=h;rfl
 ·obtain ⟨x,v,u,C,o,p,rfl,M,r,t,l,g,c,k⟩:=h;have n:(A.deeper (PyProof.Rows.envOfC "NoPaper.__init__" (b8 iNP) s.heap.objs.size f m)).units+80<cLine:=by have:=e.un;omega
  refine ⟨_,u4 (E2 (G1 rfl T.mB T.sB T.rB T.cB T.kB G e D U3 (f8 (pv 0) (f8 (P7 (A3 (E8 e.gd n (pv 1) (A3 (E8 e.gd n (pv 2) Q3)))) (by decide)) y4))))
   (u4 (E7 (pv 0) (pv 1) rfl) (K4 (E7 (pv 0) (pv 2) rfl))),?_⟩
  refine ⟨_,rfl,_,rfl,o,g.at_,g.sh,g.l1,g.l2,_,rfl,p,c.at_,c.sh,c.l1,c.l2,λz hz=>?_⟩;refine ⟨x,.str z,C,none,rfl,M,l,?_⟩;refine ⟨_,rfl,_,rfl,x,C,rfl,M,r,.inl ⟨l,λd hd=>?_⟩⟩;have i:d≠x:=λq=>by rw [q,l] at hd;cases hd
  refine ⟨_,rfl,_,rfl,x,C,rfl,M,t,.inr ⟨d,_,i,b6,by rw [a7 i,b6],by show 1<900;decide,?_⟩⟩;refine k _ ⟨d,hd,i,by rw [a7 i.symm,b6],by rw [b6,jC],λb y a=>by rw [a7 a,a7 y,a7 a]⟩
theorem Dz:FnScope ["self","word","at"] ["self","word","at"] (b8 iND):=⟨rfl,rfl,rfl,by decide +kernel,rfl,by decide +kernel,by decide +kernel⟩
theorem BD (F:Fun K "__init__" "NoStand.__init__" iND f fd) (T:TxE K mg B fB) (I:Fun K "__init__" "HandError.__init__" iHE fB fdB) (D:Binds K fdB ["self","text"] []):FnOk P w K mg base CX0 2 f fd ["self","word","at"] (sp2 K "word" "at"):=by
 have G:FnOk P w K mg base CX0 1 fB fdB ["self","text"] (spHE K):=bP I T;refine F.ok Dz (λvs H Q E h=>?_) (λm A j s H vs Q E e h=>?_)
 ·obtain ⟨x,v,u,C,o,p,rfl,_⟩:=h;rfl
 ·obtain ⟨x,v,u,C,o,p,rfl,M,r,t,l,g,c,k⟩:=h;have n:(A.deeper (PyProof.Rows.envOfC "NoStand.__init__" (b8 iND) s.heap.objs.size f m)).units+80<cLine:=by have:=e.un;omega
  refine ⟨_,u4 (E2 (G1 rfl T.mB T.sB T.rB T.cB T.kB G e D U3 (f8 (pv 0) (f8 (P7 (A3 (E8 e.gd n (pv 1) (A3 (E8 e.gd n (pv 2) Q3)))) (by decide)) y4))))
   (u4 (E7 (pv 0) (pv 1) rfl) (K4 (E7 (pv 0) (pv 2) rfl))),?_⟩
  refine ⟨_,rfl,_,rfl,o,g.at_,g.sh,g.l1,g.l2,_,rfl,p,c.at_,c.sh,c.l1,c.l2,λz hz=>?_⟩;refine ⟨x,.str z,C,none,rfl,M,l,?_⟩;refine ⟨_,rfl,_,rfl,x,C,rfl,M,r,.inl ⟨l,λd hd=>?_⟩⟩;have i:d≠x:=λq=>by rw [q,l] at hd;cases hd
  refine ⟨_,rfl,_,rfl,x,C,rfl,M,t,.inr ⟨d,_,i,b6,by rw [a7 i,b6],by show 1<900;decide,?_⟩⟩;refine k _ ⟨d,hd,i,by rw [a7 i.symm,b6],by rw [b6,jC],λb y a=>by rw [a7 a,a7 y,a7 a]⟩
theorem DN:FnScope ["self","word"] ["self","word"] (b8 iTM):=⟨rfl,rfl,rfl,by decide +kernel,rfl,by decide +kernel,by decide +kernel⟩
theorem BB (F:Fun K "__init__" "TooMany.__init__" iTM f fd) (T:TxE K mg B fB) (t:Fun K "__init__" "HandError.__init__" iHE fB fdB) (r:Binds K fdB ["self","text"] []):FnOk P w K mg base CX0 2 f fd ["self","word"] (sp1 K "word"):=by
 have G:FnOk P w K mg base CX0 1 fB fdB ["self","text"] (spHE K):=bP t T;refine F.ok DN (λvs H Q E h=>?_) (λj A e s H vs Q E g h=>?_)
 ·obtain ⟨x,v,C,l,rfl,_⟩:=h;rfl
 ·obtain ⟨x,v,C,l,rfl,M,o,c,a,k⟩:=h;have n:(A.deeper (PyProof.Rows.envOfC "TooMany.__init__" (b8 iTM) s.heap.objs.size f j)).units+80<cLine:=by have:=g.un;omega
  refine ⟨_,u4 (E2 (G1 rfl T.mB T.sB T.rB T.cB T.kB G g r U3 (f8 (pv 0) (f8 (P7 (A3 (E8 g.gd n (pv 1) Q3)) (by decide)) y4))))
   (K4 (E7 (pv 0) (pv 1) rfl)),?_⟩
  refine ⟨_,rfl,_,rfl,l,a.at_,a.sh,a.l1,a.l2,λz hz=>?_⟩;refine ⟨x,.str z,C,none,rfl,M,c,?_⟩;refine ⟨_,rfl,_,rfl,x,C,rfl,M,o,.inl ⟨c,λd hd=>?_⟩⟩;have m:d≠x:=λq=>by rw [q,c] at hd;cases hd
  exact k _ ⟨d,hd,m,b6,by rw [a7 m,b6],λb p i=>by rw [a7 p,a7 i]⟩
theorem DD:FnScope ["self","type_here"] ["self","type_here"] (b8 iNT):=⟨rfl,rfl,rfl,by decide +kernel,rfl,by decide +kernel,by decide +kernel⟩
theorem zV (F:Fun K "__init__" "NoType.__init__" iNT f fd) (T:TxE K mg B fB) (t:Fun K "__init__" "HandError.__init__" iHE fB fdB) (r:Binds K fdB ["self","text"] []):FnOk P w K mg base CX0 2 f fd ["self","type_here"] (sp1 K "type_here"):=by
 have G:FnOk P w K mg base CX0 1 fB fdB ["self","text"] (spHE K):=bP t T;refine F.ok DD (λvs H Q E h=>?_) (λj A e s H vs Q E g h=>?_)
 ·obtain ⟨x,v,C,l,rfl,_⟩:=h;rfl
 ·obtain ⟨x,v,C,l,rfl,M,o,c,a,k⟩:=h;have n:(A.deeper (PyProof.Rows.envOfC "NoType.__init__" (b8 iNT) s.heap.objs.size f j)).units+80<cLine:=by have:=g.un;omega
  refine ⟨_,u4 (E2 (G1 rfl T.mB T.sB T.rB T.cB T.kB G g r U3 (f8 (pv 0) (f8 (P7 (A3 (E8 g.gd n (pv 1) Q3)) (by decide)) y4))))
   (K4 (E7 (pv 0) (pv 1) rfl)),?_⟩
  refine ⟨_,rfl,_,rfl,l,a.at_,a.sh,a.l1,a.l2,λz hz=>?_⟩;refine ⟨x,.str z,C,none,rfl,M,c,?_⟩;refine ⟨_,rfl,_,rfl,x,C,rfl,M,o,.inl ⟨c,λd hd=>?_⟩⟩;have m:d≠x:=λq=>by rw [q,c] at hd;cases hd
  exact k _ ⟨d,hd,m,b6,by rw [a7 m,b6],λb p i=>by rw [a7 p,a7 i]⟩
end
end L3.K35
section
namespace L3.K35
open PySem PySem.Spec PyProof.Rows L2 Hn
theorem all_mk {l:PySem.W.OpenLaw} {w:World} {K:PySem.W.Frag} {h:Heap} {mg:Str->Option Value} {fa B fB C1 f1 C2 f2 C3 f3 C4 f4 C5 f5 C6 g0 g1 g2 g3 g4 g5 g6 g7 g8 g9 g10 g11 g12 g13 g14 g15 g16 g17 g18 g19 g20 g21 g22 g23 g24 g25 g26 g27 g28 g29 g30 g31 g32 g33 g34 g35 g36 g37 g38 g39 g40 g41 g42 g43 g44:Addr} (X:K.In h) (G:h.Ns mainGlobals mg) (hfa:mg "law" = some (.ref fa))
  {odHE anHE odNS anNS odNP anNP odND anND odTM anTM odNT anNT:Option Addr} {slHE slNS slNP slND slTM slNT:Array (Option Value)} {ocHE kVHE dcHE pmHE cdHE ctHE ocNS kVNS dcNS pmNS cdNS ctNS ocNP kVNP dcNP pmNP cdNP ctNP ocND kVND dcND pmND cdND ctND ocTM kVTM dcTM pmTM cdTM ctTM ocNT kVNT dcNT pmNT cdNT ctNT:Value} {Zc0:Addr} {tC0_0 tC0_1 tC0_2:Tok} {nC0:Nat} {slC0:Array (Option Value)} {tC1:Tok}
  (aHE:PySem.W.nsIn K mainGlobals "HandError" = some (some (.ref B))) (iHE_:PySem.W.findIn K (.ref B) "__init__" = some (some (.ref fB))) (nHE:PySem.W.isFn K (.ref fB)=true) (lHE:K.lookup fB=some ⟨ocHE,odHE,.func (PySem.W.fnOf "__init__" "HandError.__init__" (j2 (iHE)) (f7 (iHE)) (b8 (iHE)) .none kVHE dcHE pmHE anHE cdHE ctHE),slHE⟩) (cHE:PySem.W.codeIn K cdHE "HandError.__init__" = true) (kHE:PySem.W.keepIn K (.ref fB)=true)
  (aNS:PySem.W.nsIn K mainGlobals "NoStep" = some (some (.ref C1))) (iNS_:PySem.W.findIn K (.ref C1) "__init__" = some (some (.ref f1))) (nNS:PySem.W.isFn K (.ref f1)=true) (lNS:K.lookup f1=some ⟨ocNS,odNS,.func (PySem.W.fnOf "__init__" "NoStep.__init__" (j2 (iNS)) (f7 (iNS)) (b8 (iNS)) .none kVNS dcNS pmNS anNS cdNS ctNS),slNS⟩) (cNS:PySem.W.codeIn K cdNS "NoStep.__init__" = true) (kNS:PySem.W.keepIn K (.ref f1)=true)
  (aNP:PySem.W.nsIn K mainGlobals "NoPaper" = some (some (.ref C2))) (iNP_:PySem.W.findIn K (.ref C2) "__init__" = some (some (.ref f2))) (nNP:PySem.W.isFn K (.ref f2)=true) (lNP:K.lookup f2=some ⟨ocNP,odNP,.func (PySem.W.fnOf "__init__" "NoPaper.__init__" (j2 (iNP)) (f7 (iNP)) (b8 (iNP)) .none kVNP dcNP pmNP anNP cdNP ctNP),slNP⟩) (cNP:PySem.W.codeIn K cdNP "NoPaper.__init__" = true) (kNP:PySem.W.keepIn K (.ref f2)=true)
  (aND:PySem.W.nsIn K mainGlobals "NoStand" = some (some (.ref C3))) (iND_:PySem.W.findIn K (.ref C3) "__init__" = some (some (.ref f3))) (nND:PySem.W.isFn K (.ref f3)=true) (lND:K.lookup f3=some ⟨ocND,odND,.func (PySem.W.fnOf "__init__" "NoStand.__init__" (j2 (iND)) (f7 (iND)) (b8 (iND)) .none kVND dcND pmND anND cdND ctND),slND⟩) (cND:PySem.W.codeIn K cdND "NoStand.__init__" = true) (kND:PySem.W.keepIn K (.ref f3)=true)
  (aTM:PySem.W.nsIn K mainGlobals "TooMany" = some (some (.ref C4))) (iTM_:PySem.W.findIn K (.ref C4) "__init__" = some (some (.ref f4))) (nTM:PySem.W.isFn K (.ref f4)=true) (lTM:K.lookup f4=some ⟨ocTM,odTM,.func (PySem.W.fnOf "__init__" "TooMany.__init__" (j2 (iTM)) (f7 (iTM)) (b8 (iTM)) .none kVTM dcTM pmTM anTM cdTM ctTM),slTM⟩) (cTM:PySem.W.codeIn K cdTM "TooMany.__init__" = true) (kTM:PySem.W.keepIn K (.ref f4)=true)
  (aNT:PySem.W.nsIn K mainGlobals "NoType" = some (some (.ref C5))) (iNT_:PySem.W.findIn K (.ref C5) "__init__" = some (some (.ref f5))) (nNT:PySem.W.isFn K (.ref f5)=true) (lNT:K.lookup f5=some ⟨ocNT,odNT,.func (PySem.W.fnOf "__init__" "NoType.__init__" (j2 (iNT)) (f7 (iNT)) (b8 (iNT)) .none kVNT dcNT pmNT anNT cdNT ctNT),slNT⟩) (cNT:PySem.W.codeIn K cdNT "NoType.__init__" = true) (kNT:PySem.W.keepIn K (.ref f5)=true)
  (aNR:PySem.W.nsIn K mainGlobals "NoRow" = some (some (.ref C6))) (iNR:PySem.W.findIn K (.ref C6) "__init__" = some (some (.ref fB)))
  (fV:PySem.W.findCls K (.type "ValueError") (.type "type") "__init__" = some (.val (.builtin "ValueError.__init__"))) (sB:PySem.W.specialIn K (.ref B) "__getattribute__" = some (some (.builtin "type.__getattribute__"))) (rB:PySem.W.readsIn K B (.type "type")=true) (cB:PySem.W.findCls K (.ref B) (.type "type") "__init__" = some (.val (.ref fB)))
  (rxc:[B,C1,C2,C3,C4,C5,C6].all (xcB K)=true)
  (rjk:U7 K fB=false)
  (rsub:((List.range [B,C1,C2,C3,C4,C5,C6].length).all λc=>(List.range [B,C1,C2,C3,C4,C5,C6].length).all λc0=>isB (PySem.W.kitOne K (.ref (aM [B,C1,C2,C3,C4,C5,C6] fB c)) (.ref (aM [B,C1,C2,C3,C4,C5,C6] fB c0))) (Γ.sub c c0))=true)
  (rsV:([B,C1,C2,C3,C4,C5,C6].all λC=>isB (PySem.W.kitOne K (.ref C) (.type "ValueError")) true)=true)
  (rsT:([B,C1,C2,C3,C4,C5,C6].all λC=>tys.all λt=>isB (PySem.W.kitOne K (.ref C) (.type t)) false)=true)
  (rfl_:(Γ.flds.all λg=>[B,C1,C2,C3,C4,C5,C6].all λC=>isNo (PySem.W.findIn K (.ref C) g))=true)
  (rbl:(bnames.all λx=>(Γ.gl.lookup x).isSome||isNo (PySem.W.nsIn K mainGlobals x))=true)
  (dg0:GF K "with_at" (top 9) g0)
  (dg1:GF K "triangle" (top 10) g1)
  (dg2:GF K "first_decider" (top 13) g2)
  (dg3:GF K "step_decider" (top 14) g3)
  (dg4:GF K "first_levels" (top 16) g4)
  (dg5:GF K "step_levels" (top 17) g5)
  (dg6:GF K "behind_look" (top 18) g6)
  (dg7:GF K "hands_up_to" (top 19) g7)
  (dg8:GF K "first_net" (top 21) g8)
  (dg9:GF K "end_of" (top 22) g9)
  (dg10:GF K "number_of" (top 23) g10)
  (dg11:GF K "step_net" (top 24) g11)
  (dg12:GF K "hand_behind" (top 25) g12)
  (dg13:GF K "local_at" (top 26) g13)
  (dg14:GF K "word_at" (top 27) g14)
  (dg15:GF K "first_row" (top 29) g15)
  (dg16:GF K "step_row" (top 30) g16)
  (dg17:GF K "begun" (top 31) g17)
  (dg18:GF K "working_in_row" (top 32) g18)
  (dg19:GF K "hands_of" (top 34) g19)
  (dg20:GF K "first" (top 35) g20)
  (dg21:GF K "moving" (top 36) g21)
  (dg22:GF K "stepped" (top 37) g22)
  (dg23:GF K "stepped_or_none" (top 38) g23)
  (dg24:GF K "reached" (top 41) g24)
  (dg25:GF K "next_stands" (top 42) g25)
  (dg26:GF K "ends" (top 43) g26)
  (dg27:GF K "_law_well" (top 45) g27)
  (dg28:GF K "_law_draw" (top 46) g28)
  (dg29:GF K "_law_greats" (top 47) g29)
  (dg30:GF K "_law_with" (top 48) g30)
  (dg31:GF K "_law_decided" (top 49) g31)
  (dg32:GF K "_law_net_step" (top 50) g32)
  (dg33:GF K "_law_seen" (top 51) g33)
  (dg34:GF K "_law_level_step" (top 52) g34)
  (dg35:GF K "_law_row_step" (top 53) g35)
  (dg36:GF K "_law_hands" (top 54) g36)
  (dg37:GF K "_law_first" (top 55) g37)
  (dg38:GF K "_law_step" (top 56) g38)
  (dg39:GF K "_law_refusal" (top 57) g39)
  (dg40:GF K "_law_reached" (top 58) g40)
  (dg41:GF K "_law_small" (top 59) g41)
  (dg42:GF K "_law_told" (top 60) g42)
  (dg43:GF K "_law_rests" (top 61) g43)
  (dg44:GF K "law" (top 62) g44)
  (aC0:PySem.W.nsIn K mainGlobals "ENDED" = some (some (.ref Zc0))) (lC0:K.lookup Zc0=some ⟨.type "tuple",none,.seq #[.str "holds" tC0_0,.str "right" tC0_1,.str "down" tC0_2] nC0,slC0⟩)
  (aC1:PySem.W.nsIn K mainGlobals "MOST_STANDS" = some (some (.int 2000 tC1))) :
  ∃ fd:FuncData,(∀ (s:Shared) (v:Value),BindsTo s fd ⟨[v],[]⟩ [("_law_script",v)])/\∀ base:Heap,K.In base->base.Ns mainGlobals mg->FnOk l.prog w K mg base CX0 16 fa fd ["_law_script"] (cY K):=by
 have e:=hfa.symm.trans (FA X G dg44.a);cases e;have RB:RowB K Γ [B,C1,C2,C3,C4,C5,C6] fB:=⟨rxc,rjk,rsub,rsV,rsT,rfl_,rbl⟩;have FHE:=G6 (st:=iHE) lHE cHE kHE;have bHE:=FHE.binds (ps:=["self","text"]) λ_ _ _ _ _ _ us hl=>y8 hl λ_ _=>rfl;have FNS:=G6 (st:=iNS) lNS cNS kNS;have bNS:=FNS.binds (ps:=["self","hand"]) λ_ _ _ _ _ _ us hl=>y8 hl λ_ _=>rfl;have FNP:=G6 (st:=iNP) lNP cNP kNP;have bNP:=FNP.binds (ps:=["self","word","at"]) λ_ _ _ _ _ _ us hl=>bC hl λ_ _ _=>rfl;have FND:=G6 (st:=iND) lND cND kND;have bND:=FND.binds (ps:=["self","word","at"]) λ_ _ _ _ _ _ us hl=>bC hl λ_ _ _=>rfl;have FTM:=G6 (st:=iTM) lTM cTM kTM;have bTM:=FTM.binds (ps:=["self","word"]) λ_ _ _ _ _ _ us hl=>y8 hl λ_ _=>rfl;have FNT:=G6 (st:=iNT) lNT cNT kNT;have bNT:=FNT.binds (ps:=["self","type_here"]) λ_ _ _ _ _ _ us hl=>y8 hl λ_ _=>rfl;have xHE:XC K B:=N8 ((Fa.mp rxc) B (by simp));have xNS:XC K C1:=N8 ((Fa.mp rxc) C1 (by simp));have xNP:XC K C2:=N8 ((Fa.mp rxc) C2 (by simp));have xND:XC K C3:=N8 ((Fa.mp rxc) C3 (by simp));have xTM:XC K C4:=N8 ((Fa.mp rxc) C4 (by simp));have xNT:XC K C5:=N8 ((Fa.mp rxc) C5 (by simp));have xNR:XC K C6:=N8 ((Fa.mp rxc) C6 (by simp));obtain ⟨_,⟨oc,od,kV,dc,pm,an,cd,ct,sl,rfl,lk,hc⟩,kp⟩:=dg44.f;have FL:=G6 lk hc kp;refine ⟨PySem.W.fnOf "law" "law" (j2 (top 62)) (f7 (top 62)) (b8 (top 62)) .none kV dc pm an cd ct,λs v=>.of_eq rfl,λbase KB GB=>?_⟩
 let T:Tx:=⟨l.prog,w,K,mg,base,aM [B,C1,C2,C3,C4,C5,C6] fB⟩
 have mV:mg "ValueError" = none:=PySem.W.mg_none_of X G (W6 ((Fa.mp rbl) "ValueError" (by decide)));have TE:TxE K mg B fB:=⟨mV,fV,FA X G aHE,sB,rB,cB,kHE⟩;have gHE:FnOk l.prog w K mg base CX0 2 fB _ ["self","text"] (spHE K):=(bP FHE TE).mono (by decide);have gNS:FnOk l.prog w K mg base CX0 2 f1 _ _ _:=Ax FNS TE FHE bHE;have gNP:FnOk l.prog w K mg base CX0 2 f2 _ _ _:=AW FNP TE FHE bHE;have gND:FnOk l.prog w K mg base CX0 2 f3 _ _ _:=BD FND TE FHE bHE;have gTM:FnOk l.prog w K mg base CX0 2 f4 _ _ _:=BB FTM TE FHE bHE;have gNT:FnOk l.prog w K mg base CX0 2 f5 _ _ _:=zV FNT TE FHE bHE;have st:TxSt T Γ:=by
  refine RB.st (T:=T) X G rfl (λx d e=>?_) (λx c fs e=>?_) (λx kvs e=>?_)
  ·have m:=L2.mem_of_lookup e;simp only [Γ,EU,Hk,or_false,Prod.mk.injEq,L3.G.val.injEq,reduceCtorEq,and_false,false_or] at m;rcases m with ⟨rfl,rfl⟩ | ⟨rfl,rfl⟩
   ·exact ⟨_,.ref Zc0,FA X G aC0,rfl,λμ H=>.tup (xs:=[.str "holds",.str "right",.str "down"]) (.inr ⟨_,_,_,lC0,rfl,rfl,Hg rfl,(.cons ⟨_,rfl⟩ (.cons ⟨_,rfl⟩ (.cons ⟨_,rfl⟩ .nil))),rfl⟩) (.cons (.str _) (.cons (.str _) (.cons (.str _) .nil)))⟩
   ·exact ⟨_,.int 2000,FA X G aC1,⟨_,rfl⟩,λμ H=>.int _⟩
  ·have m:=L2.mem_of_lookup e;simp only [Γ,EU,Hk,or_false,Prod.mk.injEq,L3.G.err.injEq,reduceCtorEq,and_false,false_or] at m;rcases m with ⟨rfl,rfl,rfl⟩ | ⟨rfl,rfl,rfl⟩ | ⟨rfl,rfl,rfl⟩ | ⟨rfl,rfl,rfl⟩ | ⟨rfl,rfl,rfl⟩ | ⟨rfl,rfl,rfl⟩ | ⟨rfl,rfl,rfl⟩
   ·exact ⟨by simp,⟨xHE,FA X G aHE,fB,_,_,iHE_,nHE,bHE,gHE⟩,by simp⟩
   ·exact ⟨by simp,⟨xNS,FA X G aNS,f1,_,_,iNS_,nNS,bNS,gNS⟩,by simp [Γ]⟩
   ·exact ⟨by simp,⟨xNP,FA X G aNP,f2,_,_,iNP_,nNP,bNP,gNP⟩,by simp [Γ]⟩
   ·exact ⟨by simp,⟨xND,FA X G aND,f3,_,_,iND_,nND,bND,gND⟩,by simp [Γ]⟩
   ·exact ⟨by simp,⟨xTM,FA X G aTM,f4,_,_,iTM_,nTM,bTM,gTM⟩,by simp [Γ]⟩
   ·exact ⟨by simp,⟨xNT,FA X G aNT,f5,_,_,iNT_,nNT,bNT,gNT⟩,by simp [Γ]⟩
   ·exact ⟨by simp,⟨xNR,FA X G aNR,fB,_,_,iNR,nHE,bHE,gHE⟩,by simp⟩
  ·have m:=L2.mem_of_lookup e;simp [Γ] at m
 have fs:mG T Γ Tb:=by
  refine CQ ?_;refine And.intro (fe X G (T:=T) dg0 (by decide +kernel) (λ_ _ _ _ _ _ us hl=>bC hl λ_ _ _=>rfl) rfl rfl) ?_;refine And.intro (fe X G (T:=T) dg1 (by decide +kernel) (λ_ _ _ _ _ _ us hl=>K0 hl λ_=>rfl) rfl rfl) ?_;refine And.intro (fe X G (T:=T) dg2 (by decide +kernel) (λ_ _ _ _ _ _ us hl=>K0 hl λ_=>rfl) rfl rfl) ?_;refine And.intro (fe X G (T:=T) dg3 (by decide +kernel) (λ_ _ _ _ _ _ us hl=>y8 hl λ_ _=>rfl) rfl rfl) ?_;refine And.intro (fe X G (T:=T) dg4 (by decide +kernel) (λ_ _ _ _ _ _ us hl=>K0 hl λ_=>rfl) rfl rfl) ?_;refine And.intro (fe X G (T:=T) dg5 (by decide +kernel) (λ_ _ _ _ _ _ us hl=>y8 hl λ_ _=>rfl) rfl rfl) ?_;refine And.intro (fe X G (T:=T) dg6 (by decide +kernel) (λ_ _ _ _ _ _ us hl=>y8 hl λ_ _=>rfl) rfl rfl) ?_;refine And.intro (fe X G (T:=T) dg7 (by decide +kernel) (λ_ _ _ _ _ _ us hl=>y8 hl λ_ _=>rfl) rfl rfl) ?_;refine And.intro (fe X G (T:=T) dg8 (by decide +kernel) (λ_ _ _ _ _ _ us hl=>y8 hl λ_ _=>rfl) rfl rfl) ?_;refine And.intro (fe X G (T:=T) dg9 (by decide +kernel) (λ_ _ _ _ _ _ us hl=>K0 hl λ_=>rfl) rfl rfl) ?_;refine And.intro (fe X G (T:=T) dg10 (by decide +kernel) (λ_ _ _ _ _ _ us hl=>K0 hl λ_=>rfl) rfl rfl) ?_;refine And.intro (fe X G (T:=T) dg11 (by decide +kernel) (λ_ _ _ _ _ _ us hl=>bC hl λ_ _ _=>rfl) rfl rfl) ?_;refine And.intro (fe X G (T:=T) dg12 (by decide +kernel) (λ_ _ _ _ _ _ us hl=>y8 hl λ_ _=>rfl) rfl rfl) ?_;refine And.intro (fe X G (T:=T) dg13 (by decide +kernel) (λ_ _ _ _ _ _ us hl=>bC hl λ_ _ _=>rfl) rfl rfl) ?_;refine And.intro (fe X G (T:=T) dg14 (by decide +kernel) (λ_ _ _ _ _ _ us hl=>y8 hl λ_ _=>rfl) rfl rfl) ?_;refine And.intro (fe X G (T:=T) dg15 (by decide +kernel) (λ_ _ _ _ _ _ us hl=>K0 hl λ_=>rfl) rfl rfl) ?_;refine And.intro (fe X G (T:=T) dg16 (by decide +kernel) (λ_ _ _ _ _ _ us hl=>y8 hl λ_ _=>rfl) rfl rfl) ?_;refine And.intro (fe X G (T:=T) dg17 (by decide +kernel) (λ_ _ _ _ _ _ us hl=>y8 hl λ_ _=>rfl) rfl rfl) ?_;refine And.intro (fe X G (T:=T) dg18 (by decide +kernel) (λ_ _ _ _ _ _ us hl=>K0 hl λ_=>rfl) rfl rfl) ?_;refine And.intro (fe X G (T:=T) dg19 (by decide +kernel) (λ_ _ _ _ _ _ us hl=>K0 hl λ_=>rfl) rfl rfl) ?_;refine And.intro (fe X G (T:=T) dg20 (by decide +kernel) (λ_ _ _ _ _ _ us hl=>K0 hl λ_=>rfl) rfl rfl) ?_;refine And.intro (fe X G (T:=T) dg21 (by decide +kernel) (λ_ _ _ _ _ _ us hl=>y8 hl λ_ _=>rfl) rfl rfl) ?_;refine And.intro (fe X G (T:=T) dg22 (by decide +kernel) (λ_ _ _ _ _ _ us hl=>bC hl λ_ _ _=>rfl) rfl rfl) ?_;refine And.intro (fe X G (T:=T) dg23 (by decide +kernel) (λ_ _ _ _ _ _ us hl=>bC hl λ_ _ _=>rfl) rfl rfl) ?_;refine And.intro (fe X G (T:=T) dg24 (m:=["stands","t{}"]) (by decide +kernel) (λ_ _ _ _ _ _ us hl=>K0 hl λ_=>rfl) rfl rfl) ?_;refine And.intro (fe X G (T:=T) dg25 (by decide +kernel) (λ_ _ _ _ _ _ us hl=>y8 hl λ_ _=>rfl) rfl rfl) ?_;refine And.intro (fe X G (T:=T) dg26 (m:=["return!"]) (by decide +kernel) (λ_ _ _ _ _ _ us hl=>K0 hl λ_=>rfl) rfl rfl) ?_;refine And.intro (fe X G (T:=T) dg27 (by decide +kernel) (λ_ _ _ _ _ _ us hl=>y8 hl λ_ _=>rfl) rfl rfl) ?_;refine And.intro (fe X G (T:=T) dg28 (by decide +kernel) (λ_ _ _ _ _ _ us hl=>y8 hl λ_ _=>rfl) rfl rfl) ?_;refine And.intro (fe X G (T:=T) dg29 (m:=["_law_found"]) (by decide +kernel) (λ_ _ _ _ _ _ us hl=>y8 hl λ_ _=>rfl) rfl rfl) ?_;refine And.intro (fe X G (T:=T) dg30 (by decide +kernel) (λ_ _ _ _ _ _ us hl=>bC hl λ_ _ _=>rfl) rfl rfl) ?_;refine And.intro (fe X G (T:=T) dg31 (m:=["in{}"]) (by decide +kernel) (λ_ _ _ _ _ _ us hl=>DM hl λ_ _ _ _=>rfl) rfl rfl) ?_;refine And.intro (fe X G (T:=T) dg32 (by decide +kernel) (λ_ _ _ _ _ _ us hl=>bC hl λ_ _ _=>rfl) rfl rfl) ?_;refine And.intro (fe X G (T:=T) dg33 (by decide +kernel) (λ_ _ _ _ _ _ us hl=>y8 hl λ_ _=>rfl) rfl rfl) ?_;refine And.intro (fe X G (T:=T) dg34 (by decide +kernel) (λ_ _ _ _ _ _ us hl=>y8 hl λ_ _=>rfl) rfl rfl) ?_;refine And.intro (fe X G (T:=T) dg35 (by decide +kernel) (λ_ _ _ _ _ _ us hl=>y8 hl λ_ _=>rfl) rfl rfl) ?_;refine And.intro (fe X G (T:=T) dg36 (by decide +kernel) (λ_ _ _ _ _ _ us hl=>K0 hl λ_=>rfl) rfl rfl) ?_;refine And.intro (fe X G (T:=T) dg37 (by decide +kernel) (λ_ _ _ _ _ _ us hl=>K0 hl λ_=>rfl) rfl rfl) ?_;refine And.intro (fe X G (T:=T) dg38 (by decide +kernel) (λ_ _ _ _ _ _ us hl=>bC hl λ_ _ _=>rfl) rfl rfl) ?_;refine And.intro (fe X G (T:=T) dg39 (m:=["~","_law_found"]) (by decide +kernel) (λ_ _ _ _ _ _ us hl=>K0 hl λ_=>rfl) rfl rfl) ?_;refine And.intro (fe X G (T:=T) dg40 (m:=["_law_found","t{}"]) (by decide +kernel) (λ_ _ _ _ _ _ us hl=>K0 hl λ_=>rfl) rfl rfl) ?_;refine And.intro (fe X G (T:=T) dg41 (by decide +kernel) (λ_ _ _ _ _ _ us hl=>y8 hl λ_ _=>rfl) rfl rfl) ?_;refine And.intro (fe X G (T:=T) dg42 (by decide +kernel) (λ_ _ _ _ _ _ us hl=>K0 hl λ_=>rfl) rfl rfl) ?_;refine And.intro (fe X G (T:=T) dg43 (by decide +kernel) (λ_ _ _ _ _ _ us hl=>y8 hl λ_ _=>rfl) rfl rfl) ?_;refine And.intro (fe X G (T:=T) dg44 (by decide +kernel) (λ_ _ _ _ _ _ us hl=>K0 hl λ_=>rfl) rfl rfl) ?_
  trivial
 have ok:=tK (Rs:=Rs) (T:=T) (k:=12) (i:=44) (fd:=f9 (top 62) []) (sN st fs 12) rfl FL rfl rfl (aS (by decide +kernel));exact FnOk.imp ok (jr wU)
theorem walk {l:PySem.W.OpenLaw} {q:Program} {loose:List Str} {XP:(Str->Option Value)->Heap->Prop} {YP:World->Heap->Prop} {d:DefRec} {K:Params->PySem.W.Frag} (hn:l.most=some 63) (hdf:d.params.defaults=[])
  (hY:∀ (w:World) (h:Heap),YP w h->(K w.params).In h)
  (F:∀ (w:World) (mg:Str->Option Value) (fa:Addr) (h:Heap),(K w.params).In h->h.Ns mainGlobals mg->mg d.name=some (.ref fa) ->
   ∃ fd:FuncData,(∀ (s:Shared) (u:Value),BindsTo s fd ⟨[u],[]⟩ [("_law_script",u)])/\∀ base:Heap,(K w.params).In base->base.Ns mainGlobals mg->FnOk l.prog w (K w.params) mg base CX0 16 fa fd ["_law_script"] (cY (K w.params))) :
  PySem.W.WalkO q loose XP YP l.row.toRowW d [] (λf vs=>PySem.call f vs):=
 L2.walk_of (n:=63) (k:=16) (x:="_law_script") (CX:=λ_=>CX0) (sp:=λw=>cY (K w.params)) hn (by decide) hdf ⟨λ_=>rfl,by decide,by decide,rfl⟩ hY F (λ_ _ a ns hl _ hS=>⟨a,ns,rfl,hS,λ_=>rfl⟩) λ_ _ _ _ _ z=>z
end L3.K35
open PySem PySem.W PyProof.Rows
set_option maxRecDepth 100000 in
set_option maxHeartbeats 0 in
theorem PySem.Challenge.cw_handnames_k35_ends_holds : PySem.Challenge.rw_handnames_k35_ends.Holds := by
 w_on;o_law;k_head;(case hw=>w_witness2)
 k_fill
 refine L3.K35.walk (l:=PySem.Challenge.rw_handnames_k35_ends) rfl rfl (λw h Y=>PySem.W.kIn_of Y) ?F
 case F=>
  intro w mg fa h KX G hmg;refine' L3.K35.all_mk KX G hmg ?_ ?_ ?_ ?_ ?_ ?_ ?_ ?_ ?_ ?_ ?_ ?_ ?_ ?_ ?_ ?_ ?_ ?_ ?_ ?_ ?_ ?_ ?_ ?_ ?_ ?_ ?_ ?_ ?_ ?_ ?_ ?_ ?_ ?_ ?_ ?_ ?_ ?_ ?_ ?_ ?_ ?_ ?_ ?_ ?_ ?_ ?_ ?_ ?_ ?_ ?_ ?_ ?_ ?_ ?_ ?_ ?_ ?_ ?_ ?_ ?_ ?_ ?_ ?_ ?_ ?_ ?_ ?_ ?_ ?_ ?_ ?_ ?_ ?_ ?_ ?_ ?_ ?_ ?_ ?_ ?_ ?_ ?_ ?_ ?_ ?_ ?_ ?_ ?_ ?_ ?_ ?_ ?_ ?_ ?_ ?_ ?_
  rotate_left 119
  iterate 42 k_is
  iterate 7 kernel_rfl
  iterate 45 (refine' L3.gf_mk ?a ?l ?c ?k;(case a=>k_is);(case l=>k_is);(case c=>k_is);(case k=>k_is))
  iterate 3 k_is
end
