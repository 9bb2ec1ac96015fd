import PyProof.Rows.All
import Wide.All
import OpenK.AllK
import Wide.FinOn
import Lean
import PyProof.EqAt
import PyProof.EqKinds
import PyProof.TupleCall
import PyProof.CompUse
import PyProof.P3Eq
import PyProof.NeData
import PyProof.P3In
import PyProof.EnumMake
import PyProof.Draws
import PyProof.ConsumeWalk
import PyProof.Rows.SetFrom
import PyProof.SetRoads
import PyProof.Rows.SortWalk
import PyProof.ListRange
import PyProof.WalksMore
import PySem.Challenge.RW_handnames_k92_whole_papers_hold_in_nets
set_option Elab.async false
set_option linter.all false
set_option bootstrap.genMatcherCode false
set_option maxRecDepth 100000
set_option maxHeartbeats 4000000
local macro_rules (kind:=Lean.Parser.Command.declaration)
|s=>do
 if s[1][0].getPos?.isNone||!s[0].getArgs.all (·.isNone) then Lean.Macro.throwUnsupported
 let p:=Lean.mkIdent `_x
 let s:=s.rewriteBottomUp λt=>if t.isOfKind ``Lean.Parser.Term.basicFun then t.setArg 0 (t[0].setArgs (t[0].getArgs.map λb=>if b.isOfKind ``Lean.Parser.Term.hole then p else b)) else t
 let d:=s[1]
 let w:=λ(t:Lean.Syntax)=>if (s.find? λt=>t.isOfKind ``Lean.Parser.Tactic.renameI||t.isOfKind ``Lean.Parser.Tactic.case).isSome then return t else do return (<-`(command|set_option tactic.hygienic false in $(⟨t⟩):command)).raw
 if d.isOfKind ``Lean.Parser.Command.theorem then w (s.setArg 1 (d.setArg 0 (d[0].setInfo .none)))
 else if d.isOfKind ``Lean.Parser.Command.definition||d.isOfKind ``Lean.Parser.Command.abbrev then w (s.setArg 0 (s[0].setArg 4 (Lean.mkNullNode #[Lean.mkNode ``Lean.Parser.Command.noncomputable #[Lean.mkAtom "noncomputable"]])))
 else Lean.Macro.throwUnsupported
local macro_rules|`(tactic|omega)=>`(tactic|first|with_reducible assumption|with_reducible exact Nat.le_refl _|exact Nat.zero_le _|exact Nat.succ_pos _|exact Nat.le_of_lt (by with_reducible assumption)|exact Nat.lt_succ_of_le (by with_reducible assumption)|exact Nat.le_trans (by with_reducible assumption) (by decide)|exact Nat.lt_of_le_of_lt (by with_reducible assumption) (by decide)|exact Nat.lt_of_lt_of_le (by with_reducible assumption) (by decide)|lia|omega +splitDisjunctions)
local macro_rules|`(#check [$[$n:num],*])=>return Lean.mkNullNode (<-n.mapM λn=>`(command|theorem $(Lean.mkIdent (.mkSimple s!"tw{n.getNat}")):ident:True:=⟨⟩))
namespace PySem.W.Fast
#check [3615823892325202430,5666017331376819014,10005777445284761227,12709144193959273876,2274241371566068987,9218375024313719151,5120420729463042151,7462640650041407185,2639821099271035749,8882990187636100760,17367798698906810890,18244126632867315414,7676872896722642062,14294939187293885716,14519131062120478928,18252938338883314970,7940294503170812337,1203456133360227193,2910490037210789171,5289816039008909292,8159932967505966561,3540276908687333571,17618140567582036685,16722654686888203207,6489033131993604388,16143088781154100734,3283158849825487265,2545133777435307898,3062578002562716405,1309017425725998982,5790020134632923883,2951678170487806753,1060223530551713509,5928575201637565644,2746791847271782800,16717357523504262953,5872117954319912740,2598509972786257161,11691110817620919899,14971277445525202087,2824820714870324390,9913021388222082498,2068570409036403988,12346973336218725529,7791757791247622594,14485223469746164125,12564443653535661767,1782675229717711071,16824493402149483929,12064369057857169199,14849042949130098617,17263758076292638716,15463718265385821889,16415553583724863365,14258160949845827733,8457505025346120685,15227404746563103094,14271994342884555112,3654284578943954875,17283029149248831340,13770799599828163282,7105299458427859917,12066947355809339794,5375151266319398213,5552674803283650380,9840411346574256132,2916183557981643074,10047964193240142564,5048048413988191294,16718613266725708121,9455531370202506784,3029377106126885486,6863474446477696475,1461730981797228154,8369761577054652882,12861848638273823116,5855590146363295780,913591887344139107,1128054383703696426,15850149877108589394,17536425306762849474,17076721091758729947,13004314667086772042,9748208850951363375,2689206560002062070,1287746511182573804,11745399684438057200,7634456519440277610,11253162646940728791,3317171914742608887,934161458846110791,15829214863120672718,1162708211061679947,575870979756332147,6010160448257764411,15092731884998327710,12494287391748997152,11994499614837581656,7643192076508458854,1237001677926092679,4585178986559057005,8315645171518464202,11266548777055222052,701204738343848738,9506924186986751764,1272157870788886501,916951154463958670,13462624272847857884,5464479544371942628,17508025409557173907,14584618913282381703,15099106075350176339,13721869989824781867,4765828951235589490,12151542716411460242,10188455456518580951,17563454330259496468,6038008495454310270,8232261091935270381,7051839869750219400,14207315769553468795,575415109160123866,827670562508252616,15405417200129394344,12336818046260702765,8498271955802868363,2841521110268326856,13446891518483682436,7639274259454051758,10699568134818389912,11104071228967462061,17352499016971181492,1220339993676988533,9174699528007068618,5229241893901062674,13020737290628779560,4907788866470042840,16064159822470183468,11213344130607104443,7395286102619100594,10749729748816571191,13060564270823200588,17152159957096815267,3753103283349993815,2134693472019597275,2557980161439948981,12021724016784815153,7529121416953734915,5879264061672955101,723357844097138251,5189705193392668275,6676565424748301846,1151232533593621171,11374060310822325264,7041255823218173706,5588777995045063739,14569010249188025349,8003837290313441626,16494113467025104099,2753766486981318574,8496529043498582445,1937340470138354367,11956623508052939114,9073506205171861746,5155704874729026989,9674135370890595727,2478598204813083250,9100797755179164043,6312474611512397651,11522255574134580249,13072020577280338626,4389987147093017623,8186236355975014240,16616410993327035771,13804377965206675714,12239822730155861715,13970071053653157201,13215617926174684681,5473947890816484790,15930769738494255290,16549171217044332033,764318292686217053,7906851926643421497,9406527758251515073,10119411247791085408,14090150047237581179,754053565571100539,1428532063668526393,9607356091251418208,492894415760484507,15155273058767780845,961021922716854344,5370840328292617580,17515597771025751483,3071531338599426472,958047488897334771,4477564036432250157,12627905639774867108,2981010012912479380,3204538422698365742,2080068076856377669,4727023912811428995,2043214983684567562,5394614539404663594,1231777859299918915,2573147467129945993,1465746315514412398,14670223259854818985,6236843759000897873,3505222223073993272,503218149240698528,5669890715516105629,1073935114849688026,3748319804605531290,7043000981150265233,9938292833551237446,8061067739836769340,632855818327620605,5116754407999291725,2665330333308269281,14210319783492704832,4402214271562721563,1058644520653255886,6928803125498414819,2721764047742283141,14956098987276071296,446742264114361069,14026410567705650091,17887220706011627715,15167337780138613786,17799083705912940776,11367857518545613218,1789699671678125566,1214377438040737756,12384255778125259002,17491176069272376839,373135578653868323,9688028299517920095,13818159270065527984,7622133625052740338,8844933309999396106,16934313353323900878,3063164961345604295,8418000895133985762,3327849296570294226,12287002980306678789,3552782957826084541,14659142958329369736,4514482719064712246,7923380443022964984,4836480969594098335,9718439847642918010,17446728482098519124,2992789139050369758,17943486655123730306,1933637959874691301,14295614042872945619,9400235326623317974,17447266264087989988,11360659508353311597,16293166765798841153,15214157324652814086,9951395223545266425,14883867273321343862,693520729746186892,2864053521309783238,3557055764267460218,12043204131186905412,5268172490427760495,4892493714863693332,6861713640594967823,17841270056652446582,3847316005622879701,37768115387163230,4727624716736857960,3786308115916736232,6606149188203628041,15754632366892282639,14577169264163826277,15413303970458043687,9771737713716759271,6103380940516255326,11728200603191802778,8946745292467249942,3665389424555594416,237542494328107597,17365691158755487913,10035776893047656954,17723609539741307144,10870169326994992267,13755606375580441251,236170116260828170,2823625370132469479,14416805925710724831,18095654725807246610,8533203395903142087,16426436427730315968,4325575568421548322,16242448529052660213,11197657223141364736,10404597799900676693,14265991888024684070,11472537359489394786,12678851037662338834,2713145883663060554,15505897709889930157,5321583518780134572,13302198205460118703,4235817959460745711,4458142204629061243,196185478329033234,11789615017961226105,7027083023902641464,12919457956622816180,9017863687769527767,3946286334544615878,2567553869191086597,9590831143085165933,8860389190286183318,5639255608030741101,16367254653939967965,22655006653245040,5182735851771417511,1624803012388376570,4702977576579006985,16731346911165855535]
end PySem.W.Fast
local macro_rules|`(⋯)=>`(by decide)
local macro_rules|`(∅)=>`(by omega)
local macro_rules|`(tactic|ext $x:ident)=>`(tactic|cases $x:ident)
def Jn:=@PySem.wpAny_bind
def Jo:=@PySem.wpAny_pure
def Jp:=@Bool.and_eq_true
def Jq:=@PySem.Heap.get?_push_of_some
def Jr:=@List.length_map
def Js:=@List.getElem?_eq_some_iff
def Jt:=@Bool.false_ne_true
def Ju:=@Nat.le_refl
def Jv:=@List.size_toArray
def Jw:=@List.getElem?_eq_getElem
def Jx:=@PySem.Heap.lt_size
def Jy:=@List.mem_cons_self
def Jz:=@List.getElem?_append_left
def JE:=@List.mem_cons_of_mem
def JF:=@Nat.ne_of_lt
def JG:=@PySem.Heap.get?_push_size
def JH:=@List.mem_cons
def JI:=@List.map_cons
def JJ:=@decide_eq_true_eq
def JK:=@List.mem_singleton
def JL:=@List.mem_of_getElem?
def JM:=@List.all_eq_true
def JN:=@Nat.lt_of_lt_of_le
def JO:=@PySem.wpAny_mono
def JP:=@List.length_append
def JQ:=@decide_eq_true
def JR:=@decide_eq_false
def JS:=@PySem.sizeLine_eq
def JT:=@PySem.wpAny_newObj_type
def JU:=@List.getElem?_map
def JV:=@List.mem_append_right
def JW:=@Nat.le_trans
def JX:=@List.getElem_mem
def JY:=@List.mem_append
def JZ:=@Option.some.inj
def Ka:=@List.getElem?_append_right
def Kb:=@of_decide_eq_true
def Kc:=@List.append_nil
def Kd:=@Option.isSome_iff_exists
def Ke:=@List.getElem?_set_self
def Kf:=@PySem.wpAny_holding
def Kg:=@Nat.zero_le
def Kh:=@Nat.lt_succ_self
def Kj:=@PySem.Heap.get?_update_self
def Kk:=@List.getElem?_set_ne
def Kl:=@Bool.not_eq_true'
def Km:=@PyProof.Rows.slot_tuple_getitem
def Kn:=@List.getElem?_eq_none
def Ko:=@Nat.lt_succ_of_lt
def Kq:=@Option.isNone_iff_eq_none
def Kr:=@PySem.wpAny_Call_Name_kw
def Ks:=@Option.map_eq_some_iff
def Kt:=@List.all_cons
def Ku:=@PyProof.Rows.callWith_type1
def Kv:=@List.getElem?_replicate
def Kw:=@PySem.wpAny_callSpecial?_slot
def Kx:=@List.find?_cons
def Ky:=@List.mem_map
def Kz:=@beq_eq_false_iff_ne
def KA:=@PySem.wpAny_field
def KC:=@List.length_replicate
def KD:=@Nat.le_of_ble_eq_true
def KE:=@List.mem_range
def KF:=@PySem.wpAny_standAt
def KG:=@PySem.Heap.size_push
def KH:=@List.drop_zero
def KI:=@PySem.F.slot_dict_keyiterator_next
def KJ:=@PySem.wpAny_call_entry
def KL:=@List.length_cons
def KM:=@Nat.le_succ
def KN:=@List.take_succ_eq_append_getElem
def KO:=@List.getD_eq_getElem?_getD
def KP:=@List.length_singleton
def KQ:=@PySem.lookup_relabel_local
def KR:=@PySem.wpAny_typeNameOfWhole_keyiter
def KS:=@List.forIn_cons
def KU:=@PySem.W.kia_one
def KW:=@List.map_append
def KY:=@List.replicate_succ
def KZ:=@PySem.Heap.SameBut.update
def La:=@List.filter_eq_self
def Lb:=@PyProof.Rows.F.plain_set_update_loop
def Ld:=@PySem.codeAny_mono
def Le:=@List.take_of_length_le
def Lf:=@List.map_map
def Lg:=@PySem.W.mg_of
def Lh:=@List.length_take
def Li:=@Option.bind_some
def Lj:=@Nat.succ_le_succ
def Lk:=@List.mem_filterMap
def Ll:=@PySem.Calls.spliced_cons
def Lm:=@Bool.false_eq_true
def Ln:=@PySem.wpAny_pyIter_tuple
def Lo:=@List.length_filter_le
def Lp:=@List.findIdx?_eq_some_iff_getElem
def Lq:=@List.getElem?_eq_none_iff
def Lr:=@PySem.wpAny_passesOwn
def Ls:=@PySem.Calls.spliced_nil
def Lu:=@Nat.lt_irrefl
def Lv:=@List.any_cons
def Lw:=@PySem.wpAny_comprehension_free
def Lx:=@PySem.wpAny_typeNameOf_keyiter
def Ly:=@List.filterMap_cons
def Lz:=@PySem.mem_of_lookup
def LA:=@List.length_flatMap
def LB:=@PyProof.Rows.callWith_builtin1
def LC:=@Nat.le_of_not_lt
def LD:=@PySem.wpAny_setField
def LF:=@List.not_mem_nil
def LG:=@List.filter_cons_of_neg
def LH:=@List.filter_cons_of_pos
def LI:=@PySem.Heap.get?_update_other
def LJ:=@List.filter_append
def LK:=@PySem.wpAny_execs_nil
def LL:=@Bool.eq_iff_iff
def LM:=@List.flatten_cons
def LN:=@List.append_assoc
def LO:=@Int.toNat_natCast
def LP:=@PySem.wpAny_call
def LQ:=@PySem.call_meets
def LR:=@List.forIn_nil
def LS:=@PySem.codeAny_call_builtin
def LU:=@PySem.wpAny_newFunctionEnv
def LV:=@List.lookup_cons
def LW:=@List.mem_flatMap
def LX:=@List.map_flatMap
def LY:=@PySem.wpAny_binaryOp_repeat_ref
def LZ:=@Array.getElem?_eq_getElem
def Ma:=@List.drop_eq_getElem_cons
def Mb:=@List.findIdx?_eq_none_iff
def Mc:=@Array.length_toList
def Md:=@PySem.Heap.get?_update_ne
def Me:=@List.getElem_of_mem
def Mf:=@List.length_reverse
def Mg:=@PyProof.Rows.F.entry_set_update_loop
def Mh:=@PySem.F.args_dict_keyiterator_next_1
def Mi:=@PySem.F.args_tuple_add_2
def Mj:=@PySem.F.entry_dict_keyiterator_next
def Mk:=@List.mem_filter
def Ml:=@List.nodup_cons
def Mm:=@beq_iff_eq
def Mn:=@PySem.W.callWith_K
def Mo:=@List.filterMap_map
def Mq:=@Int.emod_lt_of_pos
def Mr:=@PySem.F.entry_tuple_add
def Ms:=@PySem.F.plainAttrs_list
def Mt:=@PySem.F.slot_tuple_add
def Mu:=@PySem.Calls.callWith_builtin
def Mw:=@PySem.eqIsQuiet_byValue
def Mx:=@List.nodup_append
def My:=@PySem.wpAny_pyIter_list
def Mz:=@PySem.wpAny_pyIter_enum
def MA:=@PySem.codeAny_compStart_list
def MB:=@List.reverse_cons
def MC:=@List.length_range
def MD:=@List.flatMap_cons
def ME:=@Array.getElem?_toList
def MF:=@List.getElem?_toArray
def MG:=@List.pairwise_flatMap
def MH:=@PySem.typeIs_int
def MI:=@Nat.succ_ne_self
def MJ:=@List.take_length
def MK:=@Bool.and_self
def ML:=@PySem.wpAny_of_eq
def MM:=@List.mem_of_mem_tail
def MN:=@Bool.or_eq_true
def MO:=@List.find?_some
def MP:=@Int.emod_nonneg
def MQ:=@PyProof.Rows.entry_tuple_getitem
def MR:=@PySem.wpAny_typeOf
def MS:=@List.all_map
def MU:=@PySem.Calls.Name_function_global
def MV:=@PyProof.Rows.slicePart_none
def MW:=@PyProof.Rows.args_tuple_getitem
def MX:=@PySem.Heap.IsSliceOf.new
def MY:=@PySem.wpAny_loadPart
def MZ:=@PySem.F.excBase_ValueError
def Na:=@if_false
def Nb:=@List.map_replicate
def Nc:=@PyProof.Rows.listItems_at
def Nd:=@List.mem_or_eq_of_mem_set
def Nf:=@PySem.wpAny_truthy_bool
def Ng:=@PySem.wpAny_sequenceKey
def Nh:=@bne_self_eq_false
def Ni:=@PySem.wpAny_dictEntries
def Nj:=@List.pairwise_map
def Nk:=@PyProof.Rows.tupleItemsOf_
def Nl:=@PySem.wpAny_getItem_list_slice
def Nm:=@PySem.wpAny_attempt
def Nn:=@PySem.strLen_append
def No:=@PySem.F.slot_tuple_count
def Np:=@List.filterMap_cons_some
def Nq:=@List.length_filterMap_le
def Nr:=@List.getElem_inj
def Nu:=@PySem.wpAny_execs_cons
def Nv:=@PySem.noFill_tuple_add
def Nw:=@Int.eq_ofNat_of_zero_le
def Nx:=@List.countP_cons
def Ny:=@Nat.le_of_lt
def Nz:=@PySem.wpAny_rule
def NA:=@PySem.codeAny_loop
def NB:=@List.any_map
def NC:=@Int.ne_of_gt
def ND:=@List.of_mem_zip
def NE:=@List.nil_append
def NF:=@Option.map_some
def NG:=@PySem.codeAny_of_tree
def NH:=@PySem.wpAny_specialOf
def NI:=@Int.natCast_mul
def NJ:=@PySem.W.mapOf_K
def NK:=@List.filter_nil
def NL:=@PySem.codeAny_builtin
def NM:=@PySem.wpAny_dictEpoch
def NN:=@Bool.false_and
def NO:=@PySem.wpAny_noted
def NP:=@or_false
def NQ:=@PySem.W.find_K
def NR:=@PySem.seq_tuple_add
def NS:=@PySem.evalPart_none
def NT:=@PySem.strKind_is
namespace L2
open PySem PySem.Spec PyProof.Rows
abbrev Key:=Sum Int Str
def cZ:Key->Value->Bool
 | .inl k,v=>Value.isInt k v
 | .inr x,v=>Value.isStrOf x v
def Ht(w:World):Key->Int
 | .inl k=>hashInt k
 | .inr x=>hashStr w x
theorem i5:∀{k:Key}{v:Value},cZ k v=true->(∃i t,k=Sum.inl i/\v=Value.int i t)\/(∃x t,k=Sum.inr x/\v=Value.str x t)
 | .inl i,v,h=>by
  obtain⟨t,e⟩:=Value.isInt_shape h;exact .inl ⟨i,t,rfl,e⟩
 | .inr x,v,h=>by
  obtain⟨t,e⟩:=Value.isStrOf_shape h;exact .inr ⟨x,t,rfl,e⟩
theorem ly(i:Int)(t:Tok):cZ (.inl i) (.int i t)=true:=by simp[cZ,Value.isInt]
theorem nA(x:Str)(t:Tok):cZ (.inr x) (.str x t)=true:=by simp[cZ,Value.isStrOf]
theorem DO(a b:Int):decide ((Sum.inl a:Key)=Sum.inl b)=(a==b):=by grind
theorem Bq(a b:Str):decide ((Sum.inr a:Key)=Sum.inr b)=decide (a=b):=by grind
theorem CB(a:Int)(b:Str):decide ((Sum.inl a:Key)=Sum.inr b)=false:=by grind
theorem Am(a:Str)(b:Int):decide ((Sum.inr a:Key)=Sum.inl b)=false:=by grind
def j7(prog:Program)(w:World):PySem.KeyKind prog w Key where
 is:=cZ
 hash:=Ht w
 inj:=λv a b f d=>by
  rcases i5 f with ⟨i,t,rfl,rfl⟩ | ⟨x,t,rfl,rfl⟩
  ·rcases i5 d with ⟨j,u,rfl,e⟩ | ⟨y,u,rfl,e⟩
   ·grind
   ·exact nomatch e
  ·rcases i5 d with ⟨j,u,rfl,e⟩ | ⟨y,u,rfl,e⟩
   ·exact nomatch e
   ·grind
 byValue:=λk v h=>by
  rcases i5 h with ⟨i,t,rfl,rfl⟩ | ⟨x,t,rfl,rfl⟩ <;> rfl
 pyHash:=λc h=>by
  rcases i5 c with ⟨i,t,rfl,rfl⟩ | ⟨x,t,rfl,rfl⟩
  ·exact wpAny_pyHash_int h
  ·exact wpAny_pyHash_str h
 eqBool:=λg c h=>by
  rcases i5 g with ⟨i,t,rfl,rfl⟩ | ⟨x,t,rfl,rfl⟩
  ·rcases i5 c with ⟨j,u,rfl,rfl⟩ | ⟨y,u,rfl,rfl⟩
   ·rw[DO]at h;exact wpAny_eqBool_int h
   ·rw[CB]at h;exact SeqAt.EqAt.int_str i t y u _ _ _ _ h
  ·rcases i5 c with ⟨j,u,rfl,rfl⟩ | ⟨y,u,rfl,rfl⟩
   ·rw[Am]at h;exact SeqAt.EqAt.str_int x t j u _ _ _ _ h
   ·rw[Bq]at h;exact wpAny_eqBool_str h
 «strs»:=λk x t v h=>by
  rcases i5 h with ⟨i,u,rfl,e⟩ | ⟨y,u,rfl,e⟩
  ·exact nomatch e
  ·injection e with e1 _;subst e1;ext v <;> rfl
theorem gX(prog:Program)(w:World)(i:Int)(t:Tok):(j7 prog w).is (.inl i) (.int i t)=true:=ly i t
theorem ej(prog:Program)(w:World)(x:Str)(t:Tok):(j7 prog w).is (.inr x) (.str x t)=true:=nA x t
inductive V where
 | non | bl (b:Bool) | int (i:Int) | str (x:Str) | byt (b:Array UInt8) | flt (b:UInt64) | ref (a:Addr) | ty (n:String)
 deriving DecidableEq
def RelV:V->Value->Prop
 | .non,u=>u=Value.none
 | .bl b,u=>u=Value.bool b
 | .int i,u=>∃t,u=Value.int i t
 | .str x,u=>∃t,u=Value.str x t
 | .byt b,u=>∃t,u=Value.bytes b t
 | .flt b,u=>∃t,u=Value.float b t
 | .ref a,u=>u=Value.ref a
 | .ty n,u=>u=Value.type n
abbrev Vals:List V->List Value->Prop:=Paired RelV
theorem Vals.length(r:Vals xs us):xs.length=us.length:=Paired.length r
theorem Vals.get:∀{xs:List V}{us:List Value}{i:Nat}{x:V},Vals xs us->xs[i]?=some x->∃u,us[i]?=some u/\RelV x u
 | _,_,_,_,.nil,e=>by simp at e
 | _,_,0,_,.cons r _,e=>by simp at e;subst e;exact⟨_,rfl,r⟩
 | _,_,i+1,x,.cons _ t,e=>by
  obtain⟨u,b,a⟩:=Vals.get t (by simpa using e);exact⟨u,by simpa using b,a⟩
theorem Vals.set(r:RelV x u):∀{xs:List V}{us:List Value}(i:Nat),Vals xs us->Vals (xs.set i x) (us.set i u)
 | _,_,_,.nil=>.nil
 | _,_,0,.cons _ t=>.cons r t
 | _,_,i+1,.cons q t=>.cons q (Vals.set r i t)
theorem Vals.append:∀{xs ys:List V}{us ws:List Value},Vals xs us->Vals ys ws->Vals (xs++ys) (us++ws)
 | _,_,_,_,.nil,s=>s
 | _,_,_,_,.cons r t,s=>.cons r (Vals.append t s)
theorem Vals.take:∀{xs:List V}{us:List Value}(n:Nat),Vals xs us->Vals (xs.take n) (us.take n)
 | _,_,0,_=>.nil
 | _,_,_+1,.nil=>.nil
 | _,_,n+1,.cons r t=>.cons r (Vals.take n t)
theorem Vals.drop:∀{xs:List V}{us:List Value}(n:Nat),Vals xs us->Vals (xs.drop n) (us.drop n)
 | _,_,0,r=>r
 | _,_,_+1,.nil=>.nil
 | _,_,n+1,.cons _ t=>Vals.drop n t
def RelO:Option V->Option Value->Prop
 | some v,some u=>RelV v u
 | none,none=>True
 | _,_=>False
def KV{κ:Type}:List (κ×V)->List (κ×Value)->Prop:=Paired λ(p:κ×V)(q:κ×Value)=>p.1=q.1/\RelV p.2 q.2
def kV:Key->V
 | .inl i=>.int i
 | .inr x=>.str x
inductive HO where
 | lst (xs:List V)
 | tup (xs:List V)
 | dK (kvs:List (Key×V)) | dT (kvs:List (List Key×V))
 | set (S:Int->Bool) (n:Nat)
 | ins (C dx:Addr) (fs:List (Str×V))
 | own (x:Addr)
 | xd (fs:List (Str×V))
 | met (f x:Addr)
 | rng (lo hi:Int)
 | frz (o:Obj) (u:HO)
 | tbl (ps:Array Value)
 | ext (φ:Heap->Prop)
abbrev Hp:=Addr->Option HO
def upd(H:Hp)(a:Addr)(o:HO):Hp:=λb=>if b=a then some o else H b
theorem b8:upd H a o a=some o:=by unfold upd;rw[if_pos rfl]
theorem a8{a b:Addr}{o:HO}(h:b≠a):upd H a o b=H b:=by unfold upd;rw[if_neg h]
theorem lL{H:Hp}{a b:Addr}{o u:HO}(h:H a=some o)(h':H b=some u)(d:o≠u):a≠b:=by grind
theorem b9{H:Hp}{a b:Addr}{o:HO}(h:H a=some o)(h':H b=none):a≠b:=by grind
def TupN(h:Heap)(a:Addr)(items:Array Value):Prop:=∃o,h.get? a=some o/\o.cls=.type "tuple"/\∃n,o.data=.seq items n/\o.dict=none
theorem TupN.is(x:TupN h a items):IsTup h a items:=let ⟨o,e,c,n,d,_⟩:=x;⟨o,e,c,n,d⟩
theorem TupN.new(h:Heap)(items:Array Value):TupN (h.push { cls:=.type "tuple",data:=.seq items }) h.objs.size items:=⟨_,JG _ rfl,rfl,_,rfl,rfl⟩
section
variable (P:Program)(w:World)
def ObjOk(H:Hp)(h:Heap)(a:Addr):HO->Prop
 | .lst xs=>xs.length<=sizeLine/\∃(b:List Value) (n:Nat),Vals xs b/\h.get? a=some { cls:=.type "list",data:=.seq b.toArray n }
 | .tup xs=>xs.length<=sizeLine/\∃b:List Value,Vals xs b/\TupN h a b.toArray
 | .dK c=>c.length<=sizeLine/\(a==sysModules)=false/\∃vs,KV c vs/\h.DictOf (j7 P w) a vs
 | .dT c=>c.length<=sizeLine/\(a==sysModules)=false/\∃xs:List (List Key×Addr×Value),
   Paired (λ(p:List Key×V)(q:List Key×Addr×Value)=>p.1=q.1/\H q.2.1=some (.tup (p.1.map kV))/\RelV p.2 q.2.2) c xs /\
   ∃o es k,h.get? a=some o/\o.ExactDict/\o.data=.dict es k/\es.toList=xs.map (entryOfKey (tupleKind (j7 P w)))/\(xs.map (·.1)).Nodup
 | .set S n=>h.SetOf (intKind P w) a S n
 | .ins C d fs=>H d=some (.own a)/\fs.length<=1000/\d≠a/\h.get? a=some (PySem.W.instObj C d) /\
   ∃mA,h.Ns1 d mA/\(∀f,RelO (fs.lookup f) (mA f))/\PySem.Within mA (fs.map (·.1))
 | .own _=>∃o,h.get? a=some o
 | .xd fs=>∃mA,h.Ns1 a mA/\∀f,RelO (fs.lookup f) (mA f)
 | .rng lo j=>∃t u v,h.get? a=some { cls:=.type "range",data:=.fields #[.int lo t,.int j u,.int 1 v] }
 | .frz o u=>h.get? a=some o/\ObjOk H h a u
 | .tbl ps=>h.get? a=some { cls:=.none,data:=.fields ps }
 | .met f x=>h.get? a=some (PySem.W.methodObj (.ref f) (.ref x))
 | .ext e=>e h/\(∃o,h.get? a=some o)/\∀g i:Heap,e g->(∀o,g.get? a=some o->i.get? a=some o)->e i
def HOk(H:Hp)(h:Heap):Prop:=∀a o,H a=some o->ObjOk P w H h a o
end
section
variable {P:Program}{w:World}{H H':Hp}{h h':Heap}{a:Addr}{o:HO}
theorem ObjOk.lt(x:ObjOk P w H h a o):a<h.objs.size:=by
 cases o with
 | lst xs=>obtain⟨_,_,_,_,e⟩:=x;exact Jx e
 | tup xs=>obtain⟨_,_,_,p⟩:=x;exact p.is.lt
 | dK kvs=>obtain⟨_,_,_,_,o,_,_,e,_⟩:=x;exact Jx e
 | dT kvs=>obtain⟨_,_,_,_,o,_,_,e,_⟩:=x;exact Jx e
 | set S n=>obtain⟨o,_,_,_,e,_⟩:=x;exact Jx e
 | ins C dx fs=>obtain⟨_,_,_,e,_⟩:=x;exact Jx e
 | own y=>obtain⟨_,e⟩:=x;exact Jx e
 | xd fs=>obtain⟨_,⟨_,_,_,e,_⟩,_⟩:=x;exact Jx e
 | rng lo hi=>obtain⟨_,_,_,e⟩:=x;exact Jx e
 | frz ob u=>obtain⟨e,_⟩:=x;exact Jx e
 | tbl ps=>exact Jx (x)
 | met f y=>exact Jx (x)
 | ext φ=>obtain⟨_,⟨_,e⟩,_⟩:=x;exact Jx e
theorem Paired.mapP:∀{c:List α}{d:List β},Paired F c d->(∀a b,F a b->G a b)->Paired G c d
 | _,_,.nil,_=>.nil
 | _,_,.cons r t,f=>.cons (f _ _ r) (Paired.mapP t f)
theorem ObjOk.stay(x:ObjOk P w H h a o)(k:∀b u,(b=a\/H b=some (.own a))->h.get? b=some u->h'.get? b=some u)
  (ho:∀b,H b=some (.own a)->H' b=some (.own a)) (ht:∀b xs,H b=some (.tup xs)->H' b=some (.tup xs)):ObjOk P w H' h' a o:=by
 induction o with
 | lst xs=>obtain⟨z,its,n,r,e⟩:=x;exact⟨z,its,n,r,k _ _ (.inl rfl) e⟩
 | tup xs=>obtain⟨z,its,r,ob,e,c⟩:=x;exact⟨z,its,r,ob,k _ _ (.inl rfl) e,c⟩
 | dK kvs=>obtain⟨z,y,vs,r,ob,es,ep,e,c⟩:=x;exact⟨z,y,vs,r,ob,es,ep,k _ _ (.inl rfl) e,c⟩
 | dT kvs=>
  obtain⟨z,y,xs,r,ob,es,ep,e,c⟩:=x;exact⟨z,y,xs,Paired.mapP r λp q z=>⟨z.1,ht _ _ z.2.1,z.2.2⟩,ob,es,ep,k _ _ (.inl rfl) e,c⟩
 | set S n=>obtain⟨ob,es,ep,t,e,c⟩:=x;exact⟨ob,es,ep,t,k _ _ (.inl rfl) e,c⟩
 | ins C dx fs=>
  obtain⟨d,z,ne,e,mA,⟨od,es,ep,e2,c⟩,r⟩:=x;exact⟨ho _ d,z,ne,k _ _ (.inl rfl) e,mA,⟨od,es,ep,k _ _ (.inr d) e2,c⟩,r⟩
 | own y=>obtain⟨ob,e⟩:=x;exact⟨ob,k _ _ (.inl rfl) e⟩
 | xd fs=>obtain⟨mA,⟨od,es,ep,e,c⟩,r⟩:=x;exact⟨mA,⟨od,es,ep,k _ _ (.inl rfl) e,c⟩,r⟩
 | rng lo hi=>obtain⟨t,u,v,e⟩:=x;exact⟨t,u,v,k _ _ (.inl rfl) e⟩
 | frz ob u ih=>obtain⟨e,q⟩:=x;exact⟨k _ _ (.inl rfl) e,ih q⟩
 | tbl ps=>
  have e:=x;exact k a _ (.inl rfl) e
 | met f y=>
  have e:=x;exact k a _ (.inl rfl) e
 | ext φ=>obtain⟨p,⟨o,e⟩,st⟩:=x;exact⟨st _ _ p λo q=>k _ _ (.inl rfl) q,⟨o,k _ _ (.inl rfl) e⟩,st⟩
theorem HOk.lt(x:HOk P w H h)(e:H a=some o):a<h.objs.size:=(x a o e).lt
theorem HOk.fresh(x:HOk P w H h)(e:h.objs.size<=a):H a=none:=by
 cases q:H a with
 | none=>rfl
 | some u=>exact absurd (JN (x.lt q) e) (Lu _)
theorem HOk.kept(x:HOk P w H h)(k:∀b u,h.get? b=some u->h'.get? b=some u):HOk P w H h':=λa o e=>
 (x a o e).stay (λb u _ q=>k b u q) (λ_ q=>q) λ_ _ q=>q
theorem HOk.laid(x:HOk P w H h)(k:∀b u,h.get? b=some u->h'.get? b=some u)(i:h.objs.size<=a)(d:ObjOk P w (upd H a o) h' a o):HOk P w (upd H a o) h':=λb u e=>by
 have g:=x.fresh i;by_cases f:b=a
 ·subst f;rw[b8]at e;ext e;exact d
 ·rw[a8 f]at e;exact(x b u e).stay (λc v _ q=>k c v q) (λc q=>by rw[a8 (b9 q g)];exact q) λc xs q=>by rw[a8 (b9 q g)];exact q
end
def Rd(H:Hp)(a:Addr)(u:HO):Prop:=H a=some u\/∃o,H a=some (.frz o u)
theorem Rd.ok{H:Hp}{h:Heap}{a:Addr}{u:HO}(r:Rd H a u)(x:HOk P w H h):ObjOk P w H h a u:=by
 rcases r with r | ⟨o,r⟩
 ·exact x a u r
 ·obtain⟨_,q⟩:=x a _ r;exact q
def Mut:Option HO->Prop
 | some (.lst _)=>True
 | some (.dK _)=>True
 | some (.dT _)=>True
 | some (.set _ _)=>True
 | some (.ins _ _ _)=>True
 | some (.ext _)=>True
 | _=>False
section
variable {P:Program}{w:World}{H:Hp}{h h':Heap}{x e:Addr}{o':HO}
theorem HOk.write(s:HOk P w H h)(g:Mut (H x))(o:e=x\/H e=some (.own x))(k:∀b u,b≠e->h.get? b=some u->h'.get? b=some u)(i:∃u,h'.get? e=some u)
  (j:ObjOk P w (upd H x o') h' x o'):HOk P w (upd H x o') h':=λb u q=>by
 have f:∀c y,H c=some (.own y)->c≠x:=λc y r z=>by subst z;rw[r]at g;exact g
 have d:∀c xs,H c=some (.tup xs)->c≠x:=λc xs r z=>by subst z;rw[r]at g;exact g
 by_cases l:b=x
 ·subst l;rw[b8]at q;ext q;exact j
 ·rw[a8 l]at q;by_cases a:b=e
  ·have n:H b=some (.own x):=by
    rcases o with z | z
    ·grind
    ·rw[a];exact z
   rw[q]at n;ext n;obtain⟨v,p⟩:=i;exact⟨v,by rw[a];exact p⟩
  ·refine(s b u q).stay (λc v m r=>k c v ?_ r) (λc r=>by rw[a8 (f c b r)];exact r) λc xs r=>by rw[a8 (d c xs r)];exact r
   rcases m with rfl | m
   ·exact a
   ·grind
end
structure Un(fs ex:List Addr)(H H':Hp)(h h':Heap):Prop where
 keep:∀b o,h.get? b=some o->H b=none->b∉fs->b∉ex->h'.get? b=some o
 slot:∀b o,h.get? b=some o->H b=none->b∈fs->b∉ex->∃sl,h'.get? b=some { o with slots:=sl }
 free:∀b o,h.get? b=some o->H b=none->b∉ex->H' b=none
 there:∀b o,h.get? b=some o->b∉ex->∃o',h'.get? b=some o'
 tups:∀b xs,H b=some (.tup xs)->H' b=some (.tup xs)
 frzs:∀b o u,H b=some (.frz o u)->H' b=some (.frz o u)
 tbls:∀b ps,H b=some (.tbl ps)->∃more,H' b=some (.tbl (ps++more))
section
variable {fs fs' ex ex':List Addr}{H H1 H2:Hp}{h h1 h2 h':Heap}{a x e:Addr}{o:HO}
theorem Un.any(u:Un fs ex H H1 h h1){b:Addr}{ob:Obj}(q:h.get? b=some ob)(n:H b=none)(c:b∉ex):∃d,h1.get? b=some { ob with slots:=d }:=by
 by_cases a:b∈fs
 ·exact u.slot b ob q n a c
 ·exact⟨ob.slots,u.keep b ob q n a c⟩
theorem Un.kept(k:∀b u,h.get? b=some u->h'.get? b=some u):Un fs ex H H h h':=
 ⟨λb ob q _ _ _=>k b ob q,λb ob q _ _ _=>⟨ob.slots,k b ob q⟩,λ_ _ _ n _=>n,λb ob q _=>⟨ob,k b ob q⟩,λ_ _ q=>q,λ_ _ _ q=>q,λ_ ps q=>⟨#[],by rw[q];simp⟩⟩
theorem Un.refl:Un fs ex H H h h:=Un.kept λ_ _ q=>q
theorem Un.laid(k:∀b u,h.get? b=some u->h'.get? b=some u)(d:h.objs.size<=a)(c:H a=none):Un fs ex H (upd H a o) h h' where
 keep:=λb u q _ _ _=>k b u q
 slot:=λb u q _ _ _=>⟨u.slots,k b u q⟩
 free:=λb u q n _=>by rw[a8 (JF (JN (Jx q) d))];exact n
 there:=λb u q _=>⟨u,k b u q⟩
 tups:=λb xs q=>by rw[a8 (b9 q c)];exact q
 frzs:=λb u xs q=>by rw[a8 (b9 q c)];exact q
 tbls:=λb ps q=>⟨#[],by rw[a8 (b9 q c),q];simp⟩
theorem Un.write(a:Mut (H x))(i:e=x\/H e=some (.own x))(k:∀b u,b≠e->h.get? b=some u->h'.get? b=some u)(g:∃u,h'.get? e=some u):Un fs ex H (upd H x o) h h':=by
 have d:∀b,H b=none->b≠x:=λb n z=>by subst z;rw[n]at a;exact a
 have f:∀b,H b=none->b≠e:=λb n z=>by
  subst z;rcases i with r | r
  ·exact d b n r
  ·rw[n]at r;ext r
 have c:∀b u,H b=some u->¬ Mut (some u)->b≠x:=λb u q j z=>by subst z;rw[q]at a;exact j a
 refine⟨λb u q n _ _=>k b u (f b n) q,λb u q n _ _=>⟨u.slots,k b u (f b n) q⟩,λb u q n _=>by rw[a8 (d b n)];exact n,λb u q _=>?_,
  λb xs q=>by rw[a8 (c b _ q λz=>z)];exact q,λb u xs q=>by rw[a8 (c b _ q λz=>z)];exact q,λb ps q=>⟨#[],by rw[a8 (c b _ q λz=>z),q];simp⟩⟩
 grind
end
def trk(h:Heap)(H:Hp):List Addr:=(List.range h.objs.size).filter λa=>(H a).isSome
def fY(h:Heap)(H:Hp):Heap:=PySem.W.hideAll h (trk h H)
theorem mP(h:Heap)(H:Hp):(fY h H).objs.size=h.objs.size:=PySem.W.hideAll_size _ _
theorem oR{H:Hp}{b:Addr}{o:Obj}(e:h.get? b=some o)(n:H b=none):(fY h H).get? b=some o:=
 PySem.W.hideAll_get _ e λa=>by
  have q:=(Mk.mp a).2;rw[n]at q;simp at q
theorem wH(e:(fY h H).get? b=some o):h.get? b=some o/\H b=none:=by
 have a:=PySem.W.of_hideAll (trk h H) e;refine⟨a,?_⟩;cases q:H b with
 | none=>rfl
 | some x=>
  have c:b∈trk h H:=Mk.mpr ⟨KE.mpr (Jx a),by simp[q]⟩;have z:(fY h H).get? b=none:=PySem.W.hideAll_none (trk h H) c;rw[z]at e;ext e
structure Mod(K:PySem.W.Frag)(mg:Str->Option Value)(base:Heap):Prop where
 kin:K.In base
 glob:base.Ns mainGlobals mg
 blt:∃mb,base.Ns builtinsNs mb/\∀x:Str,x ≠ "__name__"->mb x=bootBuiltins x
 nolimit:base.NoLimit
structure Cx where
 prog:Program
 w:World
 K:PySem.W.Frag
 mg:Str->Option Value
 base:Heap
 A:Around
 N:List Str
 s₀:Shared
 H₀:Hp
 env:Env
 outer:List Env
 stack:List Env
 ex:List Addr
 fn:Str->Bool
 calm:Bool
 pn:List (Addr×Obj)
 xe:Value->Shared->Prop
def frs(l:List Env):List Addr:=l.filterMap (·.frame)
abbrev Cx.fs(X:Cx):List Addr:=frs X.outer
def Vis(a:Scope)(x:Str):Prop:=a.names.lookup x=some .local\/a.names.lookup x=some .cell\/a.names.lookup x=some .free
def Loc(a:Scope)(x:Str):Prop:=a.names.lookup x=some .local\/a.names.lookup x=some .cell
def IM(a:Env)(h:Heap)(m:Str->Option Value)(x:Str)(u:Value):Prop:=
 (a.kindOf x=some .local/\m x=some u)\/((a.kindOf x=some .cell\/a.kindOf x=some .free)/\∃c,a.cells.lookup x=some c/\h.IsCell c (some u))
structure Cx.Ok(X:Cx):Prop where
 mod:Mod X.K X.mg X.base
 kind:X.env.scope.kind=.function
 glob:X.env.globals=mainGlobals
 blt:X.env.builtins=builtinsNs
 above:X.s₀.heap.objs.size<=X.env.locals
 inj:∀x y c,X.env.cells.lookup x=some c->X.env.cells.lookup y=some c->x=y
 has:∀x,(X.env.kindOf x=some .cell\/X.env.kindOf x=some .free)->∃c,X.env.cells.lookup x=some c
 cab:∀x c,X.fn x=true->X.env.cells.lookup x=some c->X.s₀.heap.objs.size<=c
 hd:X.calm=true->X.A.handled=none
 frames:X.A.frames=some X.stack
 stk:X.stack=X.outer\/(X.stack=X.env::X.outer/\X.env.frame=some X.env.locals)
 exf:∀b∈X.ex,b≠X.env.locals/\∀x c,X.env.cells.lookup x=some c->c≠b
 bs:∀b o,X.base.get? b=some o->X.s₀.heap.get? b=some o/\X.H₀ b=none
 bsz:X.base.objs.size<=X.s₀.heap.objs.size
 noex:∀b o,X.base.get? b=some o->b∉X.ex
 exfs:∀b∈X.ex,b∉X.fs
 funs:X.s₀.heap.FunFrames X.base X.outer
 frf:∀b∈X.fs,X.H₀ b=none
structure Inv(X:Cx)(π:List (Addr×Obj))(σ:List (Option V))(H:Hp)(s:Shared):Prop where
 ok:X.Ok
 os:s.os=X.s₀.os
 bare:AllBare s.gens
 base:Un X.fs X.ex X.H₀ H X.s₀.heap s.heap
 loc:∃m,s.heap.Ns X.env.locals m/\∀(i:Nat)(x:Str)(v:V),X.N[i]?=some x->σ[i]?=some (some v)->Vis X.env.scope x->∃u,RelV v u/\IM X.env s.heap m x u
 cell:∀x c,X.env.cells.lookup x=some c->∃v,s.heap.IsCell c v
 free:H X.env.locals=none
 freeC:∀x c,X.env.cells.lookup x=some c->H c=none
 pin:∀p∈X.pn++π,s.heap.get? p.1=some p.2/\H p.1=none/\p.1≠X.env.locals/\p.1∉X.fs/\∀v,p.2.data≠.cell v
 hok:HOk X.prog X.w H s.heap
 len:σ.length=X.N.length
section
variable {X:Cx}{π:List (Addr×Obj)}{σ:List (Option V)}{H H':Hp}{s:Shared}{h':Heap}
theorem Cx.Ok.nofr(c:X.Ok){b:Addr}{o:Obj}(e:X.base.get? b=some o):b∉X.fs:=λa=>by
 have:=(c.funs.mem a).1;rw[e]at this;ext this
theorem Inv.bs(I:Inv X π σ H s):∀b o,X.base.get? b=some o->s.heap.get? b=some o/\H b=none:=λb o e=>
 ⟨I.base.keep b o (I.ok.bs b o e).1 (I.ok.bs b o e).2 (I.ok.nofr e) (I.ok.noex b o e),I.base.free b o (I.ok.bs b o e).1 (I.ok.bs b o e).2 (I.ok.noex b o e)⟩
theorem Inv.bk(I:Inv X π σ H s):∀b o,X.base.get? b=some o->s.heap.get? b=some o:=λb o e=>(I.bs b o e).1
theorem Inv.mod(I:Inv X π σ H s):Mod X.K X.mg X.base:=I.ok.mod
theorem Inv.kIn(I:Inv X π σ H s):X.K.In s.heap:=I.ok.mod.kin.keeps I.bk
theorem Inv.fr(I:Inv X π σ H s):∃m,Fr X.base X.env.locals s.heap m:=
 let ⟨m,a,_⟩:=I.loc
 ⟨m,a,I.bk,JW I.ok.bsz I.ok.above⟩
theorem Inv.lt(I:Inv X π σ H s):X.env.locals<s.heap.objs.size:=let ⟨_,a,_⟩:=I.loc;a.lt
theorem Inv.sz(I:Inv X π σ H s):X.s₀.heap.objs.size<=s.heap.objs.size:=JW I.ok.above (Ny I.lt)
theorem Inv.nofs(I:Inv X π σ H s){a:Addr}(h:s.heap.objs.size<=a):a∉X.fs:=λb=>by
 obtain⟨_,o,c,_⟩:=I.ok.funs.mem b;exact absurd (JN (Jx c) (JW I.sz h)) (Lu _)
theorem Inv.cne(I:Inv X π σ H s):∀x c,X.env.cells.lookup x=some c->c≠X.env.locals:=λx c e z=>by
 obtain⟨v,o,d,hd⟩:=I.cell x c e;obtain⟨m,⟨o',es,f,a,b,_⟩,_⟩:=I.loc;rw[z,a]at d;ext d;rw[b]at hd;ext hd
theorem Inv.funs(I:Inv X π σ H s):s.heap.FunFrames X.base X.outer:=by
 have a:∀(l:List Env),(∀b∈frs l,b∈X.fs)->X.s₀.heap.FunFrames X.base l->s.heap.FunFrames X.base l:=by
  intro l;induction l with
  | nil=>intro _ _;trivial
  | cons j r n=>
   intro hs k;obtain⟨g,⟨L,o,c,i,h,hd⟩,m⟩:=k;have f:=hs L (by unfold frs;rw[Ly,c];exact Jy);obtain⟨p,e⟩:=I.base.slot L o h (I.ok.frf L f) f λz=>I.ok.exfs L z f;exact⟨g,⟨L,_,c,i,e,hd⟩,n (λb d=>hs b (by unfold frs;rw[Ly,c];exact JE _ d)) m⟩
 exact a X.outer (λ_ d=>d) I.ok.funs
theorem Inv.stack(I:Inv X π σ H s):s.heap.FunFrames X.base X.stack:=by
 rcases I.ok.stk with e | ⟨e,hf⟩
 ·rw[e];exact I.funs
 ·rw[e];obtain⟨m,a,_⟩:=I.loc;refine .cons (by rw[I.ok.kind];decide) hf a ?_ I.funs;exact Heap.get?_none_of_le (JW I.ok.bsz I.ok.above)
theorem Inv.stkSub(I:Inv X π σ H s):∀b∈frs X.stack,b∈X.env.locals::X.fs:=λb a=>by
 rcases I.ok.stk with e | ⟨e,hf⟩
 ·grind
 ·rw[e]at a;unfold frs at a;rw[Ly,hf]at a;exact a
theorem Inv.stkFree(I:Inv X π σ H s):∀b∈frs X.stack,H b=none:=λb a=>by
 rcases JH.mp (I.stkSub b a)with e | a
 ·rw[e];exact I.free
 ·obtain⟨_,o,c,_⟩:=I.ok.funs.mem a;exact I.base.free b o c (I.ok.frf b a) λz=>I.ok.exfs b z a
theorem Inv.step{d':Drawn}{ch:List Addr}(I:Inv X π σ H s)
  (h:∀b∈ch,(b∈X.ex\/X.s₀.heap.objs.size<=b)/\b≠X.env.locals/\(∀x c,X.env.cells.lookup x=some c->c≠b)/\∀p∈X.pn++π,p.1≠b)
  (j:∀b o,b≠X.env.locals->b∉X.fs->b∉ch->s.heap.get? b=some o->H b=none->h'.get? b=some o)
  (A:∀b o,b≠X.env.locals->b∈X.fs->b∉ch->s.heap.get? b=some o->H b=none->∃O,h'.get? b=some { o with slots:=O }) (f:∀b o,b∉ch->s.heap.get? b=some o->H b=none->H' b=none)
  (C:∀b o,b∉ch->s.heap.get? b=some o->∃o',h'.get? b=some o')
  (G:∀b xs,H b=some (.tup xs)->H' b=some (.tup xs)) (J:∀b o u,H b=some (.frz o u)->H' b=some (.frz o u)) (E:∀b ps,H b=some (.tbl ps)->∃F,H' b=some (.tbl (ps++F)))
  (ns:∀m,s.heap.Ns X.env.locals m->h'.Ns X.env.locals m) (N:HOk X.prog X.w H' h') (Y:AllBare g') :
  Inv X π σ H' { s with heap:=h',gens:=g',drawn:=d',toks:=t' }:=by
 have K:∀b o,X.s₀.heap.get? b=some o->b≠X.env.locals:=λb o e=>JF (JN (Jx e) I.ok.above);have w:∀b o,X.s₀.heap.get? b=some o->b∉X.ex->b∉ch:=λb o e a B=>by
  rcases(h b B).1 with z | z
  ·exact a z
  ·exact absurd (JN (Jx e) z) (Lu _)
 have t:∀x c,X.env.cells.lookup x=some c->∀v,s.heap.IsCell c v->h'.IsCell c v:=λx c e v ⟨o,D,hd⟩=>by
  have g:=λz=>(h c z).2.2.1 x c e rfl;by_cases P:c∈X.fs
  ·obtain⟨O,q⟩:=A c o (I.cne x c e) P g D (I.freeC x c e);exact⟨_,q,hd⟩
  ·exact⟨o,j c o (I.cne x c e) P g D (I.freeC x c e),hd⟩
 refine⟨I.ok,I.os,Y,⟨λb o e n B a=>?_,λb o e n B a=>?_,λb o e n a=>?_,λb o e a=>?_,λb xs e=>G b xs (I.base.tups b xs e),λb o xs e=>J b o xs (I.base.frzs b o xs e),λb ps e=>?_⟩,?_,λx c e=>?_,?_,λx c e=>?_,λp S=>?_,N,I.len⟩
 ·exact j b o (K b o e) B (w b o e a) (I.base.keep b o e n B a) (I.base.free b o e n a)
 ·obtain⟨O,y⟩:=I.base.slot b o e n B a;obtain⟨M,L⟩:=A b _ (K b o e) B (w b o e a) y (I.base.free b o e n a);exact⟨M,L⟩
 ·obtain⟨o',y⟩:=I.base.there b o e a;exact f b o' (w b o e a) y (I.base.free b o e n a)
 ·obtain⟨o',y⟩:=I.base.there b o e a;exact C b o' (w b o e a) y
 ·obtain⟨U,y⟩:=I.base.tbls b ps e;obtain⟨m2,L⟩:=E b _ y;exact⟨U++m2,by rw[L,Array.append_assoc]⟩
 ·obtain⟨m,V,T⟩:=I.loc;refine⟨m,ns m V,λi x v y L W=>?_⟩;obtain⟨u,r,l⟩:=T i x v y L W;refine⟨u,r,?_⟩;rcases l with l | ⟨k,c,e,z⟩
  ·exact .inl l
  ·exact .inr ⟨k,c,e,t x c e _ z⟩
 ·obtain⟨v,z⟩:=I.cell x c e;exact⟨v,t x c e v z⟩
 ·obtain⟨m,⟨o,_,_,D,_⟩,_⟩:=I.loc;exact f _ o (λz=>(h _ z).2.1 rfl) D I.free
 ·obtain⟨v,o,D,hd⟩:=I.cell x c e;exact f c o (λz=>(h c z).2.2.1 x c e rfl) D (I.freeC x c e)
 ·obtain⟨e,n,R,Q,d⟩:=I.pin p S;have g:=λz=>(h p.1 z).2.2.2 p S rfl;exact⟨j p.1 p.2 R Q g e n,f p.1 p.2 g e n,R,Q,d⟩
theorem Inv.un(I:Inv X π σ H s)(u:Un X.fs [] H H' s.heap h')(c:HOk X.prog X.w H' h'):Inv X π σ H' { s with heap:=h',toks:=t' }:=by
 obtain⟨m,⟨o,es,k,g,r⟩,_⟩:=id I.loc;obtain⟨l,j⟩:=u.any g I.free (by simp);exact I.step (ch:=[]) (λ_ z=>nomatch z) (λb o _ d _ e n=>u.keep b o e n d (by simp)) (λb o _ d _ e n=>u.slot b o e n d (by simp)) (λb o _ e n=>u.free b o e n (by simp)) (λb o _ e=>u.there b o e (by simp)) u.tups u.frzs u.tbls (λm' i=>by
  obtain⟨o',es',f,a,h⟩:=i;rw[g]at a;ext a;exact⟨_,es',f,j,h⟩) c I.bare
theorem Inv.call{d':Drawn}{ch:List Addr}(I:Inv X π σ H s)(u:Un (frs X.stack) ch H H' s.heap h')(g:HOk X.prog X.w H' h')(q:AllBare g')
  (f:∀b∈ch,(b∈X.ex\/X.s₀.heap.objs.size<=b)/\b≠X.env.locals/\(∀x c,X.env.cells.lookup x=some c->c≠b)/\∀p∈X.pn++π,p.1≠b) :
  Inv X π σ H' { s with heap:=h',gens:=g',drawn:=d',toks:=t' }:=by
 obtain⟨m,⟨o,es,v,j,r⟩,_⟩:=id I.loc;obtain⟨w,i⟩:=u.any j I.free λz=>(f _ z).2.1 rfl;exact I.step f (λb o i l a e n=>u.keep b o e n (λz=>(JH.mp (I.stkSub b z)).elim i l) a) (λb o _ _ a e n=>u.any e n a) (λb o a e n=>u.free b o e n a) (λb o a e=>u.there b o e a) u.tups u.frzs u.tbls (λm' t=>by
  obtain⟨o',es',h,d,k⟩:=t;rw[j]at d;ext d;exact⟨_,es',h,i,k⟩) g q
theorem Inv.turned{t':Nat}{it:Addr}(I:Inv X π σ H s)(k:∀b o,b≠it->s.heap.get? b=some o->h'.get? b=some o)(hn:H it=none)(hL:it≠X.env.locals)
  (h1:it∈X.ex\/X.s₀.heap.objs.size<=it) (h2:∀x c,X.env.cells.lookup x=some c->c≠it) (h3:∀p∈X.pn++π,p.1≠it):Inv X π σ H { s with heap:=h',toks:=t' }:=by
 have nit:∀b u,H b=some u->b≠it:=λb u e z=>by rw[z,hn]at e;ext e
 refine I.step (g':=s.gens) (d':=s.drawn) (ch:=[it]) (λb hb=>?_) (λb o _ _ hc e _=>k b o (λz=>hc (by simp[z])) e) (λb o _ _ hc e _=>⟨o.slots,k b o (λz=>hc (by simp[z])) e⟩) (λ_ _ _ _ n=>n)
  (λb o hc e=>⟨o,k b o (λz=>hc (by simp[z])) e⟩) (λ_ _ e=>e) (λ_ _ _ e=>e) (λb ps e=>⟨#[],by rw[e];simp⟩) (λm hm=>?_) (λb u e=>?_) I.bare
 ·have e:b=it:=by simpa using hb
  subst e;exact⟨h1,hL,h2,h3⟩
 ·obtain⟨o,es,ep,ho,r⟩:=hm;exact⟨o,es,ep,k _ o (Ne.symm hL) ho,r⟩
 ·refine(I.hok b u e).stay (λc v hc q=>k c v ?_ q) (λ_ q=>q) λ_ _ q=>q;rcases hc with z | z
  ·rw[z];exact nit b u e
  ·exact nit c _ z
theorem Inv.tok(I:Inv X π σ H s)(t:Nat):Inv X π σ H { s with toks:=t }:=I.un Un.refl I.hok
theorem Inv.kept(I:Inv X π σ H s)(k:∀b u,s.heap.get? b=some u->h'.get? b=some u):Inv X π σ H { s with heap:=h',toks:=t' }:=I.un (Un.kept k) (I.hok.kept k)
theorem Inv.laid{a:Addr}{o:HO}{t':Nat}(I:Inv X π σ H s)(k:∀b u,s.heap.get? b=some u->h'.get? b=some u)(d:s.heap.objs.size<=a)(c:ObjOk X.prog X.w (upd H a o) h' a o) :
  Inv X π σ (upd H a o) { s with heap:=h',toks:=t' }:=I.un (Un.laid k d (I.hok.fresh d)) (I.hok.laid k d c)
theorem Inv.write(I:Inv X π σ H s)(f:Mut (H x))(d:e=x\/H e=some (.own x))(k:∀b u,b≠e->s.heap.get? b=some u->h'.get? b=some u)(a:∃u,h'.get? e=some u)
  (c:ObjOk X.prog X.w (upd H x o) h' x o):Inv X π σ (upd H x o) { s with heap:=h',toks:=t' }:=I.un (Un.write f d k a) (I.hok.write f d k a c)
theorem Inv.weak(I:Inv X π σ H s)(d:σ'.length=σ.length)(w:∀(i:Nat) v,σ'[i]?=some (some v)->σ[i]?=some (some v)):Inv X π σ' H s:=
 ⟨I.ok,I.os,I.bare,I.base,let ⟨m,b,a⟩:=I.loc;⟨m,b,λi x v e c f=>a i x v e (w i v c) f⟩,I.cell,I.free,I.freeC,I.pin,I.hok,d.trans I.len⟩
theorem Inv.pins_of(I:Inv X π σ H s)(h:∀p∈pins',s.heap.get? p.1=some p.2/\H p.1=none/\p.1≠X.env.locals/\p.1∉X.fs/\∀v,p.2.data≠.cell v):Inv X pins' σ H s:=
 ⟨I.ok,I.os,I.bare,I.base,I.loc,I.cell,I.free,I.freeC,λp a=>(JY.mp a).elim (λz=>I.pin p (List.mem_append_left _ z)) (h p),I.hok,I.len⟩
theorem ak{N:List Str}(e:N.Nodup){i j:Nat}{x:Str}(a:N[i]?=some x)(b:N[j]?=some x):i=j:=by
 obtain⟨f,d⟩:=Js.mp a;obtain⟨g,c⟩:=Js.mp b;exact(Nr e).mp (d.trans c.symm)
theorem cO{i:Nat}{x:Str}{v:V}{u:Value}{Q:Unit->Shared->Prop}(I:Inv X π σ H s)(hN:X.N.Nodup)(O:X.N[i]?=some x)(t:Loc X.env.scope x)(r:RelV v u)
  (h:∀s',Inv X π (σ.set i (some v)) H s'->(∃a,Heap.SameBut a s.heap s'.heap/\(a=X.env.locals\/X.env.cells.lookup x=some a))->Q () s') (hf:X.fn x=true\/X.env.scope.names.lookup x=some .local:=by first | exact .inl rfl | exact .inr rfl | assumption):wpAny M A (storeName X.env x u) Q E s:=by
 obtain⟨m,Z,hl⟩:=id I.loc;have L:(X.env.scope.kind==.class||(X.env.scope.kind==.module&&X.env.locals != X.env.globals))=false:=by rw[I.ok.kind];rfl
 have B:i<σ.length:=by rw[I.len];exact(Js.mp O).1
 have C:=I.cne;have f:∀{a:Addr}{h':Heap},(∃o,s.heap.get? a=some o/\H a=none)->Heap.SameBut a s.heap h'->HOk X.prog X.w H h':=λ{a h'} ha hs b ob e=>by
  obtain⟨_,_,hfree⟩:=ha;refine(I.hok b ob e).stay (λc w' l q=>(hs.2 c ?_).trans q) (λ_ q=>q) λ_ _ q=>q;rintro rfl;rcases l with rfl | l
  ·grind
  ·grind
 rcases t with hk | hk
 ·refine wpAny_storeName_local hk Z (λh' W hs=>?_) L;obtain⟨oL,_,_,hoL,_⟩:=id Z;refine h _ ⟨I.ok,I.os,I.bare,⟨λb o e n D t=>?_,λb o e n D t=>?_,I.base.free,λb o e t=>?_,I.base.tups,I.base.frzs,I.base.tbls⟩,⟨_,W,λj y T g w e3=>?_⟩,λy c e=>?_,I.free,I.freeC,λp hp=>?_,f ⟨oL,hoL,I.free⟩ hs,by simpa using I.len⟩ ⟨_,hs,.inl rfl⟩
  ·exact(hs.2 b (JF (JN (Jx e) I.ok.above))).trans (I.base.keep b o e n D t)
  ·obtain⟨sl,g⟩:=I.base.slot b o e n D t;exact⟨sl,(hs.2 b (JF (JN (Jx e) I.ok.above))).trans g⟩
  ·obtain⟨o',g⟩:=I.base.there b o e t;exact⟨o',(hs.2 b (JF (JN (Jx e) I.ok.above))).trans g⟩
  ·by_cases F:j=i
   ·subst F;rw[O]at g;ext g;rw[Ke B]at w;ext w;exact⟨u,r,.inl ⟨hk,by simp⟩⟩
   ·rw[Kk (Ne.symm F)]at w;obtain⟨Y,r',q⟩:=hl j y T g w e3;refine⟨Y,r',?_⟩;rcases q with ⟨k,e⟩ | ⟨k,c,e,z⟩
    ·refine .inl ⟨k,?_⟩;have:y≠x:=λe=>F (ak hN g (e▸O));simp[this,e]
    ·exact .inr ⟨k,c,e,z.sameBut hs (C y c e)⟩
  ·obtain⟨w',z⟩:=I.cell y c e;exact⟨w',z.sameBut hs (C y c e)⟩
  ·obtain⟨e,n,R,U,d⟩:=I.pin p hp;exact⟨(hs.2 p.1 R).trans e,n,R,U,d⟩
 ·have G:X.fn x=true:=by
   rcases hf with z | z
   ·exact z
   ·rw[z]at hk;ext hk
  obtain⟨c,l⟩:=I.ok.has x (.inl hk);obtain⟨w',z⟩:=I.cell x c l;refine wpAny_storeName_cell I.ok.kind hk l z (λh' N hs=>?_);obtain⟨oc,J,P⟩:=id z;refine h { s with heap:=h' } ⟨I.ok,I.os,I.bare,⟨λb o e n D t=>?_,λb o e n D t=>?_,I.base.free,λb o e t=>?_,I.base.tups,I.base.frzs,I.base.tbls⟩,⟨m,Z.sameBut hs (Ne.symm (C x c l)),λj y T g w e3=>?_⟩,λy S e=>?_,I.free,I.freeC,λp hp=>?_,f ⟨oc,J,I.freeC x c l⟩ hs,by simpa using I.len⟩ ⟨c,hs,.inr l⟩
  ·exact(hs.2 b (JF (JN (Jx e) (I.ok.cab x c G l)))).trans (I.base.keep b o e n D t)
  ·obtain⟨sl,g⟩:=I.base.slot b o e n D t;exact⟨sl,(hs.2 b (JF (JN (Jx e) (I.ok.cab x c G l)))).trans g⟩
  ·obtain⟨o',g⟩:=I.base.there b o e t;exact⟨o',(hs.2 b (JF (JN (Jx e) (I.ok.cab x c G l)))).trans g⟩
  ·by_cases F:j=i
   ·subst F;rw[O]at g;ext g;rw[Ke B]at w;ext w;exact⟨u,r,.inr ⟨.inl hk,c,l,N⟩⟩
   ·rw[Kk (Ne.symm F)]at w;obtain⟨Y,r',q⟩:=hl j y T g w e3;refine⟨Y,r',?_⟩;rcases q with q | ⟨k,S,e,z'⟩
    ·exact .inl q
    ·refine .inr ⟨k,S,e,z'.sameBut hs ?_⟩;rintro rfl;exact F (ak hN g (I.ok.inj _ _ _ e l▸O))
  ·by_cases K:S=c
   ·subst K;exact⟨_,N⟩
   ·obtain⟨w2,z2⟩:=I.cell y S e;exact⟨w2,z2.sameBut hs K⟩
  ·obtain⟨e,n,R,U,d⟩:=I.pin p hp;refine⟨(hs.2 p.1 ?_).trans e,n,R,U,d⟩;intro q;rw[q,J]at e;have q':=JZ e;exact d w' (by rw[<- q'];exact P)
theorem K5{i:Nat}{x:Str}{v:V}{u:Value}{Q:Unit->Shared->Prop}(I:Inv X π σ H s)(e:X.N.Nodup)(c:X.N[i]?=some x)(a:Loc X.env.scope x)(r:RelV v u)
  (h:∀s',Inv X π (σ.set i (some v)) H s'->Q () s') (b:X.fn x=true\/X.env.scope.names.lookup x=some .local:=by first | exact .inl rfl | exact .inr rfl | assumption):wpAny M A (storeName X.env x u) Q E s:=
 cO I e c a r (λs' d _=>h s' d) b
theorem Inv.call'{ch:List Addr}(I:Inv X π σ H s)(g:s'.os=s.os)(u:Un (frs X.stack) ch H H' s.heap s'.heap)(d:HOk X.prog X.w H' s'.heap)(f:AllBare s'.gens)
  (a:∀b∈ch,(b∈X.ex\/X.s₀.heap.objs.size<=b)/\b≠X.env.locals/\(∀x c,X.env.cells.lookup x=some c->c≠b)/\∀p∈X.pn++π,p.1≠b):Inv X π σ H' s':=by
 obtain⟨h',g',d',t',o'⟩:=s';have e:=g;subst e;exact I.call u d f a
end
abbrev XK:=Value->Option Addr->Hp->Prop
abbrev St:=List (Option V)
abbrev VK:=V->Hp->Prop
abbrev TE:=St->Hp->VK->Prop
abbrev TT:=St->Hp->(Bool->Hp->Prop)->Prop
abbrev TA:=St->Hp->(List V->Hp->Prop)->Prop
structure Ends where
 nx:St->Hp->Prop
 rt:VK
 bk:St->Hp->Prop:=λ_ _=>False
 ct:St->Hp->Prop:=λ_ _=>False
abbrev TS:=Ends->St->Hp->Prop
def EP(X:Cx)(π:List (Addr×Obj))(σ:St)(Q:VK)(u:Value)(s':Shared):Prop:=∃v H',Inv X π σ H' s'/\RelV v u/\Q v H'
def TP(X:Cx)(π:List (Addr×Obj))(σ:St)(Q:Bool->Hp->Prop)(b:Bool)(s':Shared):Prop:=∃H',Inv X π σ H' s'/\Q b H'
def AP(X:Cx)(π:List (Addr×Obj))(σ:St)(Q:List V->Hp->Prop)(us:List Value)(s':Shared):Prop:=∃vs H',Inv X π σ H' s'/\Vals vs us/\Q vs H'
def SP(X:Cx)(π:List (Addr×Obj))(D:Ends)(f:Flow)(s':Shared):Prop:=
 match f with
 | .next=>∃a H',Inv X π a H' s'/\D.nx a H'
 | .brk=>∃a H',Inv X π a H' s'/\D.bk a H'
 | .cont=>∃a H',Inv X π a H' s'/\D.ct a H'
 | .ret u=>∃v a H',Inv X π a H' s'/\RelV v u/\D.rt v H'
def PE(X:Cx)(e:Expr)(t:TE):Prop:=
 ∀(π:List (Addr×Obj)) (s:Shared) (σ:St) (H:Hp) (Q:VK),Inv X π σ H s->t σ H Q->wpAny (model X.prog X.w) X.A (eval e X.env) (EP X π σ Q) X.xe s
def PT(X:Cx)(e:Expr)(t:TT):Prop:=
 ∀(π:List (Addr×Obj)) (s:Shared) (σ:St) (H:Hp) (Q:Bool->Hp->Prop),Inv X π σ H s->t σ H Q->wpAny (model X.prog X.w) X.A (isTrue e X.env (eval e X.env)) (TP X π σ Q) X.xe s
def PW(X:Cx)(e:Expr)(t:TT):Prop:=
 ∀(a:Sem Value) (π:List (Addr×Obj)) (s:Shared) (σ:St) (H:Hp) (Q:Bool->Hp->Prop),Inv X π σ H s->t σ H Q->wpAny (model X.prog X.w) X.A (isTrue e X.env a) (TP X π σ Q) X.xe s
theorem PW.pt(h:PW X e t):PT X e t:=h _
def PA(X:Cx)(es:List Expr)(t:TA):Prop:=
 ∀(pos:Pos) (π:List (Addr×Obj)) (s:Shared) (σ:St) (H:Hp) (Q:List V->Hp->Prop),Inv X π σ H s->t σ H Q->wpAny (model X.prog X.w) X.A (spliced (backTo pos (starEach es X.env))) (AP X π σ Q) X.xe s
def PS(X:Cx)(st:Stmt)(t:TS):Prop:=
 ∀(π:List (Addr×Obj)) (s:Shared) (σ:St) (H:Hp) (D:Ends),Inv X π σ H s->t D σ H->wpAny (model X.prog X.w) X.A (exec st X.env) (SP X π D) X.xe s
def PSs(X:Cx)(st:List Stmt)(t:TS):Prop:=
 ∀(π:List (Addr×Obj)) (s:Shared) (σ:St) (H:Hp) (D:Ends),Inv X π σ H s->t D σ H->wpAny (model X.prog X.w) X.A (execs st X.env) (SP X π D) X.xe s
theorem thn{M:Model}{A:Around}{E:Value->Shared->Prop}{s:Shared}(h:wpAny M A t Q E s)(b:∀a s,Q a s->Q' a s):wpAny M A t Q' E s:=JO h b λ_ _ x=>x
section
variable {X:Cx}
def BL(i:Nat):TE:=λσ H Q=>∃v,σ[i]?=some (some v)/\Q v H
def tC(v:V):TE:=λ_ H Q=>Q v H
theorem tR{pos:Pos}(o:X.N[i]?=some x)(p:Vis X.env.scope x)(hd:(x==("__debug__" : Str))=false:=by decide) (f:(x==("__classdict__" : Str))=false:=by decide):PE X (.Name x pos) (BL i):=by
 intro π s σ H Q I h;obtain⟨v,e,h⟩:=h;obtain⟨m,j,k⟩:=I.loc;obtain⟨u,r,l⟩:=k i x v o e p;have d:EP X π σ Q u s:=⟨v,H,I,r,h⟩;rcases l with ⟨b,n⟩ | ⟨b,c,g,a⟩
 ·exact wpAny_Name (wpAny_loadName_local I.ok.kind b j n d) hd
 ·rcases b with b | b
  ·exact wpAny_Name (wpAny_loadName_cell I.ok.kind b g a d) hd
  ·exact wpAny_Name (wpAny_loadName_free I.ok.kind b g a d f) hd
theorem Ae{i j pos}:PE X (.Constant (.int i) j pos) (tC (.int i)):=λ_ _ _ H _ I h=>wpAny_Constant_int ⟨.int i,H,I.tok _,⟨_,rfl⟩,h⟩
theorem ES{b j pos}:PE X (.Constant (.bool b) j pos) (tC (.bl b)):=λ_ _ _ H _ I h=>Constant_bool ⟨.bl b,H,I,rfl,h⟩
theorem BX{j pos}:PE X (.Constant .none j pos) (tC .non):=λ_ _ _ H _ I h=>Constant_none ⟨.non,H,I,rfl,h⟩
theorem CS{x j pos}:PE X (.Constant (.str x) j pos) (tC (.str x)):=λ_ _ _ H _ I h=>Calls.Constant_str ⟨.str x,H,I.tok _,⟨_,rfl⟩,h⟩
def Gl(X:Cx)(x:Str):Prop:=X.env.kindOf x=some .globalImplicit
theorem E2{π:List (Addr×Obj)}{s:Shared}{σ:St}{H:Hp}{x:Str}{u:Value}{pos:Pos}{Q:Value->Shared->Prop}(I:Inv X π σ H s)(a:Gl X x)(b:X.mg x=some u)(h:Q u s)
  (hd:(x==("__debug__" : Str))=false:=by decide):wpAny (model X.prog X.w) X.A (eval (.Name x pos) X.env) Q E s:=
 MU I.ok.kind a (Calls.loadGlobal_global (by rw[I.ok.glob];exact I.mod.glob.keeps I.bk) b h) hd
theorem C5{E:Value->Shared->Prop}{π:List (Addr×Obj)}{s:Shared}{σ:St}{H:Hp}{x:Str}{u:Value}{pos:Pos}{Q:Value->Shared->Prop}(I:Inv X π σ H s)(d:Gl X x)(e:X.mg x=none)(f:bootBuiltins x=some u)(h:Q u s)
  (a:x ≠ "__name__":=by decide) (hd:(x==("__debug__" : Str))=false:=by decide):wpAny (model X.prog X.w) X.A (eval (.Name x pos) X.env) Q E s:=by
 obtain⟨g,b,c⟩:=I.mod.blt;exact MU I.ok.kind d (Calls.loadGlobal_builtin (by rw[I.ok.glob];exact I.mod.glob.keeps I.bk) e (by rw[I.ok.blt];exact b.keeps I.bk) ((c x a).trans f) h) hd
theorem Y7{u:Value}{pos:Pos}(a:Gl X x)(b:X.mg x=some u)(r:RelV v u)(hd:(x==("__debug__" : Str))=false:=by decide):PE X (.Name x pos) (tC v):=
 λ_ _ _ H _ I h=>E2 I a b ⟨v,H,I,r,h⟩ hd
theorem xW{u:Value}{pos:Pos}(c:Gl X x)(d:X.mg x=none)(b:bootBuiltins x=some u)(r:RelV v u)(a:x ≠ "__name__":=by decide) (hd:(x==("__debug__" : Str))=false:=by decide):PE X (.Name x pos) (tC v):=
 λ_ _ _ H _ I h=>C5 I c d b ⟨v,H,I,r,h⟩ a hd
variable {a b:Expr}{ta tb:TE}{pos:Pos}
variable {tA tB':TT}{rest:List Expr}
def Hz(t u:TT):TT:=λσ H Q=>t σ H λc a=>if c=true then u σ a Q else Q false a
def tOr(t u:TT):TT:=λσ H Q=>t σ H λc a=>if c=true then Q true a else u σ a Q
def DA(t:TT):TT:=λσ H Q=>t σ H λc a=>Q (!c) a
theorem pw_and1(b:PT X a tA):PW X (.BoolOp .And [a] pos) tA:=by
 intro d π s σ H Q I h;refine isTrue_and (thn (b π s σ H Q I h) λc f e=>?_);cases c with
 | true=>exact isTrue_and_nil e
 | false=>exact e
theorem pw_or1(b:PT X a tA):PW X (.BoolOp .Or [a] pos) tA:=by
 intro d π s σ H Q I h;refine isTrue_or (thn (b π s σ H Q I h) λc f e=>?_);cases c with
 | false=>exact isTrue_or_nil e
 | true=>exact e
theorem pw_and(g:PT X a tA)(j:PW X (.BoolOp .And (b::rest) pos) tB'):PW X (.BoolOp .And (a::b::rest) pos) (Hz tA tB'):=by
 intro i π s σ H Q I h;refine isTrue_and (thn (g π s σ H _ I h) λc k ⟨e,d,f⟩=>?_);cases c with
 | true=>exact j i π k σ e Q d f
 | false=>exact⟨e,d,f⟩
theorem pw_or(g:PT X a tA)(j:PW X (.BoolOp .Or (b::rest) pos) tB'):PW X (.BoolOp .Or (a::b::rest) pos) (tOr tA tB'):=by
 intro i π s σ H Q I h;refine isTrue_or (thn (g π s σ H _ I h) λc k ⟨e,d,f⟩=>?_);cases c with
 | true=>exact⟨e,d,f⟩
 | false=>exact j i π k σ e Q d f
theorem Bl(d:PT X a tA):PT X (.UnaryOp .Not a pos) (DA tA):=by
 intro π s σ H Q I h;exact isTrue_not (d π s σ H (λc b=>Q (!c) b) I h)
theorem CJ{op}{t:TE}(h:PE X a t):PE X (.BoolOp op [a] pos) t:=λπ s σ H Q I b=>BoolOp_one (h π s σ H Q I b)
def tIf(t:TT)(b d:TE):TE:=λσ H Q=>t σ H λc a=>if c=true then b σ a Q else d σ a Q
theorem rm(l:PT X c tA)(j:PE X a ta)(k:PE X b tb):PE X (.IfExp c a b pos) (tIf tA ta tb):=by
 intro π s σ H Q I h;refine wpAny_IfExp (thn (l π s σ H _ I h) λd g ⟨f,e,i⟩=>?_);cases d with
 | true=>exact j π g σ f Q e i
 | false=>exact k π g σ f Q e i
end
def SqL(K:PySem.W.Frag)(H:Hp)(a:Addr)(xs:List V):Prop:=
 Rd H a (.lst xs) \/
  ∃(o:Obj) (b:Array Value) (n:Nat),K.lookup a=some o/\o.cls=.type "list"/\o.dict=none/\o.data=.seq b n/\b.size<=sizeLine/\Vals xs b.toList
def SqT(K:PySem.W.Frag)(H:Hp)(a:Addr)(xs:List V):Prop:=
 Rd H a (.tup xs) \/
  ∃(o:Obj) (b:Array Value) (n:Nat),K.lookup a=some o/\o.cls=.type "tuple"/\o.data=.seq b n/\b.size<=sizeLine/\Vals xs b.toList
def Im:Value->Option V
 | .none=>some .non
 | .bool b=>some (.bl b)
 | .int i _=>some (.int i)
 | .str x _=>some (.str x)
 | .bytes b _=>some (.byt b)
 | .float b _=>some (.flt b)
 | .ref a=>some (.ref a)
 | .type n=>some (.ty n)
 | _=>none
theorem RelV.abs(r:RelV x u):Im u=some x:=by
 cases x with
 | non=>ext r;rfl
 | bl _=>ext r;rfl
 | int _=>obtain⟨t,rfl⟩:=r;rfl
 | str _=>obtain⟨t,rfl⟩:=r;rfl
 | byt _=>obtain⟨t,rfl⟩:=r;rfl
 | flt _=>obtain⟨t,rfl⟩:=r;rfl
 | ref _=>ext r;rfl
 | ty _=>ext r;rfl
theorem RelV.inj{u:Value}(r:RelV x u)(q:RelV y u):x=y:=JZ (r.abs.symm.trans q.abs)
theorem Vals.inj:∀{xs ys:List V}{us:List Value},Vals xs us->Vals ys us->xs=ys
 | _,_,_,.nil,.nil=>rfl
 | _,_,_,.cons r t,.cons a t'=>by rw[r.inj a,Vals.inj t t']
section
variable {X:Cx}{π:List (Addr×Obj)}{σ:St}{H:Hp}{s:Shared}{a:Addr}{xs ys:List V}
theorem Inv.list(I:Inv X π σ H s)(h:SqL X.K H a xs):∃b:List Value,Vals xs b/\PlainL s.heap a b.toArray/\xs.length<=sizeLine:=by
 rcases h with h | ⟨o,b,n,hk,hc,hd,hs,hz,r⟩
 ·obtain⟨z,b,n,r,e⟩:=h.ok I.hok;exact⟨b,r,⟨_,n,e,rfl,rfl,rfl⟩,z⟩
 ·refine⟨b.toList,r,⟨o,n,I.kIn a o hk,hc,hd,by simpa using hs⟩,?_⟩;have e:=r.length;simp at e;omega
theorem Inv.tuple(I:Inv X π σ H s)(h:SqT X.K H a xs):∃b:List Value,Vals xs b/\IsTup s.heap a b.toArray/\xs.length<=sizeLine:=by
 rcases h with h | ⟨o,b,n,hk,hc,hs,hz,r⟩
 ·obtain⟨z,b,r,p⟩:=h.ok I.hok;exact⟨b,r,p.is,z⟩
 ·refine⟨b.toList,r,⟨o,I.kIn a o hk,hc,n,by simpa using hs⟩,?_⟩;have e:=r.length;simp at e;omega
theorem Inv.list_inj(I:Inv X π σ H s)(h:SqL X.K H a xs)(h':SqL X.K H a ys):xs=ys:=by
 obtain⟨b,r,⟨o,n,e,_,_,d⟩,_⟩:=I.list h;obtain⟨its',f,⟨o',g,c,_,_,d'⟩,_⟩:=I.list h';rw[e]at c;ext c;rw[d]at d';injection d' with d1 _;have:b=its':=by simpa using congrArg Array.toList d1
 subst this;exact r.inj f
theorem Inv.tuple_inj(I:Inv X π σ H s)(h:SqT X.K H a xs)(h':SqT X.K H a ys):xs=ys:=by
 obtain⟨b,r,⟨o,e,_,n,d⟩,_⟩:=I.tuple h;obtain⟨its',f,⟨o',c,_,g,d'⟩,_⟩:=I.tuple h';rw[e]at c;ext c;rw[d]at d';injection d' with d1 _;have:b=its':=by simpa using congrArg Array.toList d1
 subst this;exact r.inj f
end
abbrev Cx.wish(X:Cx)(E:Value->Shared->Prop):Cx:={ X with xe:=E }
abbrev Cx.nox(X:Cx):Cx:=X.wish λ_ _=>False
theorem Cx.Ok.wish{X:Cx}(a:X.Ok)(E:Value->Shared->Prop):(X.wish E).Ok:=
 ⟨a.mod,a.kind,a.glob,a.blt,a.above,a.inj,a.has,a.cab,a.hd,a.frames,a.stk,a.exf,a.bs,a.bsz,a.noex,a.exfs,a.funs,a.frf⟩
theorem Cx.Ok.unwish{X:Cx}{E:Value->Shared->Prop}(a:(X.wish E).Ok):X.Ok:=
 ⟨a.mod,a.kind,a.glob,a.blt,a.above,a.inj,a.has,a.cab,a.hd,a.frames,a.stk,a.exf,a.bs,a.bsz,a.noex,a.exfs,a.funs,a.frf⟩
section
variable {X:Cx}{π:List (Addr×Obj)}{σ:St}{H:Hp}{s:Shared}{E:Value->Shared->Prop}
theorem Inv.wish(I:Inv X π σ H s)(E:Value->Shared->Prop):Inv (X.wish E) π σ H s:=⟨I.ok.wish E,I.os,I.bare,I.base,I.loc,I.cell,I.free,I.freeC,I.pin,I.hok,I.len⟩
theorem Inv.unwish(I:Inv (X.wish E) π σ H s):Inv X π σ H s:=⟨I.ok.unwish,I.os,I.bare,I.base,I.loc,I.cell,I.free,I.freeC,I.pin,I.hok,I.len⟩
theorem SP.unwish(h:SP (X.wish E) π D f s'):SP X π D f s':=by
 cases f with
 | next=>obtain⟨σ',H',I,q⟩:=h;exact⟨σ',H',I.unwish,q⟩
 | brk=>obtain⟨σ',H',I,q⟩:=h;exact⟨σ',H',I.unwish,q⟩
 | cont=>obtain⟨σ',H',I,q⟩:=h;exact⟨σ',H',I.unwish,q⟩
 | ret u=>obtain⟨v,σ',H',I,r,q⟩:=h;exact⟨v,σ',H',I.unwish,r,q⟩
theorem PSs.nox{st:List Stmt}{t:TS}(h:PSs X.nox st t):PSs X st t:=λπ s σ H D I a=>
 JO (h π s σ H D (I.wish _) a) (λ_ _ q=>q.unwish) λ_ _ z=>False.elim z
end
section
variable {X:Cx}{st:Stmt}{rest:List Stmt}{t u:TS}{e:Expr}{te:TE}{pos:Pos}
def tNext:TS:=λD σ H=>D.nx σ H
def Hy(t u:TS):TS:=λD σ H=>t { D with nx:=u D } σ H
theorem xk:PSs X [] tNext:=λ_ _ σ H _ I h=>LK ⟨σ,H,I,h⟩
theorem R7(h1:PS X st t)(h2:PSs X rest u):PSs X (st::rest) (Hy t u):=by
 intro π s σ H D I h;refine Nu (thn (h1 π s σ H { D with nx:=u D } I h) λf s1 q=>?_);cases f with
 | next=>
  obtain⟨σ',H',I',q⟩:=q;exact h2 π s1 σ' H' D I' q
 | ret v=>exact q
 | brk=>exact q
 | cont=>exact q
theorem dN(h1:PS X st t):PSs X [st] t:=by
 intro π s σ H D I h;refine Nu (thn (h1 π s σ H D I h) λf s1 q=>?_);cases f with
 | next=>exact LK q
 | ret v=>exact q
 | brk=>exact q
 | cont=>exact q
theorem Inv.quiet{σ:St}{H:Hp}{s:Shared}(I:Inv X π σ H s):interactive X.env=false:=by simp[interactive,I.ok.kind]
def EZ(te:TE):TS:=λD σ H=>te σ H λ_ a=>D.nx σ a
theorem X6(a:PE X e te)(hs:swapsWith e none pos.line X.env=pure false:=by rfl):PS X (.Expr e pos) (EZ te):=by
 intro π s σ H D I h;exact wpAny_Expr_any (thn (a π s σ H _ I h) λv f ⟨x,c,b,g,d⟩=>⟨σ,c,b,d⟩) I.quiet hs
def Iu(te:TE):TS:=λD σ H=>te σ H D.rt
theorem Ag(a:PE X e te):PS X (.Return (some e) pos) (Iu te):=by
 intro π s σ H D I h;exact wpAny_Return_some (thn (a π s σ H _ I h) λv g ⟨x,c,b,f,d⟩=>⟨x,σ,c,b,f,d⟩)
def Ig(c:TT)(t u:TS):TS:=λD σ H=>c σ H λb a=>if b=true then t D σ a else u D σ a
theorem ps_if{j:TT}(m:PT X c j)(k:PSs X a t)(l:PSs X b u):PS X (.If c a b pos) (Ig j t u):=by
 intro π s σ H D I h;refine wpAny_If (thn (m π s σ H _ I h) λd g ⟨f,e,i⟩=>?_);cases d with
 | true=>exact k π g σ f D e i
 | false=>exact l π g σ f D e i
def tNever:TS:=λ_ _ _=>False
theorem bQ:PS X st tNever:=λ_ _ _ _ _ _ h=>h.elim
end
abbrev TG:=V->St->Hp->(St->Hp->Prop)->Prop
abbrev TGs:=List V->St->Hp->(St->Hp->Prop)->Prop
def PG(X:Cx)(a:Expr)(t:TG):Prop:=
 ∀(π:List (Addr×Obj)) (s:Shared) (σ:St) (H:Hp) (v:V) (u:Value) (Q:St->Hp->Prop),Inv X π σ H s->RelV v u->t v σ H Q ->
  wpAny (model X.prog X.w) X.A (assign a X.env u) (λ_ s'=>∃b H',Inv X π b H' s'/\Q b H') X.xe s
def PGs(X:Cx)(b:List Expr)(t:TGs):Prop:=
 ∀(π:List (Addr×Obj)) (s:Shared) (σ:St) (H:Hp) (vs:List V) (us:List Value) (Q:St->Hp->Prop),Inv X π σ H s->Vals vs us->t vs σ H Q ->
  wpAny (model X.prog X.w) X.A (assignInOrder ((assignEach b X.env).map (·.2)) us) (λ_ s'=>∃a H',Inv X π a H' s'/\Q a H') X.xe s
abbrev AK:=V->V->V->Hp->(Hp->Prop)->Prop
def AS(X:Cx)(t:AK):Prop:=
 ∀(π:List (Addr×Obj)) (s:Shared) (σ:St) (H:Hp) (o i v:V) (b a u:Value) (Q:Hp->Prop),Inv X π σ H s->RelV o b->RelV i a->RelV v u->t o i v H Q ->
  wpAny (model X.prog X.w) X.A (setItem b a u) (λ_ s'=>∃H',Inv X π σ H' s'/\Q H') X.xe s
abbrev TIp:=V->V->Hp->VK->Prop
def PIp(X:Cx)(op:Operator)(t:TIp):Prop:=
 ∀(π:List (Addr×Obj)) (s:Shared) (σ:St) (H:Hp) (x y:V) (v u:Value) (Q:VK),Inv X π σ H s->RelV x v->RelV y u->t x y H Q ->
  wpAny (model X.prog X.w) X.A (inplaceOp op v u) (EP X π σ Q) X.xe s
section
variable {X:Cx}{pos:Pos}
def Z5(i:Nat):TG:=λv σ H Q=>Q (σ.set i (some v)) H
theorem M0(e:X.N.Nodup)(c:X.N[i]?=some x)(a:Loc X.env.scope x)(b:X.fn x=true\/X.env.scope.names.lookup x=some .local:=by first | exact .inl rfl | exact .inr rfl | assumption):PG X (.Name x pos) (Z5 i):=by
 intro π s σ H v u Q I r h;exact wpAny_assign_Name (K5 I e c a r (λs' d=>⟨_,H,d,h⟩) b)
def gNil:TGs:=λvs σ H Q=>vs=[]/\Q σ H
def sf(t:TG)(u:TGs):TGs:=λvs σ H Q=>∃v r,vs=v::r/\t v σ H λa H'=>u r a H' Q
theorem lQ:PGs X [] gNil:=by
 intro π s σ H vs us Q I r h;obtain⟨e,h⟩:=h;subst e;ext r;exact assignInOrder_nil ⟨σ,H,I,h⟩
theorem ag{t:TG}{u:TGs}(b:PG X e t)(g:PGs X es u)
  (hs:(assignEach (e::es) X.env).map (·.2)=assign e X.env::(assignEach es X.env).map (·.2):=by rfl):PGs X (e::es) (sf t u):=by
 intro π s σ H vs us Q I r h;obtain⟨v,l,f,h⟩:=h;subst f;cases r with
 | cons r i=>
  rw[hs];refine assignInOrder_cons (thn (b π s σ H _ _ _ I r h) λ_ j ⟨a,d,c,k⟩=>?_);exact g π j a d _ _ Q c i k
def Fz(K:PySem.W.Frag)(n:Nat)(t:TGs):TG:=λv σ H Q=>∃a xs,v=.ref a/\SqT K H a xs/\xs.length=n/\t xs σ H Q
theorem ol{k:Nat}{t:TGs}{n:Nat}(x:X.calm=true)(h:PGs X es t)
  (i:(assignEach es X.env).length=n:=by rfl) (d:(assignEach es X.env).findIdx? (·.1)=none:=by rfl):PG X (.Tuple es k pos) (Fz X.K n t):=by
 intro π s σ H v u Q I r c;obtain⟨a,xs,w,j,p,c⟩:=c;subst w;ext r;obtain⟨q,f,l,hz⟩:=I.tuple j;refine assign_Tuple_tuple (I.ok.hd x) l (by simp[i,<- p,f.length]) d λh' g=>?_;have m:=I.kept (t':=s.toks) λb o e=>g b o (JF (Jx e)) e;exact h π _ σ H xs _ Q m (by simpa using f) c
def II(c d:TE)(t:AK):TG:=λv σ H Q=>c σ H λo b=>d σ b λi e=>t o i v e λa=>Q σ a
theorem Cy{c d:TE}{t:AK}(w:PE X o c)(A:PE X i d)(hs:AS X t)
  (q:∀v,assign (.Subscript o i pos) X.env v=(do
   let a <- holding [v] (eval o X.env)
   let b <- holding [v,a] (eval i X.env)
   standAt pos
   holding [v,a,b] (setItem a b v)
   release [v,a,b] []):=by intro _;rfl):PG X (.Subscript o i pos) (II c d t):=by
 intro π s σ H v u Q I r h;rw[q];refine Jn (Kf (thn (w π s σ H _ I h) λa f ⟨x,l,g,p,n⟩=>?_));refine Jn (Kf (thn (A π f σ l _ g n) λb C ⟨y,D,z,k,e⟩=>?_));refine Jn (KF (Jn (Kf (thn (hs π C σ D x y v a b u _ z p k r e) λ_ E ⟨B,j,m⟩=>?_))));exact wpAny_release ⟨σ,B,j,m⟩
def oh(te:TE)(g:TG):TS:=λD σ H=>te σ H λx a=>g x σ a D.nx
theorem hF{tg e:Expr}{te:TE}{g:TG}(a:PE X e te)(f:PG X tg g)(hs:swapsWithSole [tg] e pos.line X.env=pure false:=by rfl)(l:swappedStores [tg] e X.env=pure none:=by rfl)
  (b:(assignEach [tg] X.env).map (·.2)=[assign tg X.env]:=by rfl):PS X (.Assign [tg] e pos) (oh te g):=by
 intro π s σ H D I h;refine wpAny_Assign_stores (thn (a π s σ H _ I h) λv i ⟨x,d,c,k,j⟩=>?_) hs l;rw[b];exact thn (f π i σ d x v _ c k j) λ_ m q=>q
theorem nv(k:X.N.Nodup)(f:X.N[i]?=some x)(a:Loc X.env.scope x)(d:PE X e te)(hs:swapsWith e (some (.Name x pos')) pos.line X.env=pure false:=by rfl)(b:X.fn x=true\/X.env.scope.names.lookup x=some .local:=by first | exact .inl rfl | exact .inr rfl | assumption) :
  PS X (.Assign [.Name x pos'] e pos) (oh te (Z5 i)):=by
 intro π s σ H D I h;refine wpAny_Assign_Name (thn (d π s σ H _ I h) λv n ⟨y,j,g,m,l⟩=>?_) hs;exact K5 g k f a m (λo c=>⟨_,j,c,l⟩) b
def Il(i:Nat)(te:TE)(b:TIp):TS:=λD σ H=>∃x,σ[i]?=some (some x)/\te σ H λy c=>b x y c λz a=>D.nx (σ.set i (some z)) a
theorem Bp(R:X.N.Nodup)(o:X.N[i]?=some x)(g:Loc X.env.scope x)(C:PE X e te)(O:PIp X op ti)(B:X.fn x=true\/X.env.scope.names.lookup x=some .local:=by first | exact .inl rfl | exact .inr rfl | assumption) :
  PS X (.AugAssign (.Name x pos') op e pos) (Il i te ti):=by
 intro π s σ H D I h;obtain⟨v,Q,h⟩:=h;obtain⟨m,G,p⟩:=I.loc;have j:Vis X.env.scope x:=by rcases g with k | k;exact .inl k;exact .inr (.inl k)
 obtain⟨u,r,l⟩:=p i x v o Q j;refine wpAny_AugAssign_Name ?_;have n:wpAny (model X.prog X.w) X.A (eval e X.env) (λw f=>wpAny (model X.prog X.w) X.A (inplaceOp op u w) (λr d=>wpAny (model X.prog X.w) X.A (storeName X.env x r) (λ_=>SP X π D .next) X.xe d) X.xe f) X.xe s:=by
  refine thn (C π s σ H _ I h) λw t ⟨y,K,E,N,M⟩=>?_;refine thn (O π t σ K v y u w _ E r N M) λz V ⟨T,S,P,J,q⟩=>?_;exact K5 P R o g J (λU F=>⟨_,S,F,q⟩) B
 rcases l with ⟨a,L⟩ | ⟨a,c,A,b⟩
 ·exact wpAny_loadName_local I.ok.kind a G L n
 ·rcases a with a | a
  ·exact wpAny_loadName_cell I.ok.kind a A b n
  ·rcases g with k | k
   ·have:X.env.scope.names.lookup x=some .free:=a;rw[k]at this;ext this
   ·have:X.env.scope.names.lookup x=some .free:=a;rw[k]at this;ext this
def ipI(f:Int->Int->Int):TIp:=λx y H Q=>∃i j,x=.int i/\y=.int j/\Q (.int (f i j)) H
theorem BK:PIp X .Add (ipI λi j=>i+j):=by
 intro π s σ H x y v u Q I c a h;obtain⟨i,j,d,b,q⟩:=h;subst d;subst b;obtain⟨t,rfl⟩:=c;obtain⟨t',rfl⟩:=a;exact iadd_int ⟨.int _,H,I.tok _,⟨_,rfl⟩,q⟩
end
section
variable {X:Cx}{pos:Pos}
def Aj(c:TT)(e:TS):TS:=λD σ H=>∃W:Nat->St->Hp->Prop,(∃m,W m σ H)/\∀m σ H,W m σ H ->
 c σ H λb d=>if b=true then ∃N:St->Hp->Prop,(∀a H',N a H'->∃m',m'<m/\W m' a H')/\e { D with nx:=N,ct:=N,bk:=D.nx } σ d else D.nx σ d
theorem ot{tc:TT}{tb:TS}(hp:PassesOwn (model X.prog X.w) X.A X.env X.xe)(hc:PT X c tc)(hb:PSs X body tb):PS X (.While c body [] pos) (Aj tc tb):=by
 intro π s σ H D I h;obtain⟨W,⟨m0,w0⟩,turn⟩:=h;refine wpAny_While (codeAny_whileLoop (λn s'=>∃σ' H',Inv X π σ' H' s'/\W n σ' H') ?_ m0 ⟨σ,H,I,w0⟩);rintro n s1 ⟨σ1,H1,I1,w1⟩;refine Lr hp (thn (hc π s1 σ1 H1 _ I1 (turn n σ1 H1 w1)) λb s2 ⟨H2,I2,q2⟩=>?_);cases b with
 | true=>
  obtain⟨N,hN,q2⟩:=q2;rw[if_pos rfl];refine Lr hp (thn (hb π s2 σ1 H2 _ I2 q2) λf s3 q3=>?_);cases f with
  | next=>
   obtain⟨σ3,H3,I3,n3⟩:=q3;obtain⟨m',hm,w3⟩:=hN σ3 H3 n3;exact⟨m',hm,σ3,H3,I3,w3⟩
  | cont=>
   obtain⟨σ3,H3,I3,n3⟩:=q3;obtain⟨m',hm,w3⟩:=hN σ3 H3 n3;exact⟨m',hm,σ3,H3,I3,w3⟩
  | brk=>exact q3
  | ret v=>exact q3
 | false=>
  rw[if_neg Jt];exact LK ⟨σ1,H2,I2,q2⟩
end
structure It where
 go:Nat->Hp->Prop
 yld:Nat->Hp->V->Hp->Prop
 stop:Nat->Hp->Prop
def D3(X:Cx)(π:List (Addr×Obj))(H:Hp)(b:Addr):Prop:=
 H b=none/\b≠X.env.locals/\b∉X.fs/\(b∈X.ex\/X.s₀.heap.objs.size<=b)/\(∀x c,X.env.cells.lookup x=some c->c≠b)/\∀p∈X.pn++π,p.1≠b
theorem Inv.fpOk{σ:St}{H H':Hp}{s:Shared}{b:Addr}(I:Inv X π σ H s)(a:s.heap.objs.size<=b)(f:H' b=none):D3 X π H' b:=by
 refine⟨f,Nat.ne_of_gt (JN I.lt a),I.nofs a,.inr (JW I.sz a),λx c e z=>?_,λp d z=>?_⟩
 ·obtain⟨v,q⟩:=I.cell x c e;exact absurd (JN q.lt (by rw[z];exact a)) (Lu _)
 ·exact absurd (JN (Jx (I.pin p d).1) (by rw[z];exact a)) (Lu _)
structure Turn(P:Program)(w:World)(K:PySem.W.Frag)(tg:Expr)(J:It)(fp:List Addr)(it:Addr)(tn:Nat->Heap->Prop):Prop where
 mem:it∈fp
 obj:∀i h,tn i h->∀b∈fp,∃o,h.get? b=some o/\∀v,o.data≠.cell v
 keep:∀i h h',tn i h->(∀b∈fp,∀o,h.get? b=some o->h'.get? b=some o)->tn i h'
 item:∀(X:Cx),X.prog=P->X.w=w->X.K=K->X.calm=true->∀(i:Nat) (π:List (Addr×Obj)) (s:Shared) (σ:St) (H:Hp) (E:Value->Shared->Prop),Inv X π σ H s->(∀b∈fp,D3 X π H b)->tn i s.heap->J.go i H ->
  wpAny (model P w) X.A (pyNext (.ref it)) (λr s1=>∃u,r=some u /\
   wpAny (model P w) X.A (letOwnedTupleGo tg (.ref it) u) (λ_ s2=>∃x H',Inv X π σ H' s2/\RelV x u/\J.yld i H x H'/\tn (i+1) s2.heap/\∀b∈fp,H' b=none) E s1) E s
 done:∀(X:Cx),X.prog=P->X.w=w->X.K=K->X.calm=true->∀(i:Nat) (π:List (Addr×Obj)) (s:Shared) (σ:St) (H:Hp) (E:Value->Shared->Prop),Inv X π σ H s->(∀b∈fp,D3 X π H b)->tn i s.heap->J.stop i H ->
  wpAny (model P w) X.A (pyNext (.ref it)) (λr s1=>r=none/\Inv X π σ H s1) E s
 self:∀(A:Around)(i:Nat)(s:Shared)(Q:Value->Shared->Prop)(E:Value->Shared->Prop),tn i s.heap->Q (.ref it) s->wpAny (model P w) A (pyIter (.ref it)) Q E s
abbrev TI:=St->Hp->(It->Hp->Prop)->Prop
def PIE(X:Cx)(π:List (Addr×Obj))(σ:St)(tg:Expr)(R:It->Hp->Prop)(a:Value)(d:Shared):Prop:=
 ∃(it:Addr) (c:List Addr) (tn:Nat->Heap->Prop) (J:It) (H':Hp),a=.ref it/\Inv X π σ H' d/\Turn X.prog X.w X.K tg J c it tn/\tn 0 d.heap/\(∀b∈c,D3 X π H' b)/\R J H'
def PI(X:Cx)(tg a:Expr)(b:TI):Prop:=
 ∀(π:List (Addr×Obj)) (s:Shared) (σ:St) (H:Hp) (R:It->Hp->Prop),Inv X π σ H s->b σ H R ->
  wpAny (model X.prog X.w) X.A (eval a X.env) (λv c=>wpAny (model X.prog X.w) X.A (pyIter v) (PIE X π σ tg R) X.xe c) X.xe s
theorem ja{s:Shared}{tg:Expr}{it:Addr}{u:Value}{o:Obj}{n:String}{vs:Array Value}{Q:Unit->Shared->Prop}(c:s.heap.get? it=some o)(b:o.cls=.type n)(hd:o.data=.fields vs)
  (d:["enumerate","zip","dict_itemiterator","dict_reverseitemiterator","odict_iterator","itertools.zip_longest","itertools.pairwise"].contains n=false) (a:Q () s):wpAny M A (letOwnedTupleGo tg (.ref it) u) Q E s:=by
 ext tg <;> first
  | exact Jo a
  | (ext u <;> first
    | exact Jo a
    | (refine Jn (wpAny_load c ?_);rw[b,hd];show wpAny M A (if (["enumerate","zip","dict_itemiterator","dict_reverseitemiterator","odict_iterator","itertools.zip_longest","itertools.pairwise"].contains n&&vs[0]?==some (rawInt _))=true then _ else _) Q E s;rw[if_neg (by intro h;rw[d,NN]at h;ext h)];exact Jo a))
def Itl(K:PySem.W.Frag)(a:Addr):It:=
 ⟨λi H=>∃xs x,SqL K H a xs/\xs[i]?=some x,λi H x H'=>H'=H/\∀xs,SqL K H a xs->xs[i]?=some x,λi H=>∃xs,SqL K H a xs/\xs.length<=i⟩
def Itt(K:PySem.W.Frag)(a:Addr):It:=
 ⟨λi H=>∃xs x,SqT K H a xs/\xs[i]?=some x,λi H x H'=>H'=H/\∀xs,SqT K H a xs->xs[i]?=some x,λi H=>∃xs,SqT K H a xs/\xs.length<=i⟩
def Itr(lo:Int)(n:Nat):It:=⟨λi _=>i<n,λi H x H'=>H'=H/\x=.int (lo+i),λi _=>n<=i⟩
theorem lz{K:PySem.W.Frag}{tg:Expr}(a it:Addr):Turn P w K tg (Itl K a) [it] it (λi h=>h.IsListIter it a i) where
 mem:=by simp
 obj:=λi h st b f=>by
  have e:b=it:=by simpa using f
  subst e;obtain⟨o,e,c,d⟩:=st;exact⟨o,e,λv z=>by rw[d]at z;cases z⟩
 keep:=λi h h' st k=>st.at λo e=>k it (by simp) o e
 item:=by
  intro X G D A J i π s σ H E I j st F;subst G D A;obtain⟨xs,x,l,B⟩:=F;obtain⟨n,C,p,hz⟩:=I.list l;obtain⟨u,S,N⟩:=C.get B;obtain⟨y,q,O,m,t,r⟩:=j it (by simp);refine wpAny_pyNext_list_item st p.isList (by simpa using S) λh' g R=>?_;have M:=I.turned (t':=s.toks) (λb o f e=>(R.2 b f).trans e) y q m t r;obtain⟨o,e,c,d⟩:=id g;exact⟨u,rfl,ja e c d ⋯ ⟨x,H,M,N,⟨rfl,λys Q=>by rw[I.list_inj Q l];exact B⟩,g,λb f=>(j b f).1⟩⟩
 done:=by
  intro X G D A J i π s σ H E I j st F;subst G D A;obtain⟨xs,l,B⟩:=F;obtain⟨n,C,p,hz⟩:=I.list l;obtain⟨y,q,O,m,t,r⟩:=j it (by simp);have T:=C.length;exact wpAny_pyNext_list_end (I.ok.hd J) st p.isList (by simp;omega) λh' L=>⟨rfl,I.turned (λb o f e=>L b o f e) y q m t r⟩
 self:=λ_ _ _ _ _ st h=>wpAny_pyIter_listiter st h
theorem im{K:PySem.W.Frag}{tg:Expr}(a it:Addr):Turn P w K tg (Itt K a) [it] it (λi h=>h.IsTupleIter it a i) where
 mem:=by simp
 obj:=λi h st b f=>by
  have e:b=it:=by simpa using f
  subst e;obtain⟨o,e,c,d⟩:=st;exact⟨o,e,λv z=>by rw[d]at z;cases z⟩
 keep:=λi h h' st k=>st.at λo e=>k it (by simp) o e
 item:=by
  intro X G D A J i π s σ H E I j st F;subst G D A;obtain⟨xs,x,l,B⟩:=F;obtain⟨n,C,p,hz⟩:=I.tuple l;obtain⟨u,S,N⟩:=C.get B;obtain⟨y,q,O,m,t,r⟩:=j it (by simp);refine wpAny_pyNext_tuple_item st (p) (by simpa using S) λh' g R=>?_;have M:=I.turned (t':=s.toks) (λb o f e=>(R.2 b f).trans e) y q m t r;obtain⟨o,e,c,d⟩:=id g;exact⟨u,rfl,ja e c d ⋯ ⟨x,H,M,N,⟨rfl,λys Q=>by rw[I.tuple_inj Q l];exact B⟩,g,λb f=>(j b f).1⟩⟩
 done:=by
  intro X G D A J i π s σ H E I j st F;subst G D A;obtain⟨xs,l,B⟩:=F;obtain⟨n,C,p,hz⟩:=I.tuple l;obtain⟨y,q,O,m,t,r⟩:=j it (by simp);have T:=C.length;exact wpAny_pyNext_tuple_end (I.ok.hd J) st (p) (by simp;omega) λh' L=>⟨rfl,I.turned (λb o f e=>L b o f e) y q m t r⟩
 self:=λ_ _ _ _ _ st h=>wpAny_pyIter_tupleiter st h
theorem hQ{K:PySem.W.Frag}{tg:Expr}(it:Addr)(lo:Int)(n:Nat):Turn P w K tg (Itr lo n) [it] it (λi h=>IsRangeIter h it (lo+(i:Nat) * 1) ((n:Int)-(i:Nat)) 1) where
 mem:=by simp
 obj:=λi h st b a=>by
  have e:b=it:=by simpa using a
  subst e;exact⟨_,st,λv z=>by
   have D:=z;cases D⟩
 keep:=λi h h' st k=>k it (by simp) _ st
 item:=by
  intro X x r q g i π s σ H E I d st u;subst x r q;obtain⟨p,j,C,f,m,l⟩:=d it (by simp);have W:=Walks.range (prog:=X.prog) (w:=X.w) (I.ok.hd g) it lo 1 n;refine W.item i s _ _ u st λv h' G A c F=>?_;obtain⟨t,rfl⟩:=A;have B:Inv X π σ H { s with heap:=h',toks:=G }:=I.turned (λb o a e=>F b o (by simpa using a) e) p j f m l;refine⟨_,rfl,ja c rfl rfl ⋯ ⟨.int (lo+i),H,B,⟨t,?_⟩,⟨rfl,rfl⟩,c,λb a=>(d b a).1⟩⟩;rw[Int.mul_one]
 done:=by
  intro X x r q g i π s σ H E I d st u;subst x r q;obtain⟨p,j,C,f,m,l⟩:=d it (by simp);exact wpAny_pyNext_range_end (I.ok.hd g) st (by have:n<=i:=u;omega) λh' y=>⟨rfl,I.turned (λb o a e=>y b o a e) p j f m l⟩
 self:=λ_ _ _ _ _ st h=>wpAny_pyIter_rangeiter st h
section
variable {X:Cx}{tg:Expr}
theorem qO{σ:St}{H:Hp}{s:Shared}{R:It->Hp->Prop}{E:Value->Shared->Prop}{lo a:Int}{t u v:Tok}{d:Nat}(I:Inv X π σ H s)(f:-(2 ^ 62)<=lo)(j:lo<2 ^ 62)(l:-(2 ^ 62)<=a)(h:a<2 ^ 62)
  (q:R (Itr lo (a-lo).toNat) H):wpAny (model X.prog X.w) X.A (pyIter (.ref s.heap.objs.size)) (PIE X π σ tg R) E { s with heap:=s.heap.push { cls:=.type "range",data:=.fields #[.int lo t,.int a u,.int 1 v] },toks:=d }:=by
 refine wpAny_pyIter_range (IsRange.new ..) (small_one f j l h) ?_;have c:Inv X π σ H { s with heap:=s.heap.push { cls:=.type "range",data:=.fields #[.int lo t,.int a u,.int 1 v] },toks:=d }:=I.kept λb o e=>Jq _ e;refine⟨(s.heap.push { cls:=.type "range",data:=.fields #[.int lo t,.int a u,.int 1 v] }).objs.size,[(s.heap.push { cls:=.type "range",data:=.fields #[.int lo t,.int a u,.int 1 v] }).objs.size],_,_,H,rfl,
  c.kept λb o e=>Jq _ e,hQ _ lo (a-lo).toNat,?_,λb k=>?_,q⟩
 ·have i:lo+((0:Nat):Int) * 1=lo:=by simp
  have g:(((a-lo).toNat:Nat):Int)-((0:Nat):Int)=Builtin.Range.rangeSize lo a 1:=by rw[rangeSize_one];split <;> omega
  rw[i,g];exact JG _ rfl
 ·have e:b=(s.heap.push { cls:=.type "range",data:=.fields #[.int lo t,.int a u,.int 1 v] }).objs.size:=by simpa using k
  subst e;exact c.fpOk (Ju _) (c.hok.fresh (Ju _))
def GO(a:TA):TI:=λσ H R=>a σ H λvs b=>∃j:Int,vs=[.int j]/\-(2 ^ 62)<=j/\j<2 ^ 62/\R (Itr 0 j.toNat) b
theorem nG(f:Gl X "range") (k:X.mg "range" = none) (c:PA X [a] ta) (hs:starEach [a] X.env=[(false,eval a X.env)]:=by rfl):PI X tg (.Call (.Name "range" p) [a] [] pos) (GO ta):=by
 intro π s σ H R I h;refine Call_ (C5 I f k boot_range (Ku (thn (c pos π s σ H _ I h) λus m ⟨vs,n,d,l,b⟩=>?_) hs rfl));obtain⟨j,e,b,g,q⟩:=b;subst e;cases l with
 | cons r i=>
  ext i;obtain⟨t,rfl⟩:=r;exact call_range_1 (qO d ∅ ∅ b g (by simpa using q))
def Ix(f:TI)(g:TG)(c:TS):TS:=λD σ H=>f σ H λJ d=>∃W:Nat->Nat->St->Hp->Prop,(∃m,W 0 m σ d)/\∀i m σ H,W i m σ H ->
 (J.stop i H/\D.nx σ H)\/(J.go i H/\∃N:St->Hp->Prop,(∀a H',N a H'->∃m',m'<m/\W (i+1) m' a H')/\∀x H',J.yld i H x H'->g x σ H' λb e=>c { D with nx:=N,ct:=N,bk:=D.nx } b e)
def G8(a:List Addr)(h:Heap):List (Addr×Obj):=a.filterMap λb=>(h.get? b).map λo=>(b,o)
theorem u8{b:Addr}{o:Obj}(a:b∈fp)(e:h.get? b=some o):(b,o)∈G8 fp h:=Lk.mpr ⟨b,a,by rw[e];rfl⟩
theorem mF(a:p∈G8 fp h):p.1∈fp/\h.get? p.1=some p.2:=by
 obtain⟨b,c,e⟩:=Lk.mp a;cases q:h.get? b with
 | none=>rw[q]at e;ext e
 | some o=>
  rw[q]at e;have d:=JZ e;subst d;exact⟨c,q⟩
theorem Inv.pinned{σ:St}{H:Hp}{s:Shared}{a:List Addr}(I:Inv X π σ H s)(i:∀b∈a,D3 X π H b)(k:∀b∈a,∃o,s.heap.get? b=some o/\∀v,o.data≠.cell v):Inv X (π++G8 a s.heap) σ H s:=
 I.pins_of λp j=>(JY.mp j).elim (λz=>I.pin p (JV _ z)) λz=>by
  obtain⟨c,e⟩:=mF z;obtain⟨h,l,g,_⟩:=i p.1 c;obtain⟨o,f,d⟩:=k p.1 c;rw[e]at f;ext f;exact⟨e,h,l,g,d⟩
theorem Inv.unpinned{σ:St}{H:Hp}{s:Shared}(I:Inv X (π++pl) σ H s):Inv X π σ H s:=I.pins_of λp a=>I.pin p (JV _ (List.mem_append_left _ a))
theorem Ad{wi:TI}{g:TG}{tb:TS}{pos:Pos}(hp:PassesOwn (model X.prog X.w) X.A X.env X.xe)(hc:X.calm=true)(hi:PI X tg iter wi)(hg:PG X tg g)(hb:PSs X body tb)
  (hs:∀x,foldedSetIterable iter X.env x=pure x:=by intro _;rfl):PS X (.For tg iter body [] pos) (Ix wi g tb):=by
 intro π s σ H D I h;refine wpAny_For (thn (hi π s σ H _ I h) λv s1 h1=>thn h1 λitv s2 h2=>?_) hs;obtain⟨it,fp,tn,J,H2,e,I2,T,st2,f2,W,⟨m0,w0⟩,turn⟩:=h2;subst e;have stat:∀{H':Hp},(∀b∈fp,H' b=none)->∀b∈fp,D3 X π H' b:=λhn b hb=>⟨hn b hb,(f2 b hb).2⟩;refine codeAny_forLoop_any (λn s'=>∃i σ' H',Inv X π σ' H' s'/\tn i s'.heap/\(∀b∈fp,H' b=none)/\W i n σ' H') ?_ m0 ⟨0,σ,H2,I2,st2,λb hb=>(f2 b hb).1,w0⟩;rintro n s3 ⟨i,σ3,H3,I3,st3,fr3,w3⟩;rcases turn i n σ3 H3 w3 with ⟨stop,qn⟩ | ⟨go,N,hN,step⟩
 ·refine Lr hp (thn (T.done X rfl rfl rfl hc i π s3 σ3 H3 X.xe I3 (stat fr3) st3 stop) λr s4 ⟨hr,I4⟩=>?_);subst hr;exact LK ⟨σ3,H3,I4,qn⟩
 ·refine Lr hp (thn (T.item X rfl rfl rfl hc i π s3 σ3 H3 X.xe I3 (stat fr3) st3 go) λr s4 ⟨u,hr,h4⟩=>?_);subst hr;refine Lr hp (thn h4 λ_ s5 ⟨x,H5,I5,r5,y5,st5,fr5⟩=>?_);have I5':=I5.pinned (stat fr5) (T.obj _ _ st5);refine Lr hp (thn (hg _ s5 σ3 H5 x u _ I5' r5 (step x H5 y5)) λ_ s6 ⟨σ6,H6,I6,q6⟩=>?_);refine Lr hp (thn (hb _ s6 σ6 H6 _ I6 q6) λf s7 q7=>?_);have again:∀{σ7:St}{H7:Hp},Inv X (π++G8 fp s5.heap) σ7 H7 s7->N σ7 H7->∃m,m<n/\∃i σ' H',Inv X π σ' H' s7/\tn i s7.heap/\(∀b∈fp,H' b=none)/\W i m σ' H':=λ{σ7 H7} I7 n7=>by
   obtain⟨m',hm,w7⟩:=hN σ7 H7 n7;refine⟨m',hm,i+1,σ7,H7,I7.unpinned,T.keep _ _ _ st5 λb hb o e=>(I7.pin (b,o) (JV _ (JV _ (u8 hb e)))).1,λb hb=>?_,w7⟩;obtain⟨o,e,d⟩:=T.obj _ _ st5 b hb;exact(I7.pin (b,o) (JV _ (JV _ (u8 hb e)))).2.1
  cases f with
  | next=>obtain⟨σ7,H7,I7,n7⟩:=q7;exact again I7 n7
  | cont=>obtain⟨σ7,H7,I7,n7⟩:=q7;exact again I7 n7
  | brk=>obtain⟨σ7,H7,I7,q7⟩:=q7;exact⟨σ7,H7,I7.unpinned,q7⟩
  | ret v=>obtain⟨x7,σ7,H7,I7,r7,q7⟩:=q7;exact⟨x7,σ7,H7,I7.unpinned,r7,q7⟩
end
abbrev R2:=V->V->Hp->VK->Prop
def OpR(X:Cx)(f:Value->Value->Sem Value)(r:R2):Prop:=
 ∀(π:List (Addr×Obj)) (s:Shared) (σ:St) (H:Hp) (x y:V) (v u:Value) (Q:VK),Inv X π σ H s->RelV x v->RelV y u->r x y H Q ->
  wpAny (model X.prog X.w) X.A (f v u) (EP X π σ Q) X.xe s
def UnR(X:Cx)(f:Value->Sem Value)(r:V->Hp->VK->Prop):Prop:=
 ∀(π:List (Addr×Obj)) (s:Shared) (σ:St) (H:Hp) (x:V) (v:Value) (Q:VK),Inv X π σ H s->RelV x v->r x H Q ->
  wpAny (model X.prog X.w) X.A (f v) (EP X π σ Q) X.xe s
def k5(X:Cx)(f:Value)(r:List V->Hp->VK->Prop):Prop:=
 ∀(π:List (Addr×Obj)) (s:Shared) (σ:St) (H:Hp) (xs:List V) (us:List Value) (Q:VK),Inv X π σ H s->Vals xs us->r xs H Q ->
  wpAny (model X.prog X.w) X.A (call f us) (EP X π σ Q) X.xe s
def ID(X:Cx)(r:V->Hp->(Bool->Hp->Prop)->Prop):Prop:=
 ∀(π:List (Addr×Obj)) (s:Shared) (σ:St) (H:Hp) (x:V) (v:Value) (Q:Bool->Hp->Prop),Inv X π σ H s->RelV x v->r x H Q ->
  wpAny (model X.prog X.w) X.A (truthy v) (TP X π σ Q) X.xe s
def tOp(r:R2)(a b:TE):TE:=λσ H Q=>a σ H λx d=>b σ d λy c=>r x y c Q
def tUn(r:V->Hp->VK->Prop)(a:TE):TE:=λσ H Q=>a σ H λx b=>r x b Q
def rI(C:Int->Int->Prop)(g:Int->Int->V):R2:=λx y H Q=>∃i j,x=.int i/\y=.int j/\C i j/\Q (g i j) H
def rI0(g:Int->Int->V):R2:=λx y H Q=>∃i j,x=.int i/\y=.int j/\Q (g i j) H
def rU(g:Int->V):V->Hp->VK->Prop:=λx H Q=>∃i,x=.int i/\Q (g i) H
section
variable {X:Cx}{a b c:Expr}{ta tb tc:TE}{pos:Pos}
theorem Da(j:PE X a ta)(l:PE X b tb){π:List (Addr×Obj)}{s:Shared}{σ:St}{H:Hp}{R:V->V->Hp->Prop}(I:Inv X π σ H s)
  (h:ta σ H λx g=>tb σ g λy d=>R x y d) {Q:Value->Shared->Prop} {f:Value->Value->Sem Value}
  (o:∀v u i x y d,Inv X π σ d i->RelV x v->RelV y u->R x y d->wpAny (model X.prog X.w) X.A (f v u) Q X.xe i) :
  wpAny (model X.prog X.w) X.A (eval a X.env) (λv c=>wpAny (model X.prog X.w) X.A (eval b X.env) (λu e=>wpAny (model X.prog X.w) X.A (f v u) Q X.xe e) X.xe c) X.xe s:=by
 refine thn (j π s σ H _ I h) λv m ⟨x,g,k,t,n⟩=>?_;refine thn (l π m σ g _ k n) λu i ⟨y,d,q,p,r⟩=>?_;grind
theorem Gi(d:OpR X (binaryOp op) r)(c:PE X a ta)(g:PE X b tb):PE X (.BinOp a op b pos) (tOp r ta tb):=by
 intro π s σ H Q I h;exact wpAny_BinOp (Da c g I h λv u j x y k e i f q=>d π j σ k x y v u Q e i f q)
theorem GX(c:UnR X (unaryOp op) r)(b:PE X a ta):PE X (.UnaryOp op a pos) (tUn r ta):=by
 intro π s σ H Q I h;exact UnaryOp_ (thn (b π s σ H _ I h) λv f ⟨x,e,d,i,g⟩=>c π f σ e x v Q d i g)
theorem opI{C:Int->Int->Prop}{g:Int->Int->Int}
  (a:∀(i j:Int)(t u:Tok)(s:Shared)(Q:Value->Shared->Prop)(E:Value->Shared->Prop),C i j->Q (.int (g i j) s.toks) { s with toks:=s.toks+1 }->wpAny (model X.prog X.w) X.A (f (.int i t) (.int j u)) Q E s) :
  OpR X f (rI C λi j=>.int (g i j)):=by
 intro π s σ H x y v u Q I d c h;obtain⟨i,j,rfl,rfl,b,q⟩:=h;obtain⟨t,rfl⟩:=d;obtain⟨t',rfl⟩:=c;exact a i j t t' s _ _ b ⟨.int (g i j),H,I.tok _,⟨_,rfl⟩,q⟩
theorem FM{g:Int->Int->Int}
  (a:∀(i j:Int)(t u:Tok)(s:Shared)(Q:Value->Shared->Prop)(E:Value->Shared->Prop),Q (.int (g i j) s.toks) { s with toks:=s.toks+1 }->wpAny (model X.prog X.w) X.A (f (.int i t) (.int j u)) Q E s) :
  OpR X f (rI0 λi j=>.int (g i j)):=by
 intro π s σ H x y v u Q I c b h;obtain⟨i,j,rfl,rfl,q⟩:=h;obtain⟨t,rfl⟩:=c;obtain⟨t',rfl⟩:=b;exact a i j t t' s _ _ ⟨.int (g i j),H,I.tok _,⟨_,rfl⟩,q⟩
theorem xy{g:Int->Int->Bool}
  (a:∀(i j:Int)(t u:Tok)(s:Shared)(Q:Value->Shared->Prop)(E:Value->Shared->Prop),Q (.bool (g i j)) s->wpAny (model X.prog X.w) X.A (f (.int i t) (.int j u)) Q E s) :
  OpR X f (rI0 λi j=>.bl (g i j)):=by
 intro π s σ H x y v u Q I c b h;obtain⟨i,j,rfl,rfl,q⟩:=h;obtain⟨t,rfl⟩:=c;obtain⟨t',rfl⟩:=b;exact a i j t t' s _ _ ⟨.bl (g i j),H,I,rfl,q⟩
def rH(i j:Int):Prop:=0<j/\j<1073741824
def wJ(i j:Int):Prop:=0<=j/\j<=1000000/\i.natAbs<2 ^ 64
def CMul(i j:Int):Prop:=(-(2 ^ 64)<i/\i<2 ^ 64)\/(-(2 ^ 64)<j/\j<2 ^ 64)
theorem CMul.ok(h:CMul i j):IntMulOk i j:=by
 rcases h with ⟨b,a⟩ | ⟨b,a⟩
 ·exact .of_left (intBits_le_64 b a)
 ·exact .of_right (intBits_le_64 b a)
theorem Aa:OpR X (binaryOp .Add) (rI0 λi j=>.int (i+j)):=FM λ_ _ _ _ _ _ _ q=>add_int q
theorem DM:OpR X (binaryOp .Sub) (rI0 λi j=>.int (i-j)):=FM λ_ _ _ _ _ _ _ q=>sub_int q
theorem Aw:OpR X (binaryOp .Mult) (rI CMul λi j=>.int (i * j)):=opI λ_ _ _ _ _ _ _ a q=>mul_int q a.ok
theorem yZ:OpR X (binaryOp .FloorDiv) (rI rH λi j=>.int (i / j)):=opI λi j _ _ _ _ _ a q=>by
 have c:=a.1;have b:=a.2;exact floordiv_int ∅ (by rw[Int.fdiv_eq_ediv_of_nonneg i ∅];exact q) (.inl (PyProof.noPylong_small ∅))
theorem Bd:OpR X (binaryOp .Mod) (rI (λ_ j=>0<j) λi j=>.int (i % j)):=opI λi j _ _ _ _ _ a q=>by
 have b:=a;exact mod_int' ∅ (by rw[Int.fmod_eq_emod_of_nonneg i ∅];exact q)
theorem Be:OpR X (binaryOp .Pow) (rI wJ λi j=>.int (i ^ j.toNat)):=opI λ_ _ _ _ _ _ _ a q=>pow_int_small a.1 a.2.1 a.2.2 q
theorem unI{g:Int->Int}
  (a:∀(i:Int)(t:Tok)(s:Shared)(Q:Value->Shared->Prop)(E:Value->Shared->Prop),Q (.int (g i) s.toks) { s with toks:=s.toks+1 }->wpAny (model X.prog X.w) X.A (f (.int i t)) Q E s) :
  UnR X f (rU λi=>.int (g i)):=by
 intro π s σ H x v Q I b h;obtain⟨i,rfl,q⟩:=h;obtain⟨t,rfl⟩:=b;exact a i t s _ _ ⟨.int (g i),H,I.tok _,⟨_,rfl⟩,q⟩
theorem AQ:UnR X (unaryOp .USub) (rU λi=>.int (-i)):=unI λ_ _ _ _ _ q=>neg_int q
end
def Gr:V->V->Bool
 | .non,.non=>true | .non,.int _=>true | .int _,.non=>true | .non,.bl _=>true | .bl _,.non=>true | .non,.str _=>true | .str _,.non=>true
 | .int _,.int _=>true | .bl _,.bl _=>true | .str _,.str _=>true | .byt _,.byt _=>true
 | .int _,.str _=>true | .str _,.int _=>true | .bl _,.str _=>true | .str _,.bl _=>true
 | _,_=>false
def rEq:R2:=λx y H Q=>Gr x y=true/\Q (.bl (decide (x=y))) H
def rNe:R2:=λx y H Q=>Gr x y=true/\Q (.bl (!decide (x=y))) H
theorem kr{i j:Int}:decide (V.int i=V.int j)=(i==j):=by grind
theorem oM{i j:Bool}:decide (V.bl i=V.bl j)=(i==j):=by grind
theorem kH{i j:Str}:decide (V.str i=V.str j)=(i==j):=by grind
theorem lT:decide (V.byt i=V.byt j)=(i.toList==j.toList):=by
 rw[LL];simp_all
section
variable {X:Cx}{a b c:Expr}{ta tb tc:TE}{pos:Pos}
theorem f7{σ:St}{H:Hp}{s:Shared}{Q:VK}{k a:Bool}(I:Inv X π σ H s)(q:Q (.bl k) H)(e:k=a):EP X π σ Q (.bool a) s:=by
 subst e;exact⟨.bl k,H,I,rfl,q⟩
theorem EX:OpR X (compareOp .Eq) rEq:=by
 intro π s σ H x y v u Q I rx ry h;obtain⟨hs,q⟩:=h;cases x with
 | non=>
  ext rx;cases y with
  | non=>ext ry;exact PySem.EqNone.eq_none_none (f7 I q (by simp))
  | bl j=>ext ry;exact PySem.EqNone.eq_none_bool (f7 I q (by simp))
  | int j=>obtain⟨t',rfl⟩:=ry;exact PySem.EqNone.eq_none_int (f7 I q (by simp))
  | str j=>obtain⟨t',rfl⟩:=ry;exact PySem.EqNone.eq_none_str (f7 I q (by simp))
  | _=>exact absurd (hs) Jt
 | bl i=>
  ext rx;cases y with
  | non=>ext ry;exact PySem.EqNone.eq_bool_none (f7 I q (by simp))
  | bl j=>ext ry;exact eq_bool (f7 I q oM)
  | str j=>obtain⟨t',rfl⟩:=ry;exact PySem.EqMixed.eq_bool_str (f7 I q (by simp))
  | _=>exact absurd (hs) Jt
 | int i=>
  obtain⟨t,rfl⟩:=rx;cases y with
  | non=>ext ry;exact PySem.EqNone.eq_int_none (f7 I q (by simp))
  | int j=>obtain⟨t',rfl⟩:=ry;exact eq_int (f7 I q kr)
  | str j=>obtain⟨t',rfl⟩:=ry;exact PySem.EqMixed.eq_int_str (f7 I q (by simp))
  | _=>exact absurd (hs) Jt
 | str i=>
  obtain⟨t,rfl⟩:=rx;cases y with
  | non=>ext ry;exact PySem.EqNone.eq_str_none (f7 I q (by simp))
  | bl j=>ext ry;exact PySem.EqMixed.eq_str_bool (f7 I q (by simp))
  | int j=>obtain⟨t',rfl⟩:=ry;exact PySem.EqMixed.eq_str_int (f7 I q (by simp))
  | str j=>obtain⟨t',rfl⟩:=ry;exact eq_str (f7 I q kH)
  | _=>exact absurd (hs) Jt
 | byt i=>
  obtain⟨t,rfl⟩:=rx;cases y with
  | byt j=>obtain⟨t',rfl⟩:=ry;exact PySem.W.eq_bytes (f7 I q lT)
  | _=>exact absurd (hs) Jt
 | _=>ext y <;> exact absurd (hs) Jt
theorem Ez:OpR X (compareOp .NotEq) rNe:=by
 intro π s σ H x y v u Q I rx ry h;obtain⟨hs,q⟩:=h;cases x with
 | non=>
  ext rx;cases y with
  | non=>ext ry;exact PySem.EqNone.ne_none_none (f7 I q (by simp))
  | bl j=>ext ry;exact PySem.EqNone.ne_none_bool (f7 I q (by simp))
  | int j=>obtain⟨t',rfl⟩:=ry;exact PySem.EqNone.ne_none_int (f7 I q (by simp))
  | str j=>obtain⟨t',rfl⟩:=ry;exact PySem.EqNone.ne_none_str (f7 I q (by simp))
  | _=>exact absurd (hs) Jt
 | bl i=>
  ext rx;cases y with
  | non=>ext ry;exact PySem.EqNone.ne_bool_none (f7 I q (by simp))
  | bl j=>ext ry;exact ne_bool (f7 I q (congrArg not oM))
  | str j=>obtain⟨t',rfl⟩:=ry;exact PySem.EqMixed.ne_bool_str (f7 I q (by simp))
  | _=>exact absurd (hs) Jt
 | int i=>
  obtain⟨t,rfl⟩:=rx;cases y with
  | non=>ext ry;exact PySem.EqNone.ne_int_none (f7 I q (by simp))
  | int j=>obtain⟨t',rfl⟩:=ry;exact ne_int (f7 I q (congrArg not kr))
  | str j=>obtain⟨t',rfl⟩:=ry;exact PySem.EqMixed.ne_int_str (f7 I q (by simp))
  | _=>exact absurd (hs) Jt
 | str i=>
  obtain⟨t,rfl⟩:=rx;cases y with
  | non=>ext ry;exact PySem.EqNone.ne_str_none (f7 I q (by simp))
  | bl j=>ext ry;exact PySem.EqMixed.ne_str_bool (f7 I q (by simp))
  | int j=>obtain⟨t',rfl⟩:=ry;exact PySem.EqMixed.ne_str_int (f7 I q (by simp))
  | str j=>obtain⟨t',rfl⟩:=ry;exact ne_str (f7 I q (congrArg not kH))
  | _=>exact absurd (hs) Jt
 | byt i=>
  obtain⟨t,rfl⟩:=rx;cases y with
  | byt j=>obtain⟨t',rfl⟩:=ry;exact PySem.W.ne_bytes (f7 I q (congrArg not lT))
  | _=>exact absurd (hs) Jt
 | _=>ext y <;> exact absurd (hs) Jt
theorem Gv:OpR X (compareOp .Lt) (rI0 λi j=>.bl (decide (i<j))):=xy λ_ _ _ _ _ _ _ q=>lt_int q
theorem Eo:OpR X (compareOp .LtE) (rI0 λi j=>.bl (decide (i<=j))):=xy λ_ _ _ _ _ _ _ q=>le_int q
theorem Eh:OpR X (compareOp .Gt) (rI0 λi j=>.bl (decide (j<i))):=xy λ_ _ _ _ _ _ _ q=>gt_int q
theorem Fy:OpR X (compareOp .GtE) (rI0 λi j=>.bl (decide (j<=i))):=xy λ_ _ _ _ _ _ _ q=>ge_int q
theorem yj(d:OpR X (compareOp op) r)(c:PE X a ta)(g:PE X b tb)(k:behindInMarks op b=false):PE X (.Compare a [op] [b] pos) (tOp r ta tb):=by
 intro π s σ H Q I h;exact wpAny_Compare1 (Da c g I h λv u j x y l e i f q=>d π j σ l x y v u Q e i f q) k
def EW(t:TE):TT:=λσ H Q=>t σ H λx H'=>∃k,x=.bl k/\Q k H'
theorem jO(w:OpR X (compareOp op) r)(t:PE X a ta)(j:PE X b tb)(o:behindInMarks op b=false):PT X (.Compare a [op] [b] pos) (EW (tOp r ta tb)):=by
 intro π s σ H Q I h;refine wpAny_isTrue_Compare1 (thn (t π s σ H _ I h) λv f ⟨x,m,g,q,p⟩=>thn (j π f σ m _ g p) λu C ⟨y,D,A,l,d⟩=>
  thn (w π C σ D x y v u _ A q l d) λc F ⟨z,B,i,E,k,e,n⟩=>?_) o
 subst e;ext E;exact Nf ⟨B,i,n⟩
def lX(K:PySem.W.Frag)(x:V)(H:Hp)(k:Bool):Prop:=
 match x with
 | .non=>k=false
 | .bl b=>k=b
 | .int i=>k=(i != 0)
 | .str y=>y.length<=sizeLine/\k=((y.length:Int) != 0)
 | .byt y=>y.size<=sizeLine/\k=((y.size:Int) != 0)
 | .ref p=>(∃xs,SqL K H p xs/\k=!xs.isEmpty)\/(∃xs,SqT K H p xs/\k=!xs.isEmpty)\/∃a,H p=some (.dK a)/\k=!a.isEmpty
 | _=>False
theorem ip(r:KV kvs vs):(!vs.isEmpty)=!kvs.isEmpty:=by
 ext r <;> rfl
theorem aY(r:Vals xs its):(!its.toArray.isEmpty)=!xs.isEmpty:=by
 ext r <;> simp
theorem T0:(sizeLine:Nat)<2 ^ 63:=by rw[JS];decide
theorem cc:ID X (λx H Q=>∃k,lX X.K x H k/\Q k H):=by
 intro π s σ H x v Q I rx h;obtain⟨k,e,q⟩:=h;have hl:=T0;have hs:=JS;cases x with
 | non=>
  ext rx;have e':=e;subst e';exact truthy_none ⟨H,I,q⟩
 | bl b=>
  ext rx;have e':=e;subst e';exact Nf ⟨H,I,q⟩
 | int i=>
  obtain⟨t,rfl⟩:=rx;have e':=e;subst e';exact PySem.P.truthy_int ⟨H,I,q⟩
 | str y=>
  obtain⟨t,rfl⟩:=rx;obtain⟨hy,e'⟩:=e;subst e';exact PySem.P.truthy_str ∅ ⟨H,I.tok _,q⟩
 | byt y=>
  obtain⟨t,rfl⟩:=rx;obtain⟨hy,e'⟩:=e;subst e';exact PySem.W.truthy_bytes ∅ ⟨H,I.tok _,q⟩
 | ref p=>
  ext rx;have e':=e;rcases e' with ⟨xs,hx,e'⟩ | ⟨xs,hx,e'⟩ | ⟨kvs,hx,e'⟩
  ·subst e';obtain⟨its,r,pl,hz⟩:=I.list hx;have hlen:=r.length;exact wpAny_truthy_list pl.isList (by simp;omega) ⟨H,I.tok _,by rw[aY r];exact q⟩
  ·subst e';obtain⟨its,r,pl,hz⟩:=I.tuple hx;have hlen:=r.length;exact truthy_tuple pl (by simp;omega) ⟨H,I.tok _,by rw[aY r];exact q⟩
  ·subst e';obtain⟨hz,hS,vs,r,m⟩:=I.hok p _ hx;have hlen:=Paired.length r;exact wpAny_truthy_dict hS m ∅ ⟨H,I.tok _,by rw[ip r];exact q⟩
 | _=>exact(e).elim
theorem rY(c:PE X a ta)(d:∀b,isTrue a X.env b=(do let v <- b;standAt a.pos;holding [v] (truthy v))) :
  PT X a (λσ H Q=>ta σ H λx H'=>∃k,lX X.K x H' k/\Q k H'):=by
 intro π s σ H Q I h;exact isTrue_plain (thn (c π s σ H _ I h) λv g ⟨x,f,e,j,i⟩=>cc π g σ f x v Q e j i) (d _)
theorem jK:OpR X (binaryOp .Add) (λx y H Q=>∃i j,x=.str i/\y=.str j/\i.length+j.length<=sizeLine/\Q (.str (i++j)) H):=by
 intro π s σ H x y v u Q I b a h;obtain⟨i,j,rfl,rfl,hz,q⟩:=h;obtain⟨t,rfl⟩:=b;obtain⟨t',rfl⟩:=a;exact add_str (λt' c=>⟨.str (i++j),H,I.tok _,⟨_,rfl⟩,q⟩) hz
theorem X0(r:Vals [x] us):∃u,us=[u]/\RelV x u:=by
 cases r with
 | cons b a=>ext a;exact⟨_,rfl,b⟩
theorem kY(r:Vals [x,y] us):∃u w',us=[u,w']/\RelV x u/\RelV y w':=by
 cases r with
 | cons b a=>
  cases a with
  | cons d c=>ext c;exact⟨_,_,rfl,b,d⟩
theorem mT(b:X.calm=true):k5 X (.builtin "min") (λxs H Q=>∃i j,xs=[.int i,.int j]/\Q (.int (if j<i then j else i)) H):=by
 intro π s σ H xs us Q I r h;obtain⟨i,j,rfl,q⟩:=h;obtain⟨u,w',rfl,⟨t,rfl⟩,⟨t',rfl⟩⟩:=kY r;refine min_two_ints (I.ok.hd b) λh' c k=>⟨_,H,I.kept k,?_,q⟩;by_cases a:j<i
 ·rw[if_pos a,if_pos a];exact⟨_,rfl⟩
 ·rw[if_neg a,if_neg a];exact⟨_,rfl⟩
end
theorem bi{h:Heap}{c:Addr}{mA:Str->Option Value}(n:h.Ns1 c mA):∃od,h.get? c=some od/\∀name,PySem.W.lookIn name od=some (mA name):=by
 obtain⟨o,es,k,g,hd,d,_,j⟩:=n;refine⟨o,g,λname=>?_⟩;have e:=j name;unfold nsFind findBy at e;rw[<- Array.find?_toList]at e;unfold PySem.W.lookIn;rw[hd];dsimp only;split
 ·grind
 ·rename_i q;rw[q]at e;have a:es.toList.any (·.refKey)=false:=by
   rw[List.any_eq_false];intro y f;obtain⟨z,t,b⟩:=d y (Array.mem_toList_iff.mp f);simp[DictEntry.refKey,b]
  have i:¬ es.toList.any (·.refKey)=true:=by rw[a];exact Jt
  rw[if_neg i];exact congrArg some e
def J8(f:Str)(v:V):List (Str×V)->List (Str×V)
 | []=>[(f,v)]
 | (g,x)::r=>if g=f then (g,v)::r else (g,x)::J8 f v r
theorem W1(f g:Str)(v:V):∀fs:List (Str×V),(J8 f v fs).lookup g=if g=f then some v else fs.lookup g
 | []=>by
  show List.lookup g [(f,v)]=_;by_cases h:g=f
  ·have hb:(g==f)=true:=Mm.mpr h;simp only[List.lookup,hb,if_pos h]
  ·have hb:(g==f)=false:=Kz.mpr h;simp only[List.lookup,hb,if_neg h]
 | (k,x)::r=>by
  have ih:=W1 f g v r;rw[show J8 f v ((k,x)::r)=(if k=f then (k,v)::r else (k,x)::J8 f v r) from rfl];by_cases hk:k=f
  ·rw[if_pos hk];by_cases h:g=k
   ·have hb:(g==k)=true:=Mm.mpr h;simp only[List.lookup,hb,if_pos (h.trans hk)]
   ·have hb:(g==k)=false:=Kz.mpr h;simp only[List.lookup,hb,if_neg (λe:g=f=>h (e.trans hk.symm))]
  ·rw[if_neg hk];by_cases h:g=k
   ·have hb:(g==k)=true:=Mm.mpr h;simp only[List.lookup,hb,if_neg (λe:g=f=>hk (h.symm.trans e))]
   ·have hb:(g==k)=false:=Kz.mpr h;simp only[List.lookup,hb];exact ih
theorem U1(f:Str)(v:V):∀fs:List (Str×V),f∈(J8 f v fs).map (·.1)/\∀g,g∈fs.map (·.1)->g∈(J8 f v fs).map (·.1)
 | []=>⟨by simp[J8],λg h=>by simp at h⟩
 | (k,x)::r=>by
  obtain⟨a,c⟩:=U1 f v r;rw[show J8 f v ((k,x)::r)=(if k=f then (k,v)::r else (k,x)::J8 f v r) from rfl];by_cases b:k=f
  ·grind
  ·grind
theorem V4(f:Str)(v:V):∀fs:List (Str×V),(J8 f v fs).length<=fs.length+1
 | []=>by simp[J8]
 | (k,x)::r=>by
  have b:=V4 f v r;rw[show J8 f v ((k,x)::r)=(if k=f then (k,v)::r else (k,x)::J8 f v r) from rfl];by_cases a:k=f
  ·grind
  ·grind
theorem RelO.some_of(r:RelO (some v) o):∃u,o=some u/\RelV v u:=by
 cases o with
 | none=>exact(r).elim
 | some u=>exact⟨u,rfl,r⟩
def z9(K:PySem.W.Frag)(C:Addr)(f:Str):Prop:=PySem.W.findIn K (.ref C) f=some none
structure Room(q:Bool)(k:Nat)(A:Around):Prop where
 hd:q=false->A.handled=none
 dp:A.depth+3 * k+5<recursionLimit
 un:A.units+16 * k+200<cLine
 gd:A.guards=some []
theorem Room.any{k:Nat}{A:Around}(r:Room false k A):Room q k A:=⟨λ_=>r.hd rfl,r.dp,r.un,r.gd⟩
theorem Room.mono{j k:Nat}{A:Around}(r:Room q k A)(h:j<=k):Room q j A:=⟨r.hd,by have:=r.dp;omega,by have:=r.un;omega,r.gd⟩
theorem Room.deeper(r:Room q (k+1) A)(a:Env):Room q k (A.deeper a):=
 ⟨r.hd,by have:=r.dp;show A.depth+1+3 * k+5<_;omega,by have:=r.un;show A.units+3+16 * k+200<_;omega,r.gd⟩
theorem jL{A:Around}{C:Addr}{us:List Value}{a:List (Str×Value)}:(A.under (.builtin "type.__call__" ⟨.ref C::us,a⟩)).depth=A.depth+1:=by
 first | rfl | simp[Around.under,Code.weight,Code.isCreation,Code.isGuard,Code.isCaller,Code.frames,Code.isFrame,guardIds]
theorem ib{A:Around}{C:Addr}{us:List Value}{a:List (Str×Value)}:(A.under (.builtin "type.__call__" ⟨.ref C::us,a⟩)).units=A.units+1:=by
 first | rfl | simp[Around.under,Code.cUnits,Code.frames,Code.isFrame]
theorem Room.make(r:Room q (k+1) A)(C:Addr)(us:List Value)(a:List (Str×Value)):Room q k (A.under (.builtin "type.__call__" ⟨.ref C::us,a⟩)):=
 ⟨r.hd,by have:=r.dp;rw[jL];omega,by have:=r.un;rw[ib];omega,by have:=r.gd;simp[Around.under,Code.guards,Code.isGuard,guardIds,pushGuards,this]⟩
theorem Room.depth(r:Room q k A):A.depth<recursionLimit:=by have:=r.dp;omega
theorem Room.units(r:Room q k A):A.units+64<cLine:=by have:=r.un;omega
def tNil:TA:=λ_ H Q=>Q [] H
def FI(d:TE)(a:TA):TA:=λσ H Q=>d σ H λx c=>a σ c λxs b=>Q (x::xs) b
section
variable {X:Cx}{e:Expr}{es:List Expr}{te:TE}{t:TA}{pos:Pos}
theorem bL:PA X [] tNil:=λ_ _ _ _ H Q I h=>Ls ⟨[],H,I,.nil,h⟩
theorem y8(a:PE X e te)(g:PA X es t)(hs:starEach (e::es) X.env=(false,eval e X.env)::starEach es X.env:=by rfl):PA X (e::es) (FI te t):=by
 intro pos π s σ H Q I h;rw[hs];refine Ll (thn (a π s σ H _ I h) λu j ⟨x,f,d,m,l⟩=>?_);exact thn (g pos π j σ f _ d l) λus n ⟨xs,k,c,b,i⟩=>⟨x::xs,k,c,.cons m b,i⟩
def Ir(t:TA):TE:=λσ H Q=>t σ H λxs a=>xs.length<=sizeLine/\∀p,a p=none->Q (.ref p) (upd a p (.tup xs))
def IL(t:TA):TE:=λσ H Q=>t σ H λxs a=>xs.length<=sizeLine/\∀p,a p=none->Q (.ref p) (upd a p (.lst xs))
theorem DQ{x1}(h:PA X es t):PE X (.Tuple es x1 pos) (Ir t):=by
 intro π s σ H Q I f;refine wpAny_Tuple_spliced (thn (h pos π s σ H _ I f) λus c ⟨xs,g,a,r,z,q⟩=>⟨by rw[<- r.length];exact z,?_⟩);have d:=a.hok.fresh (Ju _);refine⟨.ref c.heap.objs.size,upd g c.heap.objs.size (.tup xs),a.laid (λb u e=>Jq _ e) (Ju _) ?_,rfl,q _ d⟩;exact⟨z,us,r,⟨_,JG _ rfl,rfl,_,rfl,rfl⟩⟩
theorem sn(h:PA X es t):PE X (.List es pos) (IL t):=by
 intro π s σ H Q I f;refine wpAny_List_spliced (thn (h pos π s σ H _ I f) λus c ⟨xs,g,a,r,z,q⟩=>⟨by rw[<- r.length];exact z,?_⟩);have d:=a.hok.fresh (Ju _);refine⟨.ref c.heap.objs.size,upd g c.heap.objs.size (.lst xs),a.laid (λb u e=>Jq _ e) (Ju _) ?_,rfl,q _ d⟩;exact⟨z,us,0,r,JG _ rfl⟩
end
abbrev Sp:=List V->Hp->VK->XK->Prop
structure CXT where
 cx:List Env->Hp->Shared->XK->Value->Shared->Prop
 q:Bool
instance:CoeFun CXT λ_=>List Env->Hp->Shared->XK->Value->Shared->Prop:=⟨CXT.cx⟩
structure Env0(P:Program)(w:World)(K:PySem.W.Frag)(mg:Str->Option Value)(base:Heap)(A:Around)(outer:List Env)(s:Shared)(H:Hp):Prop where
 frames:A.frames=some outer
 mod:Mod K mg base
 bs:∀b o,base.get? b=some o->s.heap.get? b=some o/\H b=none
 bsz:base.objs.size<=s.heap.objs.size
 funs:s.heap.FunFrames base outer
 frf:∀b∈frs outer,H b=none
 hok:HOk P w H s.heap
 bare:AllBare s.gens
def CE(a:List Env)(P:Program)(w:World)(H:Hp)(s:Shared)(Q:VK)(u:Value)(s':Shared):Prop:=
 ∃v H',s'.os=s.os/\AllBare s'.gens/\Un (frs a) [] H H' s.heap s'.heap/\HOk P w H' s'.heap/\RelV v u/\Q v H'
def CR(CX:CXT)(a:List Env)(P:Program)(w:World)(H:Hp)(s:Shared)(Q:VK)(E:XK)(r:Result)(s':Shared):Prop:=
 match r with
 | .ok (.ret u)=>CE a P w H s Q u s'
 | .ok _=>False
 | .error e=>CX a H s E e s'
structure FnOk(P:Program)(w:World)(K:PySem.W.Frag)(mg:Str->Option Value)(base:Heap)(CX:CXT)(k:Nat)(f:Addr)(fd:FuncData)(ps:List Str)(sp:Sp):Prop where
 len:∀vs H Q E,sp vs H Q E->vs.length=ps.length
 run:∀(A:Around)(outer:List Env)(s:Shared)(H:Hp)(args:Args)(us:List Value)(vs:List V)(Q:VK)(E:XK),Room CX.q k A->Env0 P w K mg base A outer s H->BindsTo s fd args (ps.zip us)->Vals vs us->sp vs H Q E ->
  codeAny (model P w) A (.call (.ref f) args) (CR CX outer P w H s Q E) s
theorem FnOk.mono{K:PySem.W.Frag}{d:Str->Option Value}{a:Heap}{CX:CXT}{j k:Nat}{f:Addr}{fd:FuncData}{ps:List Str}{sp:Sp}(F:FnOk P w K d a CX j f fd ps sp)(h:j<=k) :
  FnOk P w K d a CX k f fd ps sp:=⟨F.len,λA b s H c us vs Q E e=>F.run A b s H c us vs Q E (e.mono h)⟩
theorem FnOk.imp{K:PySem.W.Frag}{d:Str->Option Value}{a:Heap}{CX:CXT}{k:Nat}{f:Addr}{fd:FuncData}{ps:List Str}{sp sp':Sp}(F:FnOk P w K d a CX k f fd ps sp)
  (h:∀vs H Q E,sp' vs H Q E->sp vs H Q E):FnOk P w K d a CX k f fd ps sp':=
 ⟨λvs H Q E q=>F.len vs H Q E (h _ _ _ _ q),λA b s H c us vs Q E g e i j hs=>F.run A b s H c us vs Q E g e i j (h _ _ _ _ hs)⟩
theorem Env0.make{K:PySem.W.Frag}{c:Str->Option Value}{b:Heap}{A:Around}{a:List Env}{s:Shared}{H:Hp}(e:Env0 P w K c b A a s H)(C:Addr)(us:List Value)(d:List (Str×Value)) :
  Env0 P w K c b (A.under (.builtin "type.__call__" ⟨.ref C::us,d⟩)) a s H:=⟨by first | exact e.frames | (simpa [Around.under,Code.envs,Code.isFrame,pushEnvs] using e.frames),e.mod,e.bs,e.bsz,e.funs,e.frf,e.hok,e.bare⟩
section
variable {X:Cx}{π:List (Addr×Obj)}{σ:St}{H:Hp}{s s':Shared}
theorem Inv.env0(I:Inv X π σ H s):Env0 X.prog X.w X.K X.mg X.base X.A X.stack s H:=
 ⟨I.ok.frames,I.ok.mod,I.bs,JW I.ok.bsz I.sz,I.stack,I.stkFree,I.hok,I.bare⟩
theorem Inv.after(I:Inv X π σ H s)(h:CE X.stack X.prog X.w H s Q u s'):EP X π σ Q u s':=by
 obtain⟨v,H',f,a,i,e,r,q⟩:=h;obtain⟨j,g,d,t,c⟩:=s';obtain rfl:c=s.os:=f;exact⟨v,H',I.call i e a (λb z=>absurd z (by simp)),r,q⟩
end
def qQ(sp:Sp)(a:List V)(E:XK)(t:TA):TE:=λσ H Q=>t σ H λvs b=>sp (vs++a) b Q E
def Binds(K:PySem.W.Frag)(fd:FuncData)(ps:List Str)(ds:List Value):Prop:=
 ∀(s:Shared)(us:List Value),K.In s.heap->(us++ds).length=ps.length->BindsTo s fd ⟨us,[]⟩ (ps.zip (us++ds))
theorem Binds.all{K:PySem.W.Frag}{fd:FuncData}{ps:List Str}(h:∀us:List Value,us.length=ps.length->bindArgs fd ⟨us,[]⟩=pure (ps.zip us)):Binds K fd ps []:=λs us _ a=>by
 rw[Kc]at a ⊢;exact .of_eq (h us a)
def B9(CX:CXT)(X:Cx)(E:XK):Prop:=∀(π:List (Addr×Obj)) (σ:St) (H:Hp) (s:Shared) (e:Value) (s':Shared),Inv X π σ H s->CX X.stack H s E e s'->X.xe e s'
section
variable {X:Cx}{CX:CXT}{k:Nat}{f C:Addr}{fd:FuncData}{ps:List Str}{sp:Sp}{dvs:List V}{ds:List Value}{E:XK}{x m:Str}{p pos apos:Pos}{e o:Expr}{es:List Expr}{ta:TE}{t:TA}
theorem jF{σ:St}{H:Hp}{s:Shared}{Q:VK}{us:List Value}{vs:List V}(F:FnOk X.prog X.w X.K X.mg X.base CX k f fd ps sp)(hr:Room CX.q k X.A)(hb:Binds X.K fd ps ds)(hd:Vals dvs ds)(hx:B9 CX X E)
  (I:Inv X π σ H s) (r:Vals vs us) (h:sp (vs++dvs) H Q E):wpAny (model X.prog X.w) X.A (call (.ref f) us) (EP X π σ Q) X.xe s:=by
 have r2:=r.append hd;have hl:(us++ds).length=ps.length:=by rw[<- r2.length];exact F.len _ _ _ _ h
 refine LP (Ld (F.run X.A X.stack s H ⟨us,[]⟩ (us++ds) (vs++dvs) Q E hr I.env0 (hb s us I.kIn hl) r2 h) λr s' hq=>?_);cases r with
 | error e=>exact hx π σ H s e s' I hq
 | ok fl=>
  cases fl with
  | ret u=>exact I.after hq
  | next=>exact False.elim hq
  | brk=>exact False.elim hq
  | cont=>exact False.elim hq
theorem xi(F:FnOk X.prog X.w X.K X.mg X.base CX k f fd ps sp)(l:Room CX.q k X.A)(m:Gl X x)(o:X.mg x=some (.ref f))(d:PySem.W.keepIn X.K (.ref f)=true)(n:Binds X.K fd ps ds)(hd:Vals dvs ds)(g:B9 CX X E)
  (i:PA X (e::es) t) (a:(x==("__debug__" : Str))=false:=by decide) (j:starEach (e::es) X.env=(false,eval e X.env)::starEach es X.env:=by rfl) (b:(backTo pos (starEach es X.env)).any (·.1)=false:=by rfl) :
  PE X (.Call (.Name x p) (e::es) [] pos) (qQ sp dvs E t):=by
 intro π s σ H Q I h;refine Kr (E2 I m o ?_ a);refine Mn I.ok.mod.kin d (thn (i pos π s σ H _ I h) λus v ⟨vs,u,c,r,q⟩=>⟨c.kIn,?_⟩) j b;exact jF F l n hd g c r q
theorem pS(F:FnOk X.prog X.w X.K X.mg X.base CX k f fd ps sp)(d:Room CX.q k X.A)(e:Gl X x)(i:X.mg x=some (.ref f))(b:PySem.W.keepIn X.K (.ref f)=true)(g:Binds X.K fd ps ds)(hd:Vals dvs ds)(c:B9 CX X E)
  (a:(x==("__debug__" : Str))=false:=by decide):PE X (.Call (.Name x p) [] [] pos) (qQ sp dvs E tNil):=by
 intro π s σ H Q I h;refine Kr (E2 I e i ?_ a);exact PySem.W.callWith_K0 I.kIn b (jF F d g hd c I .nil h)
end
structure FnScope(N P:List Str)(sc:Scope):Prop where
 kind:sc.kind=.function
 co:sc.isCoroutine=false
 gen:sc.isGenerator=false
 nd:N.Nodup
 pre:N.take P.length=P
 par:∀x∈P,sc.names.lookup x=some .local\/sc.names.lookup x=some .cell
 nofree:∀y∈sc.names,y.2≠.free
theorem bo{b:Str->Option NameKind}{x:Str}:∀{a:List (Str×Value)} {m:Str->Option Value},(∀v,(x,v)∉a)->bindL b a m x=m x
 | [],_,_=>rfl
 | (n,v)::r,m,h=>by
  unfold bindL;rw[bo λw c=>h w (JE _ c)];split
  ·have:x≠n:=by rintro rfl;exact h v Jy
   simp[this]
  ·rfl
theorem cS{b:Str->Option NameKind}{x:Str}:∀{a:List (Str×Value)} {m:Str->Option Value},(∀v,(x,v)∉a)->bindC b a m x=m x
 | [],_,_=>rfl
 | (n,v)::r,m,h=>by
  unfold bindC;rw[cS λw c=>h w (JE _ c)];split
  ·rfl
  ·have:x≠n:=by rintro rfl;exact h v Jy
   simp[this]
theorem bv{a:Str->Option NameKind}{x:Str}{v:Value}:∀{P:List Str}{vs:List Value}{i:Nat}{m:Str->Option Value},P.Nodup->P[i]?=some x->vs[i]?=some v->a x=some .local ->
  bindL a (P.zip vs) m x=some v
 | [],_,_,_,_,h,_,_=>by simp at h
 | _::_,[],_,_,_,_,h,_=>by simp at h
 | p::P,w::vs,0,m,d,b,c,e=>by
  simp at b c;subst b;subst c;show bindL a ((p,w)::P.zip vs) m p=_;unfold bindL;rw[bo λv f=>(Ml.mp d).1 (ND f).1,if_pos e];simp
 | p::P,w::vs,i+1,m,d,b,c,e=>by
  unfold bindL;exact bv (Ml.mp d).2 (by simpa using b) (by simpa using c) e
theorem bz{a:Str->Option NameKind}{x:Str}{v:Value}:∀{P:List Str}{vs:List Value}{i:Nat}{m:Str->Option Value},P.Nodup->P[i]?=some x->vs[i]?=some v->a x≠some .local ->
  bindC a (P.zip vs) m x=some v
 | [],_,_,_,_,h,_,_=>by simp at h
 | _::_,[],_,_,_,_,h,_=>by simp at h
 | p::P,w::vs,0,m,d,b,c,e=>by
  simp at b c;subst b;subst c;show bindC a ((p,w)::P.zip vs) m p=_;unfold bindC;rw[cS λv f=>(Ml.mp d).1 (ND f).1,if_neg e];simp
 | p::P,w::vs,i+1,m,d,b,c,e=>by
  unfold bindC;exact bz (Ml.mp d).2 (by simpa using b) (by simpa using c) e
def start(N:List Str)(vs:List V):St:=vs.map some++List.replicate (N.length-vs.length) none
def ba(CX:CXT)(P:Program)(w:World)(K:PySem.W.Frag)(mg:Str->Option Value)(base:Heap)(N:List Str)(qual:Str)(scope:Scope)(f:Addr)(cd:Value)(A:Around)(outer:List Env)(s:Shared)(H:Hp)(E:XK):Cx where
 prog:=P
 w:=w
 K:=K
 mg:=mg
 base:=base
 A:=A.deeper (envOfC qual scope s.heap.objs.size f cd)
 N:=N
 s₀:=s
 H₀:=H
 env:=envOfC qual scope s.heap.objs.size f cd
 outer:=outer
 stack:=envOfC qual scope s.heap.objs.size f cd::outer
 ex:=[]
 calm:=!CX.q
 fn:=λ_=>true
 pn:=[]
 xe:=λe s'=>wpAny (model P w) (A.deeper (envOfC qual scope s.heap.objs.size f cd)) (leaving (envOfC qual scope s.heap.objs.size f cd) e) (λ_ s''=>CX outer H s E e s'') (λe' s''=>CX outer H s E e' s'') s'
theorem gE{a:Scope}{n:Nat}{x:Str}(h:a.names.lookup x=some .cell):∃c,(cellsFrom n a.names []).lookup x=some c:=by
 have q:=PySem.W.cellsFrom_some a.names n [] (.inl h);exact Kd.mp q
theorem nL{CX:CXT}{P:Program}{w:World}{K:PySem.W.Frag}{mg:Str->Option Value}{base:Heap}{N ps:List Str}{qual:Str}{scope:Scope}{f:Addr}{cd:Value}{A:Around}{outer:List Env}{s s1:Shared}{H:Hp}{E:XK}{us:List Value}{vs:List V}
  (S:FnScope N ps scope) (hd:CX.q=false->A.handled=none) (e0:Env0 P w K mg base A outer s H) (hl:vs.length=ps.length) (r:Vals vs us)
  (x:InCallC s s.heap.objs.size (bindL (envOfC qual scope s.heap.objs.size f cd).kindOf (ps.zip us) λ_=>none) (cellsFrom (s.heap.objs.size+1) scope.names []) (bindC (envOfC qual scope s.heap.objs.size f cd).kindOf (ps.zip us) λ_=>none) s1) :
  Inv (ba CX P w K mg base N qual scope f cd A outer s H E) [] (start N vs) H s1:=by
 have hpl:ps.length<=N.length:=by have:=congrArg List.length S.pre;rw[Lh]at this;omega
 obtain⟨h1,tk,rfl,hk⟩:=x.done;have noA:∀b:Addr,b∉(ba CX P w K mg base N qual scope f cd A outer s H E).ex:=λb z=>absurd (show b∈([]:List Addr) from z) (by simp);refine⟨⟨e0.mod,S.kind,rfl,rfl,Ju _,λy z c h1 h2=>?_,λy hy=>?_,λy c _ h=>?_,λz=>hd (by have z:(!CX.q)=true:=z;simpa using z),Around.frames_deeper e0.frames,.inr ⟨rfl,rfl⟩,λb z=>absurd z (noA b),e0.bs,e0.bsz,λb _ _=>noA b,λb z=>absurd z (noA b),e0.funs,e0.frf⟩,
  rfl,e0.bare,Un.kept hk,⟨_,x.toInCall.ns,λi y v h1 h2 h3=>?_⟩,λy c h=>⟨_,x.cell y c h⟩,e0.hok.fresh (Ju _),λy c h=>?_,λp hp=>absurd (show p∈([]:List (Addr×Obj)) from hp) (by simp),e0.hok.kept hk,?_⟩
 ·exact name_of_addr x.apart (Lz h1) (Lz h2)
 ·have hy:scope.names.lookup y=some .cell\/scope.names.lookup y=some .free:=hy;rcases hy with hy | hy
  ·exact gE hy
  ·exact absurd rfl (S.nofree _ (Lz hy))
 ·exact Ny (x.above y c (Lz h))
 ·have hi:i<vs.length:=by
   unfold start at h2;by_cases hi:i<vs.length
   ·exact hi
   ·rw[Ka (by simpa using hi)]at h2;rw[Kv]at h2;split at h2 <;> ext h2
  have ha:vs[i]?=some v:=by
   unfold start at h2;rw[Jz (by simpa using hi),JU]at h2;cases e:vs[i]? with
   | none=>rw[e]at h2;ext h2
   | some a=>rw[e]at h2;ext h2;rfl
  obtain⟨u,hu,rv⟩:=r.get ha;have hp:ps[i]?=some y:=by
   rw[<- S.pre,List.getElem?_take_of_lt ∅];exact h1
  have ndP:ps.Nodup:=by rw[<- S.pre];exact S.nd.sublist (List.take_sublist _ _)
  refine⟨u,rv,?_⟩;rcases S.par y (JL hp)with k | k
  ·exact .inl ⟨k,bv ndP hp hu k⟩
  ·obtain⟨c,e⟩:=gE (n:=s.heap.objs.size+1) k;refine .inr ⟨.inl k,c,e,?_⟩;have q:=x.cell y c e;rw[bz ndP hp hu (by show scope.names.lookup y≠_;rw[k];decide)]at q;exact q
 ·exact e0.hok.fresh (Ny (x.above y c (Lz h)))
 ·unfold start;show _=N.length;rw[JP,Jr,KC];omega
theorem zx{K:PySem.W.Frag}{mg:Str->Option Value}{base:Heap}{k:Nat}{f:Addr}{name qual:Str}{params:Arguments}{body:List Stmt}{scope:Scope}{dV kV doc pm cdv ct oc:Value}{an od:Option Addr}
  {osl:Array (Option Value)} {N ps:List Str} {sp:Sp} (lk:K.lookup f=some ⟨oc,od,.func (PySem.W.fnOf name qual params body scope dV kV doc pm an cdv ct),osl⟩) (hcd:PySem.W.codeIn K cdv qual=true) (S:FnScope N ps scope)
  (len:∀vs H Q E,sp vs H Q E->vs.length=ps.length)
  (hbody:∀(A:Around)(outer:List Env)(s:Shared)(H:Hp)(vs:List V)(Q:VK)(E:XK),Room CX.q k (A.deeper (envOfC qual scope s.heap.objs.size f cdv))->sp vs H Q E ->
   ∃t,PSs (ba CX P w K mg base N qual scope f cdv A outer s H E) body t/\t { nx:=λ_ H'=>Q .non H',rt:=Q } (start N vs) H) :
  FnOk P w K mg base CX (k+1) f (PySem.W.fnOf name qual params body scope dV kV doc pm an cdv ct) ps sp:=by
 refine⟨len,λA outer s H args us vs Q E hr e0 hb r hsp=>?_⟩;have hl:=len _ _ _ _ hsp;have KX:=e0.mod.kin.keeps λb o e=>(e0.bs b o e).1;have lim:=e0.mod.nolimit.keeps λb o e=>(e0.bs b o e).1;have hkind:∀y∈ps.zip us,scope.names.lookup y.1=some .local\/(scope.names.lookup y.1=some .cell/\((cellsFrom (s.heap.objs.size+1) scope.names []).lookup y.1).isSome=true):=λ⟨n,v⟩ hy=>by
  rcases S.par n (ND hy).1 with q | q
  ·exact .inl q
  ·exact .inr ⟨q,PySem.W.cellsFrom_some _ _ _ (.inl q)⟩
 refine codeAny_call_function hr.depth (KX _ _ lk) rfl S.co S.gen rfl (PySem.W.codeRec_of KX hcd) (hb _ _ _ _ ?_);refine wpAny_newFunctionEnv_cells S.kind hkind λenv he s1 x=>?_;subst he;refine⟨lim.keeps x.toInCall.keep,codeAny_func ?_⟩;obtain⟨t,ht,hq⟩:=hbody A outer s H vs Q E (hr.deeper _) hsp;have I:Inv (ba CX P w K mg base N qual scope f cdv A outer s H E) [] (start N vs) H s1:=nL S hr.hd e0 hl r x;refine JO (ht [] s1 (start N vs) H _ I hq) (λfl s' hs=>?_) λe s' hs=>hs;have fin:∀{σ':St}{H':Hp}{v:V}{u:Value},Inv (ba CX P w K mg base N qual scope f cdv A outer s H E) [] σ' H' s'->RelV v u->Q v H'->CE outer P w H s Q u s':=
  λ{σ' H' v u} J rv q=>⟨v,H',J.os,J.bare,J.base,J.hok,rv,q⟩
 cases fl with
 | ret u=>
  obtain⟨v,σ',H',J,rv,q⟩:=hs;exact fin J rv q
 | next=>
  obtain⟨σ',H',J,q⟩:=hs;exact fin (v:=V.non) J rfl q
 | brk=>
  obtain⟨_,_,_,q⟩:=hs;exact False.elim q
 | cont=>
  obtain⟨_,_,_,q⟩:=hs;exact False.elim q
section
variable {X:Cx}{x:Str}{p pos:Pos}{e:Expr}{es:List Expr}{t:TA}{id T:String}{r:List V->Hp->VK->Prop}
def tCB(r:List V->Hp->VK->Prop)(t:TA):TE:=λσ H Q=>t σ H λvs a=>r vs a Q
theorem gh(n:k5 X (.builtin id) r)(l:Gl X x)(m:X.mg x=none)(c:bootBuiltins x=some (.builtin id))(d:PA X (e::es) t)(f:x ≠ "__name__":=by decide) (a:(x==("__debug__" : Str))=false:=by decide)
  (g:starEach (e::es) X.env=(false,eval e X.env)::starEach es X.env:=by rfl) (b:(backTo pos (starEach es X.env)).any (·.1)=false:=by rfl):PE X (.Call (.Name x p) (e::es) [] pos) (tCB r t):=by
 intro π s σ H Q I h;refine Kr (C5 I l m c ?_ f a);exact LB (thn (d pos π s σ H _ I h) λus i ⟨vs,k,j,q,o⟩=>n π i σ k vs us Q j q o) g b
theorem lq(n:k5 X (.type T) r)(l:Gl X x)(m:X.mg x=none)(c:bootBuiltins x=some (.type T))(d:PA X (e::es) t)(f:x ≠ "__name__":=by decide) (a:(x==("__debug__" : Str))=false:=by decide)
  (g:starEach (e::es) X.env=(false,eval e X.env)::starEach es X.env:=by rfl) (b:(backTo pos (starEach es X.env)).any (·.1)=false:=by rfl):PE X (.Call (.Name x p) (e::es) [] pos) (tCB r t):=by
 intro π s σ H Q I h;refine Kr (C5 I l m c ?_ f a);exact Ku (thn (d pos π s σ H _ I h) λus i ⟨vs,k,j,q,o⟩=>n π i σ k vs us Q j q o) g b
end
end L2
namespace HT
open PySem PyProof.Rows
section
variable {prog:Program}{w:World}{A:Around}{E:Value->Shared->Prop}{s:Shared}
theorem cat_tup(q:IsTup s.heap t vs.toArray)(v:IsTup s.heap b ws.toArray)(p:vs≠[])
  (r:ws=[]->Q (.ref t) s) (u:ws≠[]->Q (.ref s.heap.objs.size) { s with heap:=s.heap.push { cls:=.type "tuple",data:=.seq (vs++ws).toArray } })
  (hsz:vs.length+ws.length<=sizeLine):wpAny (model prog w) A (binaryOp .Add (.ref t) (.ref b)) Q E s:=by
 obtain⟨⟨cls,k,data,o⟩,f,x,n,hd⟩:=id q;obtain⟨⟨m,d,i,c⟩,a,h,l,j⟩:=id v;subst x hd h j;have e:vs.toArray++ws.toArray=(vs++ws).toArray:=by simp
 by_cases g:ws=[]
 ·exact concat_meets ⟨_,f,rfl⟩ ⟨_,a,rfl⟩ Nv NR Mt Mr (Mi _ _)
   (tuple_addW1 t b vs.toArray ws.toArray n l k d o c (by simpa using p) (by simp[g])) ⟨f,a,r g⟩
 ·refine concat_meets ⟨_,f,rfl⟩ ⟨_,a,rfl⟩ Nv NR Mt Mr (Mi _ _)
   (tuple_addW2 t b vs.toArray ws.toArray n l k d o c (by simpa using p) (by simpa using g) (by rw[Jv,Jv];exact hsz)) ⟨f,a,?_⟩
  rw[e];exact u g
def sIx(n d:Nat):Option Int->Nat
 | none=>d
 | some v=>if v<0 then (v+(n:Int)).toNat else min v.toNat n
theorem sIx_none(n d:Nat):sIx n d none=d:=rfl
theorem AT(n d:Nat)(hd:d<=n)(o:Option Int):sIx n d o<=n:=by
 cases o with
 | none=>exact hd
 | some v=>
  show(if v<0 then (v+(n:Int)).toNat else min v.toNat n)<=n;by_cases a:v<0
  ·rw[if_pos a];omega
  ·grind
theorem kT(v:Int)(n d:Nat):(if v<0 then max (v+(n:Int)) 0 else min v (n:Int))=((sIx n d (some v):Nat):Int):=by
 show(if v<0 then max (v+(n:Int)) 0 else min v (n:Int))=(((if v<0 then (v+(n:Int)).toNat else min v.toNat n):Nat):Int);grind
theorem ic(lo hi:Option Int)(n:Nat):Builtin.Slice.sliceAdjust lo hi 1 (n:Int)=(((sIx n 0 lo:Nat):Int),((sIx n n hi:Nat):Int)):=by
 have h1:¬ ((1:Int)<0):=by omega
 refine Prod.ext ?_ ?_
 ·cases lo with
  | none=>rfl
  | some v=>exact kT v n 0
 ·cases hi with
  | none=>rfl
  | some v=>exact kT v n n
theorem gu(i j:Nat):Builtin.Slice.slicePlaces (i:Int) (j:Int) 1=j-i:=by
 unfold Builtin.Slice.slicePlaces;grind
theorem aQ(p:IsPart v o)(h:Q o s):wpAny (model prog w) A (Builtin.Slice.slicePartIndex v) Q E s:=by
 cases p with
 | none=>exact MV h
 | int i t=>exact slicePart_int h
theorem sliceApplied_gen{lo hi:Option Int}{n:Nat}{Q:Int×Int×Nat->Shared->Prop}(hs:s.heap.IsSliceOf sl vl vu .none)(pl:IsPart vl lo)(pu:IsPart vu hi)
  (h:Q (((sIx n 0 lo:Nat):Int),1,sIx n n hi-sIx n 0 lo) s):wpAny (model prog w) A (Builtin.Slice.sliceApplied (.ref sl) (pure (n:Int))) Q E s:=by
 obtain⟨os,hos,hcs,hds⟩:=id hs;refine Jn (Jn (KA hos hds rfl (Jn (KA hos hds rfl (Jn (KA hos hds rfl (Jo ?_)))))));refine Jn (MV ?_);rw[if_neg ⋯];refine Jn (aQ pl (Jn (aQ pu (Jn (Jo ?_)))));show wpAny _ _ (match Builtin.Slice.sliceAdjust lo hi 1 (n:Int)with | (lo,hi)=>pure (lo,(1:Int),Builtin.Slice.slicePlaces lo hi 1)) _ _ s;rw[ic lo hi n];show wpAny _ _ (pure (((sIx n 0 lo:Nat):Int),(1:Int),Builtin.Slice.slicePlaces ((sIx n 0 lo:Nat):Int) ((sIx n n hi:Nat):Int) 1)) _ _ s;rw[gu];exact Jo h
theorem tw(xs:Array Value)(i k:Nat):((List.range k).filterMap λ(m:Nat)=>xs[((i:Int)+(m:Int) * 1).toNat]?).toArray=((xs.toList.drop i).take k).toArray:=by
 have e:(λ(m:Nat)=>xs[((i:Int)+(m:Int) * 1).toNat]?)=λm=>xs[i+m]?:=by
  funext m;have:((i:Int)+(m:Int) * 1).toNat=i+m:=by omega
  rw[this]
 rw[e];have:=pick_run xs i k;rw[Mo]at this;have e2:((λx=>xs[x]?) ∘ λx=>i+x)=λm=>xs[i+m]?:=rfl;grind
theorem getItem_tuple_cut{items:Array Value}{i j:Value}{lo b:Option Int}{Q:Value->Shared->Prop}(c:IsTup s.heap t items)(hs:s.heap.IsSliceOf sl i j .none)(pl:IsPart i lo)(k:IsPart j b)
  (m:¬ (sIx items.size 0 lo=0/\sIx items.size items.size b=items.size))
  (h:Q (.ref s.heap.objs.size) { s with heap:=s.heap.push { cls:=.type "tuple",data:=.seq ((items.toList.drop (sIx items.size 0 lo)).take (sIx items.size items.size b-sIx items.size 0 lo)).toArray } })
  (hsz:items.size<=sizeLine):wpAny (model prog w) A (getItem (.ref t) (.ref sl)) Q E s:=by
 have a:sizeOk (.seq ((items.toList.drop (sIx items.size 0 lo)).take (sIx items.size items.size b-sIx items.size 0 lo)).toArray):=by
  show((items.toList.drop (sIx items.size 0 lo)).take (sIx items.size items.size b-sIx items.size 0 lo)).toArray.size<=sizeLine;rw[Jv,Lh,List.length_drop,Mc];omega
 have n:sIx items.size items.size b<=items.size:=AT _ _ (Ju _) b;obtain⟨l,d,e,hds⟩:=id hs;have g:s.TypeIs (.ref sl) "slice":=⟨l,d,e⟩;unfold getItem;try with_reducible refine Kf ?_
 first | refine Jn (Jo ?_) | skip
 refine Jn (Ng c.typeIs ⋯ ?_);refine Jn (Kw c.typeIs Km
  (KJ Km c.typeIs MQ ?_ (MW _ _)))
 show wpAny _ _ (Builtin.Tuple.tupleItemsOf (.ref t) >>= _) _ _ s;refine Jn (Nk c ?_);refine Jn (MR g ?_);rw[if_pos ⋯];refine Jn (sliceApplied_gen hs pl k ?_);have f:¬ ((((sIx items.size 0 lo:Nat):Int)==0&&(1:Int)==1&&(sIx items.size items.size b-sIx items.size 0 lo)==items.size)=true):=by
  intro q;rw[Jp,Jp]at q;have p:=eq_of_beq q.1.1;have o:=eq_of_beq q.2;exact m ⟨by omega,by omega⟩
 show wpAny _ _ (if (((sIx items.size 0 lo:Nat):Int)==0&&(1:Int)==1&&(sIx items.size items.size b-sIx items.size 0 lo)==items.size)=true then _ else _) _ _ s;rw[if_neg f,tw];first
  | exact Jn (JT (Jo ⟨_,rfl,Jo h⟩) a)
  | exact Jn (JT (Jn (Jo (Jo ⟨_,rfl,Jo h⟩))) a)
  | exact Jn (Jn (JT (Jo (Jo ⟨_,rfl,Jo h⟩)) a))
  | exact Jn (Jn (JT (Jo ⟨_,rfl,Jo h⟩) a))
end
end HT
namespace L2
open PySem PySem.Spec PyProof.Rows
abbrev TO:=St->Hp->(Option Int->Hp->Prop)->Prop
def PO(X:Cx)(e:Option Expr)(t:TO):Prop:=
 ∀(π:List (Addr×Obj)) (s:Shared) (σ:St) (H:Hp) (Q:Option Int->Hp->Prop),Inv X π σ H s->t σ H Q ->
  wpAny (model X.prog X.w) X.A (evalPart e X.env) (λu s'=>∃o H',Inv X π σ H' s'/\IsPart u o/\Q o H') X.xe s
def tNoPart:TO:=λ_ H Q=>Q none H
def FU(t:TE):TO:=λσ H Q=>t σ H λx a=>∃i,x=.int i/\Q (some i) a
section
variable {X:Cx}{e:Expr}{te:TE}{lo hi:Option Expr}{tl th:TO}{pos p2:Pos}
theorem wc:PO X none tNoPart:=by
 intro π s σ H Q I h;rw[NS];exact Jo ⟨none,H,I,.none,h⟩
theorem yP(h:PE X e te):PO X (some e) (FU te):=by
 intro π s σ H Q I f;rw[evalPart_some];refine thn (h π s σ H _ I f) λu g ⟨x,b,a,d,c⟩=>?_;obtain⟨i,rfl,q⟩:=c;obtain⟨t,rfl⟩:=d;exact⟨some i,b,a,.int i t,q⟩
def SlR(X:Cx)(r:V->Option Int->Option Int->Hp->VK->Prop):Prop:=
 ∀(π:List (Addr×Obj)) (s:Shared) (σ:St) (H:Hp) (x:V) (v c b:Value) (lo a:Option Int) (d:Addr) (Q:VK),Inv X π σ H s->RelV x v->s.heap.IsSliceOf d c b .none->IsPart c lo->IsPart b a->r x lo a H Q ->
  ∃T id,typeLookup (.type T) "__getitem__" = pure (some (.builtin id))/\s.TypeIs v T/\wpAny (model X.prog X.w) X.A (getItem v (.ref d)) (EP X π σ Q) X.xe s
def tSl(r:V->Option Int->Option Int->Hp->VK->Prop)(te:TE)(a d:TO):TE:=λσ H Q=>te σ H λx c=>a σ c λl e=>d σ e λu b=>r x l u b Q
theorem nn(j:SlR X r)(o:PE X e te)(g:PO X lo tl)(J:PO X hi th):PE X (.Subscript e (.Slice lo hi none p2) pos) (tSl r te tl th):=by
 intro π s σ H Q I h;refine Subscript_ (thn (o π s σ H _ I h) λv m ⟨x,y,t,C,B⟩=>?_);refine wpAny_Slice (thn (g π m σ y _ t B) λc F ⟨l,G,D,pl,i⟩=>thn (J π F σ G _ D i) λd a ⟨u,f,w,n,z⟩=>?_);rw[NS];refine Jo ?_;have k:Inv X π σ f { a with heap:=a.heap.push { cls:=.type "slice",data:=.fields #[c,d,.none] } }:=w.kept λb ob q=>Jq _ q;obtain⟨T,id,A,p,E⟩:=j π { a with heap:=a.heap.push { cls:=.type "slice",data:=.fields #[c,d,.none] } } σ f x v c d l u a.heap.objs.size Q k C (MX ..) pl n z;exact tail_any p A E (by with_unfolding_all rfl)
def nc(xs:List V)(lo a:Option Int):List V:=(xs.drop (HT.sIx xs.length 0 lo)).take (HT.sIx xs.length xs.length a-HT.sIx xs.length 0 lo)
theorem V7(xs:List V)(lo hi:Option Int):(nc xs lo hi).length<=xs.length:=by
 unfold nc;rw[Lh,List.length_drop];omega
def IE(K:PySem.W.Frag):V->Option Int->Option Int->Hp->VK->Prop:=λx lo b H Q=>∃a xs,x=.ref a/\SqT K H a xs /\
 ¬ (HT.sIx xs.length 0 lo=0/\HT.sIx xs.length xs.length b=xs.length)/\∀p,H p=none->Q (.ref p) (upd H p (.tup (nc xs lo b)))
theorem Ar:SlR X (IE X.K):=by
 intro π s σ H x v l m lo e n Q I j hs pl i h;obtain⟨a,xs,rfl,g,k,q⟩:=h;ext j;obtain⟨d,r,f,hz⟩:=I.tuple g;have c:d.toArray.size=xs.length:=by rw[Jv];exact r.length.symm
 refine⟨"tuple",_,PyProof.Rows.slot_tuple_getitem.lookup,f.typeIs,?_⟩;refine HT.getItem_tuple_cut f hs pl i (by rw[c];exact k) ?_ (by rw[c];exact hz);rw[c];refine⟨.ref s.heap.objs.size,_,I.laid (λb ob q=>Jq _ q) (Ju _) ?_,rfl,q _ (I.hok.fresh (Ju _))⟩;exact⟨JW (V7 xs lo e) hz,_,(r.drop (HT.sIx xs.length 0 lo)).take (HT.sIx xs.length xs.length e-HT.sIx xs.length 0 lo),TupN.new _ _⟩
def GZ(K:PySem.W.Frag):R2:=λx y H Q=>∃a b xs ys,x=.ref a/\y=.ref b/\SqT K H a xs/\SqT K H b ys/\xs≠[]/\xs.length+ys.length<=sizeLine /\
 (ys=[]->Q (.ref a) H)/\(ys≠[]->∀p,H p=none->Q (.ref p) (upd H p (.tup (xs++ys))))
theorem Vals.nil_iff(r:Vals xs us):us=[]↔xs=[]:=by
 cases r with
 | nil=>simp
 | cons _ _=>simp
theorem xb:OpR X (binaryOp .Add) (GZ X.K):=by
 intro π s σ H x y v u Q I n k h;obtain⟨a,b,xs,ys,rfl,rfl,g,m,f,hz,p,l⟩:=h;ext n;ext k;obtain⟨j,d,o,_⟩:=I.tuple g;obtain⟨e,c,i,_⟩:=I.tuple m;refine HT.cat_tup o i (λz=>f (d.nil_iff.mp z)) (λz=>⟨.ref a,H,I,rfl,p (c.nil_iff.mp z)⟩) (λz=>?_) (by rw[<- d.length,<- c.length];exact hz);refine⟨.ref s.heap.objs.size,_,I.laid (λb ob q=>Jq _ q) (Ju _) ?_,rfl,l (λw=>z (c.nil_iff.mpr w)) _ (I.hok.fresh (Ju _))⟩;exact⟨by rw[JP];exact hz,_,d.append c,TupN.new _ _⟩
end
def ixN(n:Nat)(i:Int):Option Nat:=if 0<=i then (if i<n then some i.toNat else none)else if -(n:Int)<=i then some (i+n).toNat else none
def atI{a:Type}(xs:List a)(i:Int):Option a:=(ixN xs.length i).bind λj=>xs[j]?
theorem jm(h:ixN n i=some j):seqIndex? i n=some j/\j<n/\-(n:Int)<=i/\i<n:=by
 unfold ixN at h;by_cases b:0<=i
 ·rw[if_pos b]at h;by_cases a:i<n
  ·rw[if_pos a]at h;have e:=JZ h;exact⟨by rw[seqIndex_of b a,e],by omega,by omega,a⟩
  ·grind
 ·rw[if_neg b]at h;by_cases a:-(n:Int)<=i
  ·rw[if_pos a]at h;have e:=JZ h;exact⟨by rw[seqIndex_neg ∅ a,e],by omega,a,by omega⟩
  ·grind
theorem kh(h:atI xs i=some v):∃j,seqIndex? i xs.length=some j/\xs[j]?=some v/\j<xs.length/\-(xs.length:Int)<=i/\i<xs.length:=by
 unfold atI at h;cases e:ixN xs.length i with
 | none=>rw[e]at h;ext h
 | some j=>
  rw[e]at h;obtain⟨c,b,a,d⟩:=jm e;exact⟨j,c,h,b,a,d⟩
theorem dz{j:Nat}{v:α}(h:xs[j]?=some v):atI xs (j:Int)=some v:=by
 have hj:=(Js.mp h).1;have e:ixN xs.length (j:Int)=some j:=by
  unfold ixN;rw[if_pos ∅,if_pos ∅];simp
 unfold atI;rw[e];exact h
def di(b:Expr):Prop:=∀o i,subscripted b false o i=operate [o,i] (getItem o i)
def IxR(X:Cx)(r:R2):Prop:=
 ∀(b a:Expr) (π:List (Addr×Obj)) (s:Shared) (σ:St) (H:Hp) (x y:V) (v u:Value) (Q:VK),Inv X π σ H s->RelV x v->RelV y u->r x y H Q ->
  subscripted a false v u=operate [v,u] (getItem v u)->wpAny (model X.prog X.w) X.A (subscriptTail b a v u) (EP X π σ Q) X.xe s
def MtR(X:Cx)(id:String)(r:V->List V->Hp->VK->Prop):Prop:=
 ∀(π:List (Addr×Obj)) (s:Shared) (σ:St) (H:Hp) (x:V) (xs:List V) (v:Value) (us:List Value) (Q:VK),Inv X π σ H s->RelV x v->Vals xs us->r x xs H Q ->
  wpAny (model X.prog X.w) X.A (call (.builtin id) (v::us)) (EP X π σ Q) X.xe s
section
variable {X:Cx}{a b:Expr}{ta tb:TE}{pos:Pos}
theorem zB(f:IxR X r)(c:PE X a ta)(g:PE X b tb)(hs:di b):PE X (.Subscript a b pos) (tOp r ta tb):=by
 intro π s σ H Q I h;exact Subscript_ (Da c g I h λv u j x y k d i e q=>f a b π j σ k x y v u Q d i e q (hs _ _))
def Ib(K:PySem.W.Frag):R2:=λx y H Q=>∃p xs i v,x=.ref p/\y=.int i/\SqL K H p xs/\atI xs i=some v/\Q v H
def CN(K:PySem.W.Frag):R2:=λx y H Q=>∃p xs i v,x=.ref p/\y=.int i/\SqT K H p xs/\atI xs i=some v/\Q v H
theorem xu:IxR X (Ib X.K):=by
 intro f e π s σ H x y v u Q I D n h hs;obtain⟨p,xs,i,z,rfl,rfl,E,A,q⟩:=h;ext D;obtain⟨t,rfl⟩:=n;obtain⟨d,r,pl,hz⟩:=I.list E;obtain⟨j,b,C,G,m,B⟩:=kh A;obtain⟨w,k,c⟩:=r.get C;have o:=r.length;have F:=T0;have a:EP X π σ Q w s:=⟨z,H,I,c,q⟩;by_cases l:0<=i
 ·have g:i.toNat=j:=by
   rw[seqIndex_of l B]at b;exact JZ b
  exact item_listR pl.isList l ∅ (by rw[g];simpa using k) a hs
 ·have g:(i+(d.toArray.size:Int)).toNat=j:=by
   rw[seqIndex_neg ∅ m]at b;rw[Jv,<- o];exact JZ b
  exact subscriptTail_builtinR pl.isList.typeIs slot_list_getitem.lookup
   (wpAny_getItem_list_neg pl.isList ∅ (by rw[Jv] <;> omega) ∅ (by rw[g];simpa using k) ⟨rfl,a⟩) hs
theorem CU:IxR X (CN X.K):=by
 intro b d π s σ H x y v u Q I A l h hs;obtain⟨p,xs,i,z,rfl,rfl,g,e,q⟩:=h;ext A;obtain⟨t,rfl⟩:=l;obtain⟨k,r,pl,hz⟩:=I.tuple g;obtain⟨j,f,o,D,C,E⟩:=kh e;obtain⟨w,n,c⟩:=r.get o;have m:=r.length;have B:=T0;have a:EP X π σ Q w s:=⟨z,H,I,c,q⟩;exact subscriptTail_builtinR pl.typeIs slot_tuple_getitem.lookup
  (getItem_tuple pl ∅ ∅ (by rw[Jv,<- m];exact f) (by simpa using n) ⟨rfl,a⟩) hs
theorem iC(a:List Value)(n j:Nat)(u:Value):Obj.mapSeq (·.setIfInBounds j u) { cls:=.type "list",data:=.seq a.toArray n }={ cls:=.type "list",data:=.seq (a.set j u).toArray n }:=by
 simp[Obj.mapSeq]
theorem Inv.lst{σ:St}{H:Hp}{s:Shared}{p:Addr}{xs:List V}(I:Inv X π σ H s)(h:H p=some (.lst xs)) :
  ∃(a:List Value) (n:Nat),Vals xs a/\s.heap.get? p=some { cls:=.type "list",data:=.seq a.toArray n }/\xs.length<=sizeLine:=by
 obtain⟨z,a,n,r,e⟩:=I.hok p _ h;grind
theorem Inv.lstUpd{σ:St}{H:Hp}{s:Shared}{p:Addr}{xs ys:List V}{a its':List Value}{n c:Nat}{f:Obj->Obj}(I:Inv X π σ H s)(h:H p=some (.lst xs))
  (g:s.heap.get? p=some { cls:=.type "list",data:=.seq a.toArray n }) (d:f { cls:=.type "list",data:=.seq a.toArray n }={ cls:=.type "list",data:=.seq its'.toArray c }) (r:Vals ys its') (hz:ys.length<=sizeLine) (t:Nat) :
  Inv X π σ (upd H p (.lst ys)) { s with heap:=s.heap.update p f,toks:=t }:=by
 have e:(s.heap.update p f).get? p=some { cls:=.type "list",data:=.seq its'.toArray c }:=by
  rw[Kj f g (by rw[d] <;> rfl),d]
 refine I.write (by rw[h];trivial) (.inl rfl) (λb u i q=>(LI _ _ (Ne.symm i)).trans q) ⟨_,e⟩ ?_;exact⟨hz,its',c,r,e⟩
def rSetL:V->V->V->Hp->(Hp->Prop)->Prop:=λo i v H Q=>∃p xs k j,o=.ref p/\i=.int k/\H p=some (.lst xs)/\ixN xs.length k=some j/\Q (upd H p (.lst (xs.set j v)))
theorem rG:AS X rSetL:=by
 intro π s σ H o i v D B u Q I z x A h;obtain⟨p,xs,k,j,rfl,rfl,f,y,q⟩:=h;ext z;obtain⟨t,rfl⟩:=x;obtain⟨a,n,r,d,hz⟩:=I.lst f;obtain⟨b,E,w,l⟩:=jm y;have e:=r.length;have C:=T0;have g:Inv X π σ (upd H p (.lst (xs.set j v))) { s with heap:=s.heap.update p (Obj.mapSeq (·.setIfInBounds j u)) }:=
  I.lstUpd f d (iC a n j u) (r.set A j) (by rw[List.length_set];exact hz) s.toks
 by_cases m:0<=k
 ·have c:k.toNat=j:=by
   rw[seqIndex_of m l]at b;exact JZ b
  exact PySem.W.ki_setAt d m ∅ (by rw[Jv,<- e];exact l) (by rw[c];exact⟨_,g,q⟩)
 ·have c:(k+(a.toArray.size:Int)).toNat=j:=by
   rw[seqIndex_neg ∅ w]at b;rw[Jv,<- e];exact JZ b
  exact PySem.W.ki_setBack d ∅ (by rw[Jv,<- e];exact w) ∅ (by rw[c];exact⟨_,g,q⟩)
theorem cq(lo a:Option Int)(n:Nat):(sliceBounds lo a none n).1=((HT.sIx n 0 lo:Nat):Int)/\(sliceBounds lo a none n).2.1=((HT.sIx n n a:Nat):Int)/\(sliceBounds lo a none n).2.2=1:=by
 refine⟨?_,?_,rfl⟩
 ·cases lo with
  | none=>simp[sliceBounds,HT.sIx]
  | some i=>
   simp only[sliceBounds,HT.sIx,Option.getD_none,show(1:Int) > 0 by decide,if_true];by_cases h:i<0
   ·grind
   ·grind
 ·cases a with
  | none=>simp[sliceBounds,HT.sIx]
  | some i=>
   simp only[sliceBounds,HT.sIx,Option.getD_none,show(1:Int) > 0 by decide,if_true];by_cases h:i<0
   ·grind
   ·grind
theorem bW(a:List Value)(lo b:Option Int):slicePick a.toArray lo b none=((a.drop (HT.sIx a.length 0 lo)).take (HT.sIx a.length a.length b-HT.sIx a.length 0 lo)).toArray:=by
 obtain⟨c,d,e⟩:=cq lo b a.toArray.size;unfold slicePick;rw[c,d,e];simp only[sliceRange_one,pick_run,Jv] <;> rfl
def IK(K:PySem.W.Frag):V->Option Int->Option Int->Hp->VK->Prop:=λx lo b H Q=>∃a xs,x=.ref a/\SqL K H a xs/\∀p,H p=none->Q (.ref p) (upd H p (.lst (nc xs lo b)))
theorem wv:SlR X (IK X.K):=by
 intro π s σ H x v k l lo d m Q I j hs pl g h;obtain⟨a,xs,rfl,f,q⟩:=h;ext j;obtain⟨i,r,e,hz⟩:=I.list f;have c:=r.length;refine⟨"list",_,slot_list_getitem.lookup,e.isList.typeIs,?_⟩;refine Nl e.isList hs pl g .none (by simp) ?_ (by rw[Jv] <;> omega);rw[bW,<- c];refine⟨.ref s.heap.objs.size,_,I.laid (λb ob q=>Jq _ q) (Ju _) ?_,rfl,q _ (I.hok.fresh (Ju _))⟩;exact⟨JW (V7 xs lo d) hz,_,0,(r.drop (HT.sIx xs.length 0 lo)).take (HT.sIx xs.length xs.length d-HT.sIx xs.length 0 lo),JG _ rfl⟩
theorem de:k5 X (.builtin "len") (λxs H Q=>∃p ys,xs=[.ref p]/\(SqL X.K H p ys\/SqT X.K H p ys)/\Q (.int ys.length) H):=by
 intro π s σ H xs us Q I r h;obtain⟨p,ys,rfl,b,q⟩:=h;obtain⟨u,rfl,e⟩:=X0 r;ext e;have f:=T0;rcases b with b | b
 ·obtain⟨d,c,pl,hz⟩:=I.list b;have a:=c.length;exact Calls.call_len_list pl.isList (by simp <;> omega) ⟨.int ys.length,H,I.tok _,⟨s.toks+1,by rw[Jv,a]⟩,q⟩
 ·obtain⟨d,c,pl,hz⟩:=I.tuple b;have a:=c.length;exact len_tuple pl (by simp <;> omega) ⟨.int ys.length,H,I.tok _,⟨s.toks+1,by rw[Jv,a]⟩,q⟩
theorem eC:k5 X (.builtin "len") (λxs H Q=>∃z,xs=[.str z]/\z.length<=sizeLine/\Q (.int z.length) H):=by
 intro π s σ H xs us Q I r h;obtain⟨z,rfl,hz,q⟩:=h;obtain⟨u,rfl,t,rfl⟩:=X0 r;have hn:=T0;exact len_str ∅ ⟨.int z.length,H,I.tok _,⟨_,rfl⟩,q⟩
theorem N4:k5 X (.type "tuple") (λxs H Q=>∃p ys,xs=[.ref p]/\((SqL X.K H p ys/\∀l,H l=none->Q (.ref l) (upd H l (.tup ys)))\/(SqT X.K H p ys/\Q (.ref p) H))):=by
 intro π s σ H xs us Q I r h;obtain⟨p,ys,rfl,h⟩:=h;obtain⟨u,rfl,k⟩:=X0 r;ext k;rcases h with ⟨c,q⟩ | ⟨c,q⟩
 ·obtain⟨a,d,pl,hz⟩:=I.list c;have f:=d.length;refine call_tuple_list pl.isList (λh' i=>?_) (by simp <;> omega);have g:=I.kept (t':=s.toks) i;have j:Inv X π σ (upd H h'.objs.size (.tup ys)) { s with heap:=h'.push { cls:=.type "tuple",data:=.seq a.toArray } }:=
   g.laid (λb o e=>Jq _ e) (Ju _) (⟨hz,a,d,TupN.new _ _⟩)
  exact⟨.ref h'.objs.size,_,j,rfl,q _ (g.hok.fresh (Ju _))⟩
 ·obtain⟨a,d,pl,hz⟩:=I.tuple c;exact call_tuple_same pl ⟨.ref p,H,I,rfl,q⟩
def tyV(K:PySem.W.Frag)(T:String)(x:V)(H:Hp):Prop:=match x with
 | .str _=>T = "str"
 | .int _=>T = "int"
 | .ref p=>(T = "list"/\∃xs,SqL K H p xs)\/(T = "tuple"/\∃o,K.lookup p=some o/\o.cls=.type "tuple"/\o.dict=none) \/
   (T = "dict"/\((∃a,H p=some (.dK a))\/∃a,H p=some (.dT a)))\/(T = "set"/\∃S n,H p=some (.set S n))\/(T = "tuple"/\∃xs,Rd H p (.tup xs))
 | _=>False
theorem tm{σ:St}{H:Hp}{s:Shared}{T:String}{x:V}{v:Value}(I:Inv X π σ H s)(r:RelV x v)(ty:tyV X.K T x H) :
  s.TypeIs v T/\∀a,v=.ref a->∃ob,s.heap.get? a=some ob/\ob.dict=none:=by
 cases x with
 | str z=>
  obtain⟨t,rfl⟩:=r;cases (ty);exact⟨typeIs_str s z t,λ_ e=>nomatch e⟩
 | int i=>
  obtain⟨t,rfl⟩:=r;cases (ty);exact⟨MH s i t,λ_ e=>nomatch e⟩
 | ref p=>
  ext r;rcases ty with ⟨rfl,xs,hq⟩ | ⟨rfl,o,hk,hc,hd⟩ | ⟨rfl,hk⟩ | ⟨rfl,S,n,hk⟩ | ⟨rfl,xs,hk⟩
  ·obtain⟨its,_,pl,_⟩:=I.list hq;refine⟨pl.isList.typeIs,λa e=>?_⟩;ext e;obtain⟨o,n,e,c,hd,_⟩:=pl;exact⟨o,e,hd⟩
  ·refine⟨⟨o,I.kIn p o hk,hc⟩,λa e=>?_⟩;ext e;exact⟨o,I.kIn _ o hk,hd⟩
  ·have z:∃o,s.heap.get? p=some o/\o.ExactDict:=by
    rcases hk with ⟨kvs,hk⟩ | ⟨kvs,hk⟩
    ·obtain⟨_,_,_,_,o,_,_,e,ex,_⟩:=I.hok p _ hk;exact⟨o,e,ex⟩
    ·obtain⟨_,_,_,_,o,_,_,e,ex,_⟩:=I.hok p _ hk;exact⟨o,e,ex⟩
   obtain⟨o,e,ex⟩:=z;refine⟨⟨o,e,ex.1⟩,λa e2=>?_⟩;ext e2;exact⟨o,e,ex.2.1⟩
  ·obtain⟨o,_,_,_,e,ex,_⟩:=I.hok p _ hk;refine⟨⟨o,e,ex.1⟩,λa e2=>?_⟩;ext e2;exact⟨o,e,ex.2.1⟩
  ·obtain⟨_,its,_,o,e,c,n,_,hd⟩:=(hk.ok I.hok);exact⟨⟨o,e,c⟩,λa e2=>by ext e2;exact⟨o,e,hd⟩⟩
 | _=>exact False.elim ty
def IC(K:PySem.W.Frag)(T:String)(r:V->List V->Hp->VK->Prop)(b:TE):TE:=λσ H Q=>b σ H λx a=>tyV K T x a/\r x [] a Q
def tBM(K:PySem.W.Frag)(T:String)(r:V->List V->Hp->VK->Prop)(c:TE)(t:TA):TE:=λσ H Q=>c σ H λx a=>tyV K T x a/\t σ a λxs b=>r x xs b Q
variable {o e:Expr}{es:List Expr}{to:TE}{t:TA}{name:Str}{apos cpos:Pos}{T id:String}{r:V->List V->Hp->VK->Prop}
theorem De(j:PlainAttrs T)(c:Slot T name id)(d:typeOf (.builtin id)=pure (.type "method_descriptor")) (n:MtR X id r) (i:PE X o to)
  (b:attributeBase o name X.env (eval o X.env)=eval o X.env:=by rfl) (a:(apos.endLine==cpos.line)=true:=by rfl):PE X (.Call (.Attribute o name apos) [] [] cpos) (IC X.K T r to):=by
 intro π s σ H Q I h;refine wpAny_Call_method0_late b a (thn (i π s σ H _ I h) λv p ⟨x,l,e,f,g,q⟩=>?_);obtain⟨k,m⟩:=tm e f g;exact⟨T,id,j,c,d,k,m,Mu rfl (PySem.evalArgs_none (n π p σ l x [] v [] Q e f .nil q))⟩
theorem zc(l:PlainAttrs T)(d:Slot T name id)(g:typeOf (.builtin id)=pure (.type "method_descriptor")) (z:MtR X id r) (C:PE X o to) (B:PA X (e::es) t)
  (c:attributeBase o name X.env (eval o X.env)=eval o X.env:=by rfl)
  (f:((backTo cpos (starEach (e::es) X.env)).all (λx=>!x.1)&&(backToKw cpos (keywordEach [] X.env)).all (λx=>x.1.isSome)
   && decide ((e::es).length+([]:List Keyword).length+(if ([]:List Keyword).isEmpty then 0 else 1)<30))=true:=by rfl)
  (b:(apos.endLine==cpos.line)=true:=by rfl) (hs:starEach (e::es) X.env=(false,eval e X.env)::starEach es X.env:=by rfl) (a:(backTo cpos (starEach es X.env)).any (·.1)=false:=by rfl) :
  PE X (.Call (.Attribute o name apos) (e::es) [] cpos) (tBM X.K T r to t):=by
 intro π s σ H Q I h;refine wpAny_Call_method_late c f b rfl (thn (C π s σ H _ I h) λv p ⟨x,w,j,k,q,A⟩=>?_);obtain⟨m,y⟩:=tm j k q;refine⟨T,id,l,d,g,m,y,?_⟩;have i:=B cpos π p σ w _ j A;rw[hs]at i ⊢;refine Mu (by show(false||(backTo cpos (starEach es X.env)).any (·.1))=false;rw[a] <;> rfl) (Calls.evalArgs_plain ?_);exact thn i λus E ⟨vs,F,D,u,n⟩=>z π E σ F x vs v us Q D k u n
end
def MtM(X:Cx)(id:String)(r:V->List V->Hp->VK->Prop):Prop:=
 ∀(π:List (Addr×Obj)) (s:Shared) (σ:St) (H:Hp) (x:V) (xs:List V) (v:Value) (us:List Value) (Q:VK),Inv X π σ H s->RelV x v->Vals xs us->r x xs H Q ->
  wpAny (model X.prog X.w) X.A (call (.builtin id) (v::us)) (EP X π σ Q) X.xe s
theorem Vals.one:∀{x:V}{us:List Value},Vals [x] us->∃u,us=[u]/\RelV x u
 | _,_,.cons r .nil=>⟨_,rfl,r⟩
theorem Vals.zero:∀{us:List Value},Vals [] us->us=[]
 | _,.nil=>rfl
theorem Vals.dropLast(h:Vals xs us):Vals xs.dropLast us.dropLast:=by
 induction h with
 | nil=>exact .nil
 | cons r t a=>
  cases t with
  | nil=>exact .nil
  | cons q t'=>exact .cons r a
theorem Vals.rep(h:Vals xs us):∀k:Nat,Vals (List.replicate k xs).flatten (List.replicate k us).flatten
 | 0=>.nil
 | k+1=>by
  rw[KY,KY,LM,LM];exact Vals.append h (Vals.rep h k)
theorem iE{a:Type}(l:List a):l.eraseIdx (l.length-1)=l.dropLast:=by grind
theorem U3(b:List Value):∀(k:Nat)(a:List Value),
  List.foldl (λf c=>f++c) a.toArray (List.replicate k b.toArray)=(a++(List.replicate k b).flatten).toArray
 | 0,a=>by simp
 | k+1,a=>by
  have e:a.toArray++b.toArray=(a++b).toArray:=by simp
  have d:(a++b)++(List.replicate k b).flatten=a++(List.replicate (k+1) b).flatten:=by
   rw[KY,LM,LN]
  rw[<- d,<- U3 b k (a++b),<- e,KY,List.foldl_cons]
section
variable {X:Cx}{π:List (Addr×Obj)}{σ:St}{H:Hp}{s:Shared}{l b:Addr}{xs ys zs:List V}
theorem Inv.lset{a its':List Value}{n:Nat}{f:Array Value->Array Value}{t':Nat}(I:Inv X π σ H s)(c:H l=some (.lst xs))
  (e:s.heap.get? l=some { cls:=.type "list",data:=.seq a.toArray n }) (b:f a.toArray=its'.toArray) (g:Vals ys its') (hz:ys.length<=sizeLine) :
  Inv X π σ (upd H l (.lst ys)) { s with heap:=s.heap.update l (Obj.mapSeq f),toks:=t' }:=by
 have q:=PySem.IsL.update e f;rw[b]at q;refine I.write (by rw[c];exact trivial) (.inl rfl) (λi u d h=>(LI s.heap (Obj.mapSeq f) (Ne.symm d)).trans h) ⟨_,q⟩ ?_;exact⟨hz,its',_,g,q⟩
theorem Inv.lnew(I:Inv X π σ H s)(a:Vals ys its)(hz:ys.length<=sizeLine) :
  Inv X π σ (upd H s.heap.objs.size (.lst ys)) { s with heap:=s.heap.push { cls:=.type "list",data:=.seq its.toArray },toks:=t' }:=
 I.laid (λ_ _ q=>Jq _ q) (Ju _) ⟨hz,its,0,a,JG _ rfl⟩
theorem Inv.fresh(I:Inv X π σ H s):H s.heap.objs.size=none:=I.hok.fresh (Ju _)
theorem Inv.lstM(I:Inv X π σ H s)(b:H l=some (.lst xs)):xs.length<=sizeLine/\∃(a:List Value) (n:Nat),Vals xs a/\xs.length=a.length/\s.heap.get? l=some { cls:=.type "list",data:=.seq a.toArray n }:=by
 obtain⟨z,a,n,r,e⟩:=I.hok l _ b;exact⟨z,a,n,r,r.length,e⟩
theorem eP(h:n<=sizeLine):Builtin.List.listTooLong n=false:=by
 unfold Builtin.List.listTooLong;grind
end
section
variable {X:Cx}
def rAppend:V->List V->Hp->VK->Prop:=λx vs H Q=>∃l xs y,x=.ref l/\vs=[y]/\H l=some (.lst xs)/\xs.length<sizeLine/\Q .non (upd H l (.lst (xs++[y])))
theorem U8:MtM X "list.append" rAppend:=by
 intro π s σ H x vs v us Q I d f h;obtain⟨l,xs,y,rfl,rfl,b,hz,q⟩:=h;ext d;obtain⟨u,rfl,c⟩:=f.one;obtain⟨z,a,n,r,g,e⟩:=I.lstM b;refine LQ F.slot_list_append ⟨_,e,rfl⟩ F.entry_list_append (F.args_list_append_2 _ _) (PySem.list_append l a.toArray n u (by rw[Jv];omega)) ⟨e,?_⟩;refine⟨.non,_,I.lset b e (by simp) (r.append (.cons c .nil)) ?_,rfl,q⟩;grind
def rPop:V->List V->Hp->VK->Prop:=λx vs H Q=>∃l xs y,x=.ref l/\vs=[]/\H l=some (.lst xs)/\xs[xs.length-1]?=some y/\Q y (upd H l (.lst xs.dropLast))
theorem BA:MtM X "list.pop" rPop:=by
 intro π s σ H x vs v us Q I rx rv h;obtain⟨l,xs,y,rfl,rfl,hH,hy,q⟩:=h;ext rx;have hus:=rv.zero;subst hus;obtain⟨z,its,n,r,hl,e⟩:=I.lstM hH;obtain⟨u,hu,ru⟩:=r.get hy;have hy':its.toArray[its.toArray.size-1]?=some u:=by
  show its.toArray[its.length-1]?=some u;rw[<- ME,<- hl];exact hu
 refine LQ F.slot_list_pop ⟨_,e,rfl⟩ F.entry_list_pop (F.args_list_pop_1 _) (MeetsSeq.list_pop_last l its.toArray n u hy' (by rw[Jv];omega)) ⟨e,?_⟩;refine⟨y,_,I.lset (its':=its.dropLast) hH e ?_ r.dropLast ?_,ru,q⟩
 ·show its.toArray.eraseIdxIfInBounds (its.toArray.size-1)=its.dropLast.toArray;rw[Jv,List.eraseIdxIfInBounds_toArray,iE]
 ·rw[List.length_dropLast];omega
def rCat:R2:=λx y H Q=>∃l b xs a,x=.ref l/\y=.ref b/\H l=some (.lst xs)/\H b=some (.lst a)/\xs.length+a.length<=sizeLine/\∀p,H p=none->Q (.ref p) (upd H p (.lst (xs++a)))
theorem Cw:OpR X (binaryOp .Add) rCat:=by
 intro π s σ H x y v u Q I m k h;obtain⟨l,b,xs,A,rfl,rfl,o,g,hz,q⟩:=h;ext m;ext k;obtain⟨z,c,n,r,t,e⟩:=I.lstM o;obtain⟨p,a,w,f,j,i⟩:=I.lstM g;refine PySem.P.add_list e i ?_ (by rw[Jv,Jv];omega);have d:c.toArray++a.toArray=(c++a).toArray:=by simp
 rw[d];exact⟨.ref _,_,I.lnew (r.append f) (by rw[JP];omega),rfl,q _ I.fresh⟩
def rRep:R2:=λx y H Q=>∃l k xs,x=.ref l/\y=.int k/\H l=some (.lst xs)/\-(2 ^ 63)<=k/\k<2 ^ 63/\xs.length * k.toNat<=sizeLine /\
 ∀p,H p=none->Q (.ref p) (upd H p (.lst (List.replicate k.toNat xs).flatten))
theorem jZ{a:Type}(xs:List a)(k:Nat):(List.replicate k xs).flatten.length=k * xs.length:=by simp_all
theorem CZ:OpR X (binaryOp .Mult) rRep:=by
 intro π s σ H x y v u Q I rx ry h;obtain⟨l,k,xs,rfl,rfl,hH,h1,h2,hz,q⟩:=h;ext rx;obtain⟨t,rfl⟩:=ry;obtain⟨z,its,n,r,hl,e⟩:=I.lstM hH;have hlen:its.toArray.size * k.toNat<=sizeLine:=by rw[Jv,<- hl];exact hz
 have hcap:¬ its.toArray.size * k.toNat > (2 ^ 63-1) / 8:=by
  have:(sizeLine:Nat)<=(2 ^ 63-1) / 8:=by decide
  omega
 have hfit:¬ (!Builtin.List.listFitsIndex k)=true:=by
  rw[fitsIndex_both h1 h2];exact Jt
 have hlong:¬ Builtin.List.listTooLong (its.toArray.size * k.toNat)=true:=by
  rw[eP hlen];exact Jt
 have hnew:List.foldl (λx1 x2=>x1++x2) #[] (List.replicate (if its.toArray.isEmpty=true then 0 else k.toNat) its.toArray)=(List.replicate k.toNat its).flatten.toArray:=by
  have f0:=λm=>by
   have:=U3 its m [];rw[NE]at this;exact this
  rw[f0];cases its with
  | nil=>simp
  | cons a r'=>rw[if_neg (by simp)]
 refine LY ⋯ ⟨_,e,rfl⟩ (λs'=>MH s' k t) noFill_list_mul F.fills_int_mul F.slot_int_rmul repeat_list F.slot_int_index.lookup
  (LQ F.slot_int_rmul (MH s k t) F.entry_int_rmul (F.args_int_rmul_2 _ _) (int___rmul___int_list k t l its.toArray n)
   ⟨e,rfl,⟨_,e,rfl⟩,LQ F.slot_list_mul ⟨_,e,rfl⟩ F.entry_list_mul (F.args_list_mul_2 _ _) (AutoListH.list___mul___list_int_3 l its.toArray n k t hfit hcap hlong) ⟨e,?_⟩⟩)
 rw[hnew];exact⟨.ref _,_,I.lnew (r.rep k.toNat) (by rw[jZ,Nat.mul_comm];exact hz),rfl,q _ I.fresh⟩
end
section
variable {κ:Type}[DecidableEq κ]
def X1(a:List (κ×V))(k:κ):Option V:=(a.find? λb=>decide (b.1=k)).map (·.2)
def v9(a:List (κ×V))(k:κ)(v:V):List (κ×V):=
 if (a.any λb=>decide (b.1=k))=true then a.map (λb=>if b.1=k then (b.1,v)else b)else a++[(k,v)]
theorem Q9{k:κ}(e:p.1=k):X1 (p::r) k=some p.2:=by simp[X1,Kx,e]
theorem P8{k:κ}(e:¬ p.1=k):X1 (p::r) k=X1 r k:=by simp[X1,Kx,e]
theorem eJ(k:κ):∀a:List (κ×V),(a.any λb=>decide (b.1=k))=(X1 a k).isSome
 | []=>rfl
 | p::r=>by
  rw[Lv];by_cases e:p.1=k
  ·simp only[Q9 e,JQ e,Bool.true_or,Option.isSome_some]
  ·rw[P8 e,JR e,Bool.false_or];exact eJ k r
theorem L4(a:List (κ×V))(k:κ)(v:V):(v9 a k v).length<=a.length+1:=by
 unfold v9;grind
theorem RelO.isSome_eq(r:RelO o u):o.isSome=u.isSome:=by
 cases o with
 | none=>cases u with
  | none=>rfl
  | some _=>exact(r).elim
 | some _=>cases u with
  | none=>exact(r).elim
  | some _=>rfl
theorem KV.val(r:KV kvs vs)(k:κ):RelO (X1 kvs k) (valueAt vs k):=by
 induction r with
 | nil=>exact True.intro
 | @cons p q ps a h t g=>
  obtain⟨d,f⟩:=h;by_cases e:p.1=k
  ·have c:=d.symm.trans e;have b:valueAt (q::a) k=some q.2:=by simp[valueAt,Kx,c]
   rw[Q9 e,b];exact f
  ·have c:¬ q.1=k:=λz=>e (d.trans z);have b:valueAt (q::a) k=valueAt a k:=by simp[valueAt,Kx,c]
   rw[P8 e,b];exact g
theorem KV.any{kvs:List (κ×V)}{vs:List (κ×Value)}(r:KV kvs vs)(k:κ):(kvs.any λkv=>decide (kv.1=k))=vs.any λkv=>decide (kv.1=k):=by
 unfold KV at r;induction r with
 | nil=>rfl
 | cons h t ih=>rw[Lv,Lv,ih,h.1]
theorem KV.repl(r:KV kvs vs)(k:κ){y:V}{u:Value}(d:RelV y u) :
  KV (kvs.map λa=>if a.1=k then (a.1,y)else a) (vs.map λa=>if a.1=k then (a.1,u)else a):=by
 induction r with
 | nil=>exact .nil
 | @cons p q ps g h t b=>
  rw[JI,JI];refine .cons ?_ b;obtain⟨c,f⟩:=h;by_cases e:p.1=k
  ·grind
  ·grind
theorem KV.put(r:KV kvs vs)(k:κ){y:V}{u:Value}(a:RelV y u):KV (v9 kvs k y) (stored vs k u):=by
 unfold v9 stored;rw[r.any k];by_cases e:(vs.any λb=>decide (b.1=k))=true
 ·rw[if_pos e,if_pos e];exact r.repl k a
 ·rw[if_neg e,if_neg e];exact Paired.snoc r ⟨rfl,a⟩
theorem KV.length{vs:List (κ×Value)}(r:KV kvs vs):kvs.length=vs.length:=Paired.length r
end
theorem kU{k:Key}{u:Value}(r:RelV (kV k) u):(j7 P w).is k u=true:=by
 cases k with
 | inl i=>obtain⟨t,e⟩:=(r);subst e;exact gX P w i t
 | inr x=>obtain⟨t,e⟩:=(r);subst e;exact ej P w x t
theorem bt:∀{a:List Key}{us:List Value},Vals (a.map kV) us->ItemsAre (j7 P w) a us
 | [],_,r=>by rw[List.map_nil]at r;ext r;exact .nil
 | k::a,_,r=>by
  rw[JI]at r;cases r with
  | cons h t=>exact .cons (kU h) (bt t)
abbrev KT(H:Hp):List (List Key×V)->List (List Key×Addr×Value)->Prop:=Paired λp q=>p.1=q.1/\H q.2.1=some (.tup (p.1.map kV))/\RelV p.2 q.2.2
theorem KT.val(r:KT H kvs xs)(k:List Key):RelO (X1 kvs k) ((atKey xs k).map (·.2)):=by
 induction r with
 | nil=>exact True.intro
 | @cons p q ps a h t g=>
  obtain⟨d,_,f⟩:=h;by_cases e:p.1=k
  ·have c:=d.symm.trans e;have b:atKey (q::a) k=some q.2:=by simp[atKey,Kx,c]
   rw[Q9 e,b];exact f
  ·have c:¬ q.1=k:=λz=>e (d.trans z);have b:atKey (q::a) k=atKey a k:=by simp[atKey,Kx,c]
   rw[P8 e,b];exact g
theorem KT.repl{H:Hp}{kvs:List (List Key×V)}{xs:List (List Key×Addr×Value)}(r:KT H kvs xs)(k:List Key){y:V}{u:Value}(ry:RelV y u) :
  KT H (kvs.map λkv=>if kv.1=k then (kv.1,y)else kv) (xs.map (putAt k u)):=by
 induction r with
 | nil=>exact .nil
 | @cons p q ps qs h t ih=>
  rw[JI,JI];refine .cons ?_ ih;obtain⟨h1,h2,h3⟩:=h;unfold putAt;by_cases e:p.1=k
  ·rw[if_pos e,if_pos (h1.symm.trans e)];exact⟨h1,h2,ry⟩
  ·rw[if_neg e,if_neg (λz=>e (h1.trans z))];exact⟨h1,h2,h3⟩
theorem KT.put(r:KT H kvs xs)(k:List Key){b:Addr}{y:V}{u:Value}(c:H b=some (.tup (k.map kV)))(a:RelV y u) :
  KT H (v9 kvs k y) (storedH xs k b u):=by
 have e:(kvs.any λd=>decide (d.1=k))=(atKey xs k).isSome:=by
  rw[eJ,(r.val k).isSome_eq,Option.isSome_map]
 unfold v9 storedH;rw[e];by_cases q:(atKey xs k).isSome=true
 ·rw[if_pos q,if_pos q];exact r.repl k a
 ·rw[if_neg q,if_neg q];exact Paired.snoc r ⟨rfl,c,a⟩
theorem KT.keeps{a:List (List Key×V)}{xs:List (List Key×Addr×Value)}(r:KT H a xs)(c:∀b ys,H b=some (.tup ys)->H' b=some (.tup ys)):KT H' a xs:=
 Paired.mapP r λ_ _ z=>⟨z.1,c _ _ z.2.1,z.2.2⟩
section
variable {P:Program}{w:World}{H:Hp}{h:Heap}{a:Addr}
theorem zt(b:HOk P w H h)(e:Rd H a u):ObjOk P w H h a u:=e.ok b
theorem jx(b:HOk P w H h)(e:Rd H a (.dK kvs)):kvs.length<=sizeLine/\(a==sysModules)=false/\∃vs,KV kvs vs/\h.DictOf (j7 P w) a vs:=
 zt b e
theorem zT(b:HOk P w H h)(e:H a=some (.dK kvs)):kvs.length<=sizeLine/\(a==sysModules)=false/\∃vs,KV kvs vs/\h.DictOf (j7 P w) a vs:=jx b (.inl e)
theorem gw(g:HOk P w H h)(e:H a=some (.tup (ks.map kV))):(tupleKind (j7 P w)).is h ks a:=by
 obtain⟨_,b,r,o,c,d,n,f⟩:=(g a _ e);exact⟨o,b.toArray,n,c,d,f.1,by simpa using bt r⟩
theorem uN(d:HOk P w H h)(e:Rd H a (.dT kvs)):kvs.length<=sizeLine/\(a==sysModules)=false /\
  ∃xs,KT H kvs xs/\h.DictOfH (tupleKind (j7 P w)) a xs:=by
 obtain⟨z,y,xs,r,o,es,s,g,j,n,i,u⟩:=(zt d e);refine⟨z,y,xs,r,o,es,s,g,j,n,i,λx b=>?_,u⟩;have f:∀{l:List (List Key×V)} {m:List (List Key×Addr×Value)},KT H l m->∀x∈m,(tupleKind (j7 P w)).is h x.1 x.2.1:=by
  intro l m q;induction q with
  | nil=>intro x b;exact nomatch b
  | @cons p q ps v c t k=>
   intro x b;rcases JH.mp b with e | b
   ·subst e;exact gw d (by rw[<- c.1];exact c.2.1)
   ·exact k x b
 grind
theorem HC(b:HOk P w H h)(e:H a=some (.dT kvs)):kvs.length<=sizeLine/\(a==sysModules)=false /\
  ∃xs,KT H kvs xs/\h.DictOfH (tupleKind (j7 P w)) a xs:=uN b (.inl e)
end
def DGet(H:Hp)(a:Addr)(y:V)(r:Option V):Prop:=
 (∃c k,Rd H a (.dK c)/\y=kV k/\r=X1 c k)\/∃c k b,Rd H a (.dT c)/\y=.ref b/\H b=some (.tup (k.map kV))/\r=X1 c k
def DPut(H:Hp)(a:Addr)(y v:V)(H':Hp):Prop:=
 (∃c k,H a=some (.dK c)/\y=kV k/\c.length<sizeLine/\H'=upd H a (.dK (v9 c k v))) \/
 ∃c k b,H a=some (.dT c)/\y=.ref b/\H b=some (.tup (k.map kV))/\c.length<sizeLine/\H'=upd H a (.dT (v9 c k v))
theorem DGet.k{k:Key}(e:H a=some (.dK kvs)):DGet H a (kV k) (X1 kvs k):=.inl ⟨kvs,k,.inl e,rfl,rfl⟩
theorem DPut.k{k:Key}{v:V}(e:H a=some (.dK kvs))(b:kvs.length<sizeLine):DPut H a (kV k) v (upd H a (.dK (v9 kvs k v))):=.inl ⟨kvs,k,e,rfl,b,rfl⟩
section
variable {X:Cx}{π:List (Addr×Obj)}{σ:St}{H:Hp}{s:Shared}{a:Addr}{y v:V}{u r:Value}{o:Option V}{A:Around}{E:Value->Shared->Prop}
theorem Inv.big(I:Inv X π σ H s):sysModules<s.heap.objs.size:=by
 have h:=(I.mod.glob.keeps I.bk).lt;exact Nat.lt_trans ⋯ h
theorem nQ(t:A.units+1<cLine)(I:Inv X π σ H s)(g:DGet H a y (some v))(o:RelV y u)(h:∀w' s',Inv X π σ H s'->RelV v w'->Q w' s') :
  wpAny (model X.prog X.w) A (getItem (.ref a) u) Q E s:=by
 rcases g with ⟨n,k,e,i,l⟩ | ⟨n,k,b,e,i,q,l⟩
 ·subst i;obtain⟨z,hd,vs,d,f⟩:=jx I.hok e;obtain⟨w',m,c⟩:=RelO.some_of (by rw[l];exact d.val k);exact wpAny_getItem_of (kU o) f.mapOf m (h w' _ (I.tok _) c)
 ·subst i;cases (o);obtain⟨z,hd,xs,d,f⟩:=uN I.hok e;obtain⟨w',m,c⟩:=RelO.some_of (by rw[l];exact d.val k);obtain⟨p,r,j⟩:=Ks.mp m;refine wpAny_getItem_heap (tupleKind_room_in1 t) (gw I.hok q) f r ?_;rw[j];exact h w' _ (I.tok _) c
theorem Y8{ob:HO}(I:Inv X π σ H s)(e:Mut (H a))(hs:Heap.SameBut a s.heap h')(d:∃q,h'.get? a=some q)(c:ObjOk X.prog X.w (upd H a ob) h' a ob) :
  Inv X π σ (upd H a ob) { s with heap:=h',toks:=t' }:=
 I.write e (.inl rfl) (λb q f z=>(hs.2 b f).trans z) d c
theorem tV{b:List (Key×V)}{vs:List (Key×Value)}(z:b.length<=sizeLine)(hd:(a==sysModules)=false)(c:KV b vs)(d:h'.DictOf (j7 P w) a vs) :
  ObjOk P w H' h' a (.dK b):=⟨z,hd,vs,c,d⟩
theorem mC(L:A.units+1<cLine)(I:Inv X π σ H s)(g:DPut H a y v H')(w:RelV y u)(B:RelV v r)(h:∀s',Inv X π σ H' s'->Q () s') :
  wpAny (model X.prog X.w) A (setItem (.ref a) u r) Q E s:=by
 rcases g with ⟨d,k,e,p,l,n⟩ | ⟨d,k,b,e,p,t,l,n⟩
 ·subst p n;obtain⟨z,hd,vs,f,o⟩:=zT I.hok e;have hz:vs.length<=sizeLine:=by rw[<- f.length];exact z
  have m:(v9 d k v).length<=sizeLine:=by have:=L4 d k v;omega
  refine wpAny_setItem_pairs (kU w) o λh' i hs=>h _ ?_;have D:∃q,h'.get? a=some q:=let ⟨q,_,_,j,_⟩:=i;⟨q,j⟩
  exact Y8 I (by rw[e];exact True.intro) hs D (tV m hd (f.put k B) i)
 ·subst p n;cases (w);obtain⟨z,hd,xs,f,o⟩:=HC I.hok e;have hz:xs.length<=sizeLine:=by rw[<- Paired.length f];exact z
  have m:(v9 d k v).length<=sizeLine:=by have:=L4 d k v;omega
  refine wpAny_setItem_heap (tupleKind_room_in1 L) (gw I.hok t) o λh' i hs=>h _ ?_;obtain⟨q,es,F,j,J,K,C,_,G⟩:=i;refine Y8 I (by rw[e];exact True.intro) hs ⟨q,j⟩ ⟨m,hd,_,(f.put k t B).keeps λc ys x=>?_,q,es,F,j,J,K,C,G⟩;rw[a8 (lL x e (λz=>nomatch z))];exact x
end
section
variable {X:Cx}{π:List (Addr×Obj)}{σ:St}{H:Hp}{s:Shared}{a:Addr}{kvs:List (Key×V)}{k:Key}{u:Value}{A:Around}{E:Value->Shared->Prop}
theorem HG(I:Inv X π σ H s)(e:Rd H a (.dK kvs))(h:∀t s',Inv X π σ H s'->Q (.int kvs.length t) s'):wpAny (model X.prog X.w) A (call (.builtin "len") [.ref a]) Q E s:=by
 obtain⟨z,hd,vs,b,c⟩:=jx I.hok e;refine call_len_dict hd c (by rw[<- b.length];rw[JS]at z;omega) ?_;rw[<- b.length];exact h _ _ (I.tok _)
end
theorem fG{σ:St}{H:Hp}{s:Shared}{a:Addr}{y:V}{o:Option V}(I:Inv X π σ H s)(g:DGet H a y o):s.TypeIs (.ref a) "dict":=by
 rcases g with ⟨d,k,e,_,_⟩ | ⟨d,k,b,e,_,_,_⟩
 ·obtain⟨_,_,vs,_,c⟩:=jx I.hok e;exact c.typeIs
 ·obtain⟨_,_,xs,_,c⟩:=uN I.hok e;exact c.typeIs
theorem tq(h:Heap)(a:sysModules<h.objs.size):ObjOk P w H (h.push { cls:=.type "dict",data:=.dict #[] }) h.objs.size (.dK []):=
 ⟨Kg _,Kz.mpr (Ne.symm (JF a)),[],.nil,Heap.DictOf.new h⟩
def dP:List (TE×TE)->St->Hp->(List (V×V)->Hp->Prop)->Prop
 | [],_,H,Q=>Q [] H
 | (d,a)::r,σ,H,Q=>d σ H λx c=>a σ c λy e=>dP r σ e λps b=>Q ((x,y)::ps) b
abbrev VV:List (V×V)->List (Value×Value)->Prop:=Paired λp q=>RelV p.1 q.1/\RelV p.2 q.2
def PPs(X:Cx)(pos:Pos)(b:List (Option Expr))(a:List Expr)(c:List (TE×TE)):Prop:=
 ∀(π:List (Addr×Obj)) (s:Shared) (σ:St) (H:Hp) (Q:List (V×V)->Hp->Prop),Inv X π σ H s->dP c σ H Q ->
  wpAny (model X.prog X.w) X.A (evalPairs (pairTrees b a X.env pos)) (λvs s'=>∃ps H',Inv X π σ H' s'/\VV ps vs/\Q ps H') X.xe s
theorem ww:PPs X pos [] [] []:=λπ s σ H Q I h=>pairTrees_nil_walk ⟨[],H,I,.nil,h⟩
theorem sK{k v:Expr}{d:List (Option Expr)}{vs:List Expr}{e c:TE}{a:List (TE×TE)}(f:PE X k e)(m:PE X v c)(j:PPs X pos d vs a) :
  PPs X pos (some k::d) (v::vs) ((e,c)::a):=λπ s σ H Q I h=>
 pairTrees_cons_walk (thn (f π s σ H _ I h) λu l ⟨x,p,n,r,t⟩=>thn (m π l σ p _ n t) λC A ⟨y,B,w,g,i⟩=>
  thn (j π A σ B _ w i) λws D ⟨ps,z,o,b,q⟩=>⟨(x,y)::ps,z,o,.cons ⟨r,g⟩ b,q⟩)
def O1(c a:List (Key×V)):List (Key×V):=a.foldl (λb d=>v9 b d.1 d.2) c
theorem KV.merge:∀{a:List (Key×V)} {rs:List (Key×Value)} {b:List (Key×V)} {vs:List (Key×Value)},KV a rs->KV b vs->KV (O1 b a) (merged vs rs):=by
 intro a rs b vs r;induction r generalizing b vs with
 | nil=>intro q;exact q
 | @cons p q ps f h t c=>
  intro d;have e:KV (v9 b p.1 p.2) (stored vs q.1 q.2):=by
   have:=d.put p.1 h.2;rw[<- h.1];exact this
  exact c e
theorem N3:∀(b a:List (Key×V)),(O1 a b).length<=a.length+b.length
 | [],a=>by show a.length<=a.length+0;omega
 | p::r,a=>by
  have d:=N3 r (v9 a p.1 p.2);have c:=L4 a p.1 p.2;show(O1 (v9 a p.1 p.2) r).length<=_;rw[KL];omega
theorem bD:∀{d:List (Key×V)} {ws:List (Value×Value)},VV (d.map λe=>(kV e.1,e.2)) ws->∃rs,Carries (j7 P w) ws rs/\KV d rs
 | [],_,r=>by rw[List.map_nil]at r;ext r;exact⟨[],True.intro,.nil⟩
 | p::d,_,r=>by
  rw[JI]at r;cases r with
  | @cons a b j i h t=>
   obtain⟨rs,c,q⟩:=bD t;obtain⟨g,f⟩:=b;exact⟨(p.1,f)::rs,⟨kU h.1,rfl,c⟩,.cons ⟨rfl,h.2⟩ q⟩
def HI(b:List (TE×TE)):TE:=λσ H Q=>∀p,H p=none->dP b σ (upd H p (.dK [])) λps c=>c p=some (.dK [])/\∃a:List (Key×V),ps=a.map (λd=>(kV d.1,d.2))/\a.length<=15/\Q (.ref p) (upd c p (.dK (O1 [] a)))
theorem ye(h:PPs X pos keys values trs)(d:keys.all (·.isSome)=true)(k:keys.length=values.length)(u:keys≠[])
  (f:keys.length<=15):PE X (.Dict keys values pos) (HI trs):=by
 intro π s σ H Q I q;have t:=I.hok.fresh (Ju s.heap.objs.size);have p:=I.laid (t':=s.toks) (λ_ _ q=>Jq _ q) (Ju _) (tq s.heap I.big);refine wpAny_Dict_walk (knd:=j7 X.prog X.w) d k u f (thn (h π _ σ _ _ p (q _ t)) λws A ⟨ps,B,i,g,e,a,r,y,l⟩=>?_);subst r;obtain⟨rs,c,n⟩:=bD g;obtain⟨z,hd,x,m,v⟩:=zT i.hok e;ext m;refine⟨rs,c,v,λh' b hs=>⟨.ref s.heap.objs.size,_,?_,rfl,l⟩⟩;have hz:(O1 [] a).length<=sizeLine:=by
  have j:=N3 a [];rw[List.length_nil]at j;rw[JS];omega
 have o:∃q,h'.get? s.heap.objs.size=some q:=let ⟨q,_,_,w,_⟩:=b;⟨q,w⟩
 exact Y8 i (by rw[e];exact True.intro) hs o (tV hz hd (n.merge .nil) b)
end L2
namespace Att
open PySem PySem.W PySem.Calls PyProof.Rows
theorem X2:∀(ns:List Int)(vs:List Value),WellAll P h vs (ns.map WData.int)->IntsAre vs ns:=by
 intro ns;induction ns with
 | nil=>
  intro vs w;rw[List.map_nil]at w;ext w;exact .nil
 | cons n ns c=>
  intro vs w;rw[JI]at w;cases w with
  | cons a b=>
   ext a;exact .cons _ _ (c _ b)
theorem lY{l:OpenLaw}{n:Nat}(hn:l.most=some n){P:Params}{h:Heap}{args:List WData}{vals:List Value}
  (hpre:l.row.toRowW.claim.pre args=true) (hwl:WellAll P h vals args) :
  ∃a vs ns,vals=[Value.ref a]/\args=[WData.list (ns.map WData.int)]/\h.get? a=some { cls:=.type "list",data:=.seq vs.toArray }/\IntsAre vs ns/\ns.length<=n:=by
 have hsh:=(pre_splitW hpre).1;have hc:=(pre_splitW hpre).2;obtain⟨d,r,rfl,h1,h2⟩:=hasAllW_cons hsh;obtain rfl:=hasAllW_nil h2;obtain⟨xs,rfl,h3⟩:=hasW_list h1;obtain⟨ns,rfl⟩:=items_int h3;have hlen:ns.length<=n:=by
  have h4:(WTm.not (.lt (.lit (.int (n:Int))) (.len (.arg 0)))).holds [] { args:=[.list (ns.map .int)] }=true:=by
   have h4:=(holds_andW hc).1;rw[hn]at h4;exact h4
  have h5:=condW_of h4 (w_not (w_lt w_lit (w_len_list (w_arg rfl))));rw[Jr]at h5;refine LC λq=>?_;have q':(n:Int)<((ns.length:Nat):Int):=by omega
  first
   | (rw[JQ q']at h5;exact absurd h5 ⋯)
   | (simp at h5;omega)
 cases hwl with
 | cons w1 w2=>
  ext w2;cases w1 with
  | list ho hall=>exact⟨_,_,ns,rfl,rfl,ho,X2 ns _ hall,hlen⟩
theorem ls(l:OpenLaw)(a:List WData):l.row.toRowW.claim.post a (.bool true) a=true:=
 postW_of
  (show WShape.has [] (.bool true) .bool=true by first | rfl | decide | simp[WShape.has,WShape.arms,WShape.armsAll])
  (w_eq_bool (w_res rfl) w_lit) rfl
theorem attach_call{l:OpenLaw}{n:Nat}{q:Program}{e:List Str}{H:(Str->Option Value)->Heap->Prop}{D:World->Heap->Prop}{d:DefRec}
  (M:l.most=some n) (z:d.params.defaults=[])
  (k:∀(w:World)(c b:Shared)(s A:Str->Option Value)(m:Addr)(o:Obj)(x t g:Value)(a:Addr)(vs:List Value)(ns:List Int),
   Ground q e [] H w c s A b.heap->D w b.heap ->
   b.heap.get? m=some o->o.data=.func (docDef d.name d.params d.body d.scope x t g)->b.heap.CodeRec t d.name->s d.name=some (.ref m) ->
   b.heap.get? a=some { cls:=.type "list",data:=.seq vs.toArray }->IntsAre vs ns->ns.length<=n->b.gens=#[] ->
   codeAny (model l.prog w) callerA (.call (.ref m) ⟨[.ref a],[]⟩) (λr s'=>r=.ok (.ret (.bool true))/\OldK b.heap s'.heap/\s'.os=b.os/\AllBare s'.gens) b) :
  WalkO q e H D l.row.toRowW d [] (λf vs=>PySem.call f vs):=by
 intro w c b s A G Y m o x t g L I Q hd y B v S E C U j F P u K;obtain rfl:L=.none:=Dflts.none B z;obtain rfl:I=.none:=Dflts.noKw B;obtain⟨a,vs,ns,rfl,rfl,i,h,p⟩:=lY M j u;refine enter_call (Ld (k w c b s A m o x t g a vs ns G Y Q (fd_plain hd) y v i h p S) λr s' R=>?_);obtain⟨rfl,N,T,J⟩:=R;exact⟨.inl ⟨.bool true,.bool true,[],rfl,λ_=>rfl,.bool true,ls l _,λ_=>⟨List.Pairwise.nil,λ_ O=>(nomatch O)⟩⟩,N,T,J⟩
end Att
namespace L2
open PySem PySem.Spec PyProof.Rows
theorem D1:∀{vs:List Value}{ns:List Int},IntsAre vs ns->Vals (ns.map V.int) vs
 | _,_,.nil=>.nil
 | _,_,.cons n t h=>.cons ⟨t,rfl⟩ (D1 h)
def BG(H:Hp):Prop:=∀b,H b=none\/∃o xs,H b=some (.frz o (.lst xs))
theorem oF{K:PySem.W.Frag}{mg mb:Str->Option Value}{CX:CXT}{k:Nat}{fa a:Addr}{fd:FuncData}{x:Str}{sp:Sp}{s₁:Shared}{vs:List Value}{ns:List Int}
  (KX:K.In s₁.heap) (hns:s₁.heap.Ns mainGlobals mg) (hb:s₁.heap.Ns builtinsNs mb) (hbb:∀x:Str,x ≠ "__name__"->mb x=bootBuiltins x) (hlim:s₁.heap.NoLimit) (hg:s₁.gens=#[])
  (ha:s₁.heap.get? a=some { cls:=.type "list",data:=.seq vs.toArray }) (hi:IntsAre vs ns) (hl:ns.length<=sizeLine) (hr:Room false k callerA)
  (F:∀base:Heap,K.In base->base.Ns mainGlobals mg->FnOk P w K mg base CX k fa fd [x] sp) (hbind:∀(s:Shared)(u:Value),BindsTo s fd ⟨[u],[]⟩ [(x,u)])
  (hsp:∀H:Hp,BG H->SqL K H a (ns.map V.int)->sp [.ref a] H (λv _=>v=.bl true) λ_ _ _=>False)
  (hCX:∀H e s',CX [] H s₁ (λ_ _ _=>False) e s'->False) :
  codeAny (model P w) callerA (.call (.ref fa) ⟨[.ref a],[]⟩) (λr s'=>r=.ok (.ret (.bool true))/\OldK s₁.heap s'.heap/\s'.os=s₁.os/\AllBare s'.gens) s₁:=by
 have rv:=D1 hi;have lenV:=hi.length;have core:∀H:Hp,BG H->SqL K H a (ns.map V.int)->HOk P w H s₁.heap->(∀b,H b≠none->b=a)->(H a≠none->K.lookup a=none) ->
   codeAny (model P w) callerA (.call (.ref fa) ⟨[.ref a],[]⟩) (λr s'=>r=.ok (.ret (.bool true))/\OldK s₁.heap s'.heap/\s'.os=s₁.os/\AllBare s'.gens) s₁:=by
  intro H hO hS hok hA hK;have D7:∀{b:Addr}{o:Obj},s₁.heap.get? b=some o->H b=none->(fY s₁.heap H).get? b=some o:=λe n=>oR e n;have noA:∀{b:Addr}{o:Obj}{es:Array DictEntry}{ep:Nat},s₁.heap.get? b=some o->o.data=.dict es ep->H b=none:=λ{b o es ep} e d=>by
   cases q:H b with
   | none=>rfl
   | some u=>
    have e':=hA b (by rw[q];simp);subst e';rw[ha]at e;ext e;have d':=d;ext d'
  have nsK:∀{b:Addr}{m:Str->Option Value},s₁.heap.Ns b m->(fY s₁.heap H).Ns b m:=λ{b m} ⟨o,es,ep,e,d,r⟩=>⟨o,es,ep,D7 e (noA e d),d,r⟩;have hKb:=λb o e=>D7 (KX b o e) (by
   cases q:H b with
   | none=>rfl
   | some u=>
    have e':=hA b (by rw[q];simp);subst e';rw[hK (by rw[q];simp)]at e;ext e)
  have hM:Mod K mg (fY s₁.heap H):=⟨hKb,nsK hns,⟨mb,nsK hb,hbb⟩,let ⟨mc,h1,h2⟩:=hlim;⟨mc,nsK h1,h2⟩⟩;have e0:Env0 P w K mg (fY s₁.heap H) callerA [] s₁ H:=⟨rfl,hM,λb o e=>wH e,Nat.le_of_eq (mP _ _),trivial,λb hb=>absurd (show b∈([]:List Addr) from hb) (by simp),hok,.of_eq hg⟩;refine Ld ((F _ hKb (nsK hns)).run callerA [] s₁ H ⟨[.ref a],[]⟩ [.ref a] [.ref a] _ _ hr.any e0 (hbind s₁ (.ref a)) (.cons rfl .nil) (hsp H hO hS)) λr s' h=>?_;cases r with
  | error e=>exact(hCX H e s' h).elim
  | ok fl=>
   cases fl with
   | next=>exact False.elim h
   | brk=>exact False.elim h
   | cont=>exact False.elim h
   | ret u=>
    obtain⟨v,H',os,bare,un,hok',r',q⟩:=h;have q':=q;subst q';obtain rfl:u=Value.bool true:=r';refine⟨rfl,OldK.of_keep λb o e=>?_,os,bare⟩;cases q:H b with
    | none=>exact un.keep b o e q (by intro z;exact absurd (show b∈([]:List Addr) from z) (by simp)) (by simp)
    | some u=>
     rcases hO b with z | ⟨ob,xs,z⟩
     ·rw[q]at z;ext z
     ·have z2:=un.frzs b ob _ z;obtain⟨e1,_⟩:=hok b _ z;obtain⟨e2,_⟩:=hok' b _ z2;rw[e]at e1;ext e1;exact e2
 cases hk:K.lookup a with
 | some o=>
  have e:=KX a o hk;rw[ha]at e;ext e;refine core (λ_=>none) (λ_=>.inl rfl) (.inr ⟨_,vs.toArray,_,hk,rfl,rfl,rfl,by rw[Jv,lenV];exact hl,by simpa using rv⟩) (λb u z=>by have z':=z;ext z') (λb z=>absurd rfl z) λz=>absurd rfl z
 | none=>
  refine core (λb=>if b=a then some (.frz { cls:=.type "list",data:=.seq vs.toArray } (.lst (ns.map V.int)))else none) (λb=>?_) (.inl (.inr ⟨{ cls:=.type "list",data:=.seq vs.toArray },if_pos rfl⟩)) (λb u z=>?_) (λb z=>?_) λ_=>hk
  ·grind
  ·by_cases hb:b=a
   ·have z':=(if_pos hb).symm.trans z;ext z';subst hb;exact⟨ha,by rw[Jr];exact hl,vs,_,rv,ha⟩
   ·grind
  ·grind
theorem walk_of{l:PySem.W.OpenLaw}{n k:Nat}{q:Program}{g:List Str}{Q:(Str->Option Value)->Heap->Prop}{D:World->Heap->Prop}{d:DefRec}{K:Params->PySem.W.Frag}{CX:World->CXT}{sp:World->Sp}{x:Str}
  (O:l.most=some n) (A:n<=sizeLine) (B:d.params.defaults=[]) (M:Room false k callerA)
  (S:∀(w:World)(h:Heap),D w h->(K w.params).In h)
  (F:∀(w:World)(j:Str->Option Value)(r:Addr)(h:Heap),(K w.params).In h->h.Ns mainGlobals j->j d.name=some (.ref r) ->
   ∃fd:FuncData,(∀(s:Shared)(u:Value),BindsTo s fd ⟨[u],[]⟩ [(x,u)]) /\
    ∀b:Heap,(K w.params).In b->b.Ns mainGlobals j->FnOk l.prog w (K w.params) j b (CX w) k r fd [x] (sp w))
  (t:∀(w:World)(H:Hp)(a:Addr)(ns:List Int),ns.length<=n->BG H->SqL (K w.params) H a (ns.map V.int)->sp w [.ref a] H (λv _=>v=.bl true) λ_ _ _=>False)
  (z:∀(w:World)(H:Hp)(s:Shared)(e:Value)(s':Shared),CX w [] H s (λ_ _ _=>False) e s'->False) :
  PySem.W.WalkO q g Q D l.row.toRowW d [] (λf vs=>PySem.call f vs):=by
 refine Att.attach_call O B λw C m j Z r o U W J a vs ns G Y X hd P y p i c R=>?_;have E:=S w _ Y;obtain⟨fd,N,I⟩:=F w j r _ E G.T.g y;exact oF E G.T.g G.T.b G.T.builtins G.T.nolimit R p i (JW c A) M I N (λH T L=>t w H a ns c T L) λH e s'=>z w H m e s'
def dt(s:Stmt)(j:Nat):Stmt:=match s with
 | .ClassDef _ _ _ body _ _ _ _ _ _ _=>body.getD j (.Pass ⟨0,0,0,0⟩)
 | _=>.Pass ⟨0,0,0,0⟩
def v5(s:Stmt):Arguments:=match s with
 | .FunctionDef _ a _ _ _ _ _ _ _ _=>a
 | _=>{ posonlyargs:=[],args:=[],vararg:=none,kwonlyargs:=[],kw_defaults:=[],kwarg:=none,defaults:=[] }
def j6(s:Stmt):List Stmt:=match s with
 | .FunctionDef _ _ b _ _ _ _ _ _ _=>b
 | _=>[]
def c9(s:Stmt):Scope:=match s with
 | .FunctionDef _ _ _ _ _ _ a _ _ _=>a
 | _=>{ kind:=.function,names:=[],isGenerator:=false,isCoroutine:=false }
abbrev CX0:CXT:=⟨λ_ _ _ _ _ _=>False,false⟩
abbrev E0:XK:=λ_ _ _=>False
theorem fX:B9 CX0 X E0:=λ_ _ _ _ _ _ _ h=>False.elim h
structure Fun(K:PySem.W.Frag)(x qual:Str)(st:Stmt)(f:Addr)(fd:FuncData):Prop where
 ex:∃(oc:Value) (od:Option Addr) (kV doc pm:Value) (an:Option Addr) (cdv ct:Value) (osl:Array (Option Value)),
  fd=PySem.W.fnOf x qual (v5 st) (j6 st) (c9 st) .none kV doc pm an cdv ct/\K.lookup f=some ⟨oc,od,.func fd,osl⟩/\PySem.W.codeIn K cdv qual=true
 kp:PySem.W.keepIn K (.ref f)=true
section
variable {P:Program}{w:World}{K:PySem.W.Frag}{mg:Str->Option Value}{base:Heap}
theorem Fun.ok{st:Stmt}{f:Addr}{fd:FuncData}{N ps:List Str}{k:Nat}{sp:Sp}(F:Fun K x qual st f fd)(S:FnScope N ps (c9 st))(e:∀vs H Q E,sp vs H Q E->vs.length=ps.length)
  (c:∀(b:Value)(A:Around)(a:List Env)(s:Shared)(H:Hp)(vs:List V)(Q:VK)(E:XK),Room false k (A.deeper (envOfC qual (c9 st) s.heap.objs.size f b))->sp vs H Q E ->
   ∃t,PSs (ba CX0 P w K mg base N qual (c9 st) f b A a s H E).nox (j6 st) t/\t { nx:=λ_ H'=>Q .non H',rt:=Q } (start N vs) H):FnOk P w K mg base CX0 (k+1) f fd ps sp:=by
 obtain⟨n,od,r,i,p,u,b,o,m,rfl,j,g⟩:=F.ex;refine zx j g S e λA a s H vs Q E l d=>?_;obtain⟨t,h,q⟩:=c b A a s H vs Q E l d;exact⟨t,h.nox,q⟩
theorem Fun.binds{st:Stmt}{f:Addr}{fd:FuncData}{ps:List Str}(F:Fun K x qual st f fd)
  (h:∀(e b c:Value)(g:Option Addr)(a d:Value)(us:List Value),us.length=ps.length->bindArgs (PySem.W.fnOf x qual (v5 st) (j6 st) (c9 st) .none e b c g a d) ⟨us,[]⟩=pure (ps.zip us)):Binds K fd ps []:=by
 obtain⟨k,od,e,b,c,g,a,d,j,rfl,l,i⟩:=F.ex;exact .all (h e b c g a d)
theorem jB{st:Stmt}{f:Addr}{j:Value}{od h:Option Addr}{d:Array (Option Value)}{i b e a g:Value}(l:K.lookup f=some ⟨j,od,.func (PySem.W.fnOf x qual (v5 st) (j6 st) (c9 st) .none i b e h a g),d⟩)
  (c:PySem.W.codeIn K a qual=true) (k:PySem.W.keepIn K (.ref f)=true):Fun K x qual st f (PySem.W.fnOf x qual (v5 st) (j6 st) (c9 st) .none i b e h a g):=⟨⟨j,od,i,b,e,h,a,g,d,rfl,l,c⟩,k⟩
end
theorem Et{k:Nat}(a:Room q k A):A.units+1<cLine:=Nat.lt_of_le_of_lt (Nat.add_le_add_left (by decide:1<=64) _) a.units
section
variable {X:Cx}
theorem pv(i:Nat){x:Str}{pos:Pos}(c:X.N[i]?=some x:=by rfl)(b:Vis X.env.scope x:=by first | exact Or.inl rfl | exact Or.inr (Or.inl rfl) | exact Or.inr (Or.inr rfl))(hd:(x==("__debug__" : Str))=false:=by decide)
  (a:(x==("__classdict__" : Str))=false:=by decide):PE X (.Name x pos) (BL i):=tR c b hd a
theorem nJ:k5 X (.builtin "len") (λxs H Q=>∃a b,xs=[V.ref a]/\H a=some (.dK b)/\Q (.int b.length) H):=by
 intro π s σ H xs us Q I r h;obtain⟨a,b,rfl,d,q⟩:=h;obtain⟨u,rfl,e⟩:=X0 r;ext e;exact HG I (.inl d) λt s' c=>⟨.int b.length,H,c,⟨t,rfl⟩,q⟩
end
theorem vy{A B:Prop}(h:A):if true=true then A else B:=by grind
def Same(H H':Hp):Prop:=∀b o,H b=some o->H' b=some o
theorem Same.seq{K:PySem.W.Frag}{H H':Hp}{a:Addr}{xs:List V}(e:Same H H')(h:SqL K H a xs):SqL K H' a xs:=by
 rcases h with (h | ⟨o,h⟩) | h
 ·exact .inl (.inl (e _ _ h))
 ·exact .inl (.inr ⟨o,e _ _ h⟩)
 ·exact .inr h
theorem bR{b a:Type}(g:a->b->a){f:b->a->Sem (ForInStep a)}:∀(l:List b)(c:a),(∀x∈l,∀c,f x c=pure (.yield (g c x)))->forIn l c f=pure (l.foldl g c)
 | [],_,_=>rfl
 | x::l,c,h=>by
  rw[KS,h x Jy,pure_bind];exact bR g l (g c x) λy d=>h y (JE _ d)
def j9(cells:List (Str×Addr))(a:List (Str×Addr))(x:Str×NameKind):List (Str×Addr):=if x.2=NameKind.free then (x.1,(cells.lookup x.1).getD 0)::a else a
def O3(cells:List (Str×Addr))(a:List (Str×NameKind)):List (Str×Addr):=a.foldl (j9 cells) []
theorem v7(h:∀x∈scope.names,x.2=NameKind.free->∃c,env.cells.lookup x.1=some c):closureFor scope env=pure (O3 env.cells scope.names):=by
 simp only[closureFor];rw[bR (j9 env.cells) scope.names [] (λx e c=>by
  obtain⟨n,k⟩:=x;by_cases b:k=NameKind.free
  ·subst b;obtain⟨a,d⟩:=h _ e rfl;simp[cellOf,j9,d]
  ·have:(k==NameKind.free)=false:=by simpa using b
   simp[j9,b,this])]
 rfl
theorem D4:∀(b:List (Str×NameKind)) (f:List (Str×Addr)),(∀x∈b,x.2=NameKind.free->∃c,cells.lookup x.1=some c)->(∀x c,f.lookup x=some c->cells.lookup x=some c) ->
  ∀x c,(b.foldl (j9 cells) f).lookup x=some c->cells.lookup x=some c
 | [],_,_,g,x,c,e=>g x c e
 | y::r,f,h,g,x,c,e=>by
  refine D4 r (j9 cells f y) (λz hz=>h z (JE _ hz)) (λz d q=>?_) x c e;unfold j9 at q;split at q
  ·rename_i i;obtain⟨a,j⟩:=h y Jy i;rw[LV]at q;split at q
   ·grind
   ·exact g z d q
  ·exact g z d q
theorem bH:∀(b:List (Str×NameKind)) (a:List (Str×Addr)) (x:Str),(a.lookup x).isSome=true->((b.foldl (j9 cells) a).lookup x).isSome=true
 | [],_,_,h=>h
 | y::r,a,x,h=>by
  refine bH r (j9 cells a y) x ?_;unfold j9;split
  ·grind
  ·exact h
theorem P6:∀(a:List (Str×NameKind)) (b:List (Str×Addr)) (x:Str),(x,NameKind.free)∈a->((a.foldl (j9 cells) b).lookup x).isSome=true
 | [],_,_,h=>nomatch h
 | y::r,b,x,h=>by
  rcases JH.mp h with h | h
  ·subst h;refine bH r _ x ?_;simp[j9]
  ·exact P6 r _ x h
theorem mem_of_lookup{c d:Type}[BEq c][LawfulBEq c]:∀{l:List (c×d)} {x:c} {y:d},l.lookup x=some y->(x,y)∈l
 | [],_,_,h=>by simp at h
 | (a,b)::r,x,y,h=>by
  rw[LV]at h;split at h
  ·rename_i e;have:x=a:=by simpa using e
   ext h;subst this;exact Jy
  ·exact JE _ (mem_of_lookup h)
theorem V8{f:Str×NameKind->Str×NameKind}(a:∀y,(f y).1=y.1):∀(l:List (Str×NameKind)) (x:Str),(l.map f).lookup x=(l.lookup x).map λk=>(f (x,k)).2
 | [],_=>rfl
 | (n,k)::r,x=>by
  rw[JI,show f (n,k)::r.map f=((f (n,k)).1,(f (n,k)).2)::r.map f from rfl,LV,LV,a];cases b:x==n with
  | true=>
   have e:x=n:=by simpa using b
   subst e;rfl
  | false=>exact V8 a r x
def rlF(a:Env)(y:Str×NameKind):Str×NameKind:=if (y.2==.free&&a.scope.kind==.function&&a.kindOf y.1==some .cell)then (y.1,.cell)else (y.1,y.2)
theorem xZ(a:Env)(y:Str×NameKind):(rlF a y).1=y.1:=by unfold rlF;split <;> rfl
theorem L1(a:Scope)(b:Env)(x:Str):(relabel a b).names.lookup x=(a.names.lookup x).map λk=>(rlF b (x,k)).2:=V8 (xZ b) a.names x
theorem M8{scope:Scope}{env:Env}{x:Str}(h:scope.names.lookup x=some .free):(relabel scope env).names.lookup x=some .cell\/(relabel scope env).names.lookup x=some .free:=by
 rw[L1,h];show some (rlF env (x,.free)).2=_\/some (rlF env (x,.free)).2=_;unfold rlF;split
 ·exact .inl rfl
 ·exact .inr rfl
theorem Q2(h:(relabel scope env).names.lookup x=some k)(d:k=.cell\/k=.free)(b:∀y∈scope.names,y.2≠NameKind.cell):scope.names.lookup x=some .free:=by
 rw[L1]at h;cases e:scope.names.lookup x with
 | none=>rw[e]at h;ext h
 | some a=>
  rw[e]at h;have h':(rlF env (x,a)).2=k:=JZ h;have c:=b (x,a) (mem_of_lookup e);unfold rlF at h';split at h'
  ·grind
  ·grind
theorem HOk.sameBut{a:Addr}(g:HOk P w H h)(f:H a=none)(hs:Heap.SameBut a h h'):HOk P w H h':=λb ob e=>by
 refine(g b ob e).stay (λc w' d q=>(hs.2 c ?_).trans q) (λ_ q=>q) λ_ _ q=>q;rintro rfl;rcases d with rfl | d
 ·rw[f]at e;ext e
 ·rw[f]at d;ext d
theorem Un.sameBut{C:Addr}(u:Un fs ex H H' h h1)(hs:Heap.SameBut C h1 h')(g:h.objs.size<=C):Un fs ex H H' h h':=by
 have d:∀b o,h.get? b=some o->b≠C:=λb o e=>JF (JN (Jx e) g);exact⟨λb o e n c a=>(hs.2 b (d b o e)).trans (u.keep b o e n c a),λb o e n c a=>let ⟨f,q⟩:=u.slot b o e n c a;⟨f,(hs.2 b (d b o e)).trans q⟩,u.free,
  λb o e a=>let ⟨o',q⟩:=u.there b o e a;⟨o',(hs.2 b (d b o e)).trans q⟩,u.tups,u.frzs,u.tbls⟩
def b6(X:Cx)(π:List (Addr×Obj))(N':List Str)(a:Scope)(C:Addr)(b:List Addr)(s:Shared)(H:Hp):Cx where
 prog:=X.prog
 w:=X.w
 K:=X.K
 mg:=X.mg
 base:=X.base
 A:=X.A
 N:=N'
 s₀:=s
 H₀:=H
 env:=compEnvC a (O3 X.env.cells a.names) C X.env
 outer:=X.stack
 stack:=X.stack
 ex:=b
 fn:=λ_=>false
 calm:=X.calm
 pn:=X.pn++π
 xe:=λ_ _=>False
structure CompText(N:List Str)(env:Env)(N':List Str)(k:Nat)(caps:List Nat)(scope:Scope):Prop where
 kind:scope.kind=.function
 cell:∀y∈scope.names,y.2≠NameKind.cell
 loc:∀y∈scope.names,y.2=NameKind.local->scope.names.lookup y.1=some .local
 free:∀y∈scope.names,y.2=NameKind.free->scope.names.lookup y.1=some .free/\(env.scope.names.lookup y.1=some .cell\/env.scope.names.lookup y.1=some .free)
 cps:∀(j i:Nat),caps[j]?=some i->∃x,N[i]?=some x/\N'[k+j]?=some x/\scope.names.lookup x=some .free
 len:N'.length=k+caps.length
def A8(caps:List Nat)(σ:St):St:=caps.map λi=>(σ[i]?).join
theorem gc{caps:List Nat}{σ:St}{j:Nat}{v:V}(h:(A8 caps σ)[j]?=some (some v)):∃i,caps[j]?=some i/\σ[i]?=some (some v):=by
 unfold A8 at h;rw[JU]at h;cases e:caps[j]? with
 | none=>rw[e]at h;ext h
 | some i=>
  rw[e]at h;refine⟨i,rfl,?_⟩;have h':(σ[i]?).join=some v:=JZ h;cases q:σ[i]? with
  | none=>rw[q]at h';ext h'
  | some o=>rw[q]at h';exact congrArg some h'
section
variable {X:Cx}{π:List (Addr×Obj)}{σ:St}{H:Hp}{s:Shared}{N':List Str}{k:Nat}{caps:List Nat}{scope:Scope}{fp:List Addr}
theorem kt(T:CompText X.N X.env N' k caps scope)(I:Inv X π σ H s)(i:∀b∈fp,D3 X π H b){C:Addr}(n:s.heap.objs.size<=C)(j:∀b∈fp,b<s.heap.objs.size):(b6 X π N' scope C fp s H).Ok:=by
 have p:∀x∈scope.names,x.2=NameKind.free->∃c,X.env.cells.lookup x.1=some c:=λx g q=>I.ok.has x.1 (T.free x g q).2;have f:=D4 scope.names [] p λx c e=>by simp at e
 refine⟨I.mod,?_,I.ok.glob,I.ok.blt,n,λx y c a b=>I.ok.inj x y c (f x c a) (f y c b),λx g=>?_,λx c m=>(by ext m),I.ok.hd,I.ok.frames,.inl rfl,λb d=>⟨?_,λx c e=>(i b d).2.2.2.2.1 x c (f x c e)⟩,I.bs,?_,λb o e d=>?_,λb d l=>?_,I.stack,I.stkFree⟩
 ·exact T.kind
 ·have h:scope.names.lookup x=some .free:=by
   rcases g with g | g
   ·exact Q2 g (.inl rfl) T.cell
   ·exact Q2 g (.inr rfl) T.cell
  exact Kd.mp (P6 scope.names [] x (mem_of_lookup h))
 ·exact JF (JN (j b d) n)
 ·exact JW I.ok.bsz I.sz
 ·rcases(i b d).2.2.2.1 with z | z
  ·exact I.ok.noex b o e z
  ·exact absurd (JN (Jx (I.ok.bs b o e).1) z) (Lu _)
 ·rcases JH.mp (I.stkSub b l)with z | z
  ·exact(i b d).2.1 z
  ·exact(i b d).2.2.1 z
theorem P2(T:CompText X.N X.env N' k caps scope)(I:Inv X π σ H s)(hf:∀b∈fp,D3 X π H b)(hlt:∀b∈fp,b<s.heap.objs.size){h':Heap}{m:Str->Option Value}{t:Nat}
  (hn:h'.Ns (s.heap.objs.size+1) m) (hk:∀b o,s.heap.get? b=some o->h'.get? b=some o) (ha:h'.get? s.heap.objs.size=some { cls:=.type "list",data:=.seq #[] }) :
  Inv (b6 X π N' scope (s.heap.objs.size+1) fp s H) [] (List.replicate k none++A8 caps σ) (upd H s.heap.objs.size (.lst [])) { s with heap:=h',toks:=t }:=by
 have ok:=kt T I hf (C:=s.heap.objs.size+1) (KM _) hlt;have fr:∀x∈scope.names,x.2=NameKind.free->∃c,X.env.cells.lookup x.1=some c:=λx hx hk=>I.ok.has x.1 (T.free x hx hk).2;have snd:∀x c,(O3 X.env.cells scope.names).lookup x=some c->X.env.cells.lookup x=some c:=D4 scope.names [] fr λx c e=>by simp at e
 have nacc:H s.heap.objs.size=none:=I.hok.fresh (Ju _);have lt:∀b u,H b=some u->b<s.heap.objs.size:=λb u e=>I.hok.lt e;refine⟨ok,rfl,I.bare,Un.laid hk (Ju _) nacc,⟨m,hn,λi x v e1 e2 e3=>?_⟩,λx c e=>?_,?_,λx c e=>?_,λp hp=>?_,I.hok.laid hk (Ju _) ⟨Kg _,[],_,.nil,ha⟩,?_⟩
 ·by_cases hi:i<k
  ·rw[Jz (by simpa using hi)]at e2;simp[hi]at e2
  ·rw[Ka (by simpa using LC hi)]at e2;rw[KC]at e2;obtain⟨j,hj,hv⟩:=gc e2;obtain⟨y,h1,h2,h3⟩:=T.cps _ _ hj;have hik:k+(i-k)=i:=by omega
   rw[hik]at h2;have hxy:y=x:=JZ (h2.symm.trans e1);subst hxy;have hvis:=(T.free (y,.free) (mem_of_lookup h3) rfl).2;obtain⟨mX,hnX,hlX⟩:=I.loc;obtain⟨u,r,l⟩:=hlX j y v h1 hv (by rcases hvis with z | z;exact .inr (.inl z);exact .inr (.inr z));refine⟨u,r,?_⟩;rcases l with ⟨hk',_⟩ | ⟨_,c,hc,hcell⟩
   ·have hk'':X.env.scope.names.lookup y=some .local:=hk';rcases hvis with z | z
    ·rw[hk'']at z;ext z
    ·rw[hk'']at z;ext z
   ·obtain⟨c',hc'⟩:=Kd.mp (P6 (cells:=X.env.cells) scope.names [] y (mem_of_lookup h3));have:c'=c:=JZ ((snd y c' hc').symm.trans hc);subst this;obtain⟨oc,ho,hd⟩:=hcell;exact .inr ⟨M8 h3,c',hc',oc,hk _ _ ho,hd⟩
 ·obtain⟨v,oc,ho,hd⟩:=I.cell x c (snd x c e);exact⟨v,oc,hk _ _ ho,hd⟩
 ·show upd H s.heap.objs.size (.lst []) (s.heap.objs.size+1)=none;rw[a8 (MI _)];exact I.hok.fresh (KM _)
 ·obtain⟨v,oc,ho,hd⟩:=I.cell x c (snd x c e);rw[a8 (JF (Jx ho))];exact I.freeC x c (snd x c e)
 ·have hp':p∈X.pn++π:=by
   have:p∈(X.pn++π)++[]:=hp;rwa [Kc]at this
  obtain⟨e,n,ne,nf,d⟩:=I.pin p hp';refine⟨hk _ _ e,?_,JF (Ko (Jx e)),λhb=>?_,d⟩
  ·rw[a8 (JF (Jx e))];exact n
  ·rcases JH.mp (I.stkSub p.1 hb)with z | z
   ·exact ne z
   ·exact nf z
 ·show _=N'.length;rw[T.len,JP,KC];unfold A8;rw[Jr]
end
def PTL(X:Cx)(ifs:List Expr)(t:TT):Prop:=
 ∀(π:List (Addr×Obj)) (s:Shared) (σ:St) (H:Hp) (Q:Bool->Hp->Prop),Inv X π σ H s->t σ H Q ->
  wpAny (model X.prog X.w) X.A (forIn ifs true λc r=>if r=true then do let a <- isTrue c X.env (eval c X.env);pure (ForInStep.yield a)else pure (ForInStep.yield r)) (TP X π σ Q) X.xe s
def tTrue:TT:=λ_ H Q=>Q true H
theorem vz:PTL X [] tTrue:=λ_ _ _ H _ I h=>by
 rw[LR];exact Jo ⟨H,I,h⟩
theorem wh(h:PT X c t):PTL X [c] t:=λπ s σ H Q I q=>by
 rw[KS];refine Jn ?_;rw[if_pos rfl];refine Jn (thn (h π s σ H Q I q) λb s' ⟨H',d,a⟩=>Jo ?_);dsimp only;rw[LR];exact Jo ⟨H',d,a⟩
theorem dL{a:Type}{t:Sem a}{Q:a->Shared->Prop}{u:Sem Unit}(c:u=pure ())(h:wpAny M A u (λ_ b=>wpAny M A t Q E b) E s):wpAny M A t Q E s:=by
 have d:=Jn h;grind
theorem g9{s:Shared}{a:Type}{t:Sem a}{Q:a->Shared->Prop}(h:wpAny M A t Q (λ_ _=>False) s):wpAny M A t Q E s:=JO h (λ_ _ q=>q) λ_ _ q=>q.elim
mutual
inductive DAt(K:PySem.W.Frag)(H:Hp):V->PyData->Prop where
 | non:DAt K H .non .none
 | bl (b:Bool):DAt K H (.bl b) (.bool b)
 | int (i:Int):DAt K H (.int i) (.int i)
 | str (x:Str):DAt K H (.str x) (.str x)
 | lst {a:Addr} {xs:List V} {ds:List PyData}:SqL K H a xs->DAll K H xs ds->DAt K H (.ref a) (.list ds)
 | tup {a:Addr} {xs:List V} {ds:List PyData}:SqT K H a xs->DAll K H xs ds->DAt K H (.ref a) (.tuple ds)
inductive DAll(K:PySem.W.Frag)(H:Hp):List V->List PyData->Prop where
 | nil:DAll K H [] []
 | cons {x:V} {d:PyData} {xs:List V} {ds:List PyData}:DAt K H x d->DAll K H xs ds->DAll K H (x::xs) (d::ds)
end
def Keeps(K:PySem.W.Frag)(H H':Hp):Prop:=(∀a xs,SqL K H a xs->SqL K H' a xs)/\∀a xs,SqT K H a xs->SqT K H' a xs
mutual
theorem DAt.keeps{K:PySem.W.Frag}{H H':Hp}(k:Keeps K H H'):∀{v:V}{d:PyData},DAt K H v d->DAt K H' v d
 | _,_,.non=>.non
 | _,_,.bl b=>.bl b
 | _,_,.int i=>.int i
 | _,_,.str x=>.str x
 | _,_,.lst h r=>.lst (k.1 _ _ h) (DAll.keeps k r)
 | _,_,.tup h r=>.tup (k.2 _ _ h) (DAll.keeps k r)
theorem DAll.keeps{K:PySem.W.Frag}{H H':Hp}(k:Keeps K H H'):∀{xs:List V}{ds:List PyData},DAll K H xs ds->DAll K H' xs ds
 | _,_,.nil=>.nil
 | _,_,.cons h r=>.cons (DAt.keeps k h) (DAll.keeps k r)
end
theorem Keeps.of_same{K:PySem.W.Frag}{H H':Hp}(e:Same H H'):Keeps K H H':=
 ⟨λa xs h=>e.seq h,λa xs h=>by
  rcases h with (h | ⟨o,h⟩) | h
  ·exact .inl (.inl (e _ _ h))
  ·exact .inl (.inr ⟨o,e _ _ h⟩)
  ·exact .inr h⟩
theorem Same.laid(h:H p=none):Same H (upd H p o):=λb u e=>by rw[a8 (b9 e h)];exact e
theorem Keeps.laid{K:PySem.W.Frag}{H:Hp}{p:Addr}{o:HO}(h:H p=none):Keeps K H (upd H p o):=Keeps.of_same (Same.laid h)
section
variable {X:Cx}{π:List (Addr×Obj)}{σ:St}{H:Hp}{s:Shared}
mutual
theorem DAt.reads(I:Inv X π σ H s):∀{v:V}{d:PyData},DAt X.K H v d->∀{u:Value},RelV v u->∃a,Reads s.heap u d a
 | _,_,.non,u,r=>by cases (show u=Value.none from r);exact⟨_,.none⟩
 | _,_,.bl b,u,r=>by cases (show u=Value.bool b from r);exact⟨_,.bool b⟩
 | _,_,.int i,u,r=>by obtain⟨t,e⟩:=(r);subst e;exact⟨_,.int i t⟩
 | _,_,.str x,u,r=>by obtain⟨t,e⟩:=(r);subst e;exact⟨_,.str x t⟩
 | _,_,.lst h q,u,r=>by
  cases (r);obtain⟨f,c,⟨o,n,g,j,m,l⟩,_⟩:=I.list h;obtain⟨a,k⟩:=DAll.reads I q c;exact⟨_,.list g j l k⟩
 | _,_,.tup h q,u,r=>by
  cases (r);obtain⟨f,c,⟨o,g,j,n,l⟩,_⟩:=I.tuple h;obtain⟨a,k⟩:=DAll.reads I q c;exact⟨_,.tuple g j l k⟩
theorem DAll.reads(I:Inv X π σ H s):∀{vs:List V}{ds:List PyData},DAll X.K H vs ds->∀{us:List Value},Vals vs us->∃as,ReadsAll s.heap us ds as
 | _,_,.nil,us,r=>by ext r;exact⟨_,.nil⟩
 | _,_,.cons h q,us,r=>by
  cases r with
  | cons r1 r2=>
   obtain⟨as,h1⟩:=DAt.reads I h r1;obtain⟨bs,h2⟩:=DAll.reads I q r2;exact⟨_,.cons h1 h2⟩
end
structure Shows(d:PyData):Prop where
 sh:d.showable=true
 nd:d.hasDict=false
 dp:d.depth<=60
 sz:d.shown.length<=sizeLine
end
def Ff(K:PySem.W.Frag)(a:Bool):R2:=λx y H Q=>∃d e,DAt K H x d/\DAt K H y e/\d.canLay0=true/\e.canLay0=true/\min d.depth e.depth<=60/\Q (.bl (if a then !PyData.eqv d e else PyData.eqv d e)) H
section
variable {X:Cx}
theorem DF(k:X.A.units+64<cLine):OpR X (compareOp .Eq) (Ff X.K false):=by
 intro π s σ H x y v u Q I i c h;obtain⟨d,e,hd,a,b,f,m,q⟩:=h;obtain⟨l,g⟩:=hd.reads I i;obtain⟨n,j⟩:=a.reads I c;exact SeqAt.compareEq_reads g j b f ∅ ⟨.bl (PyData.eqv d e),H,I,rfl,q⟩
theorem CD(k:X.A.units+64<cLine):OpR X (compareOp .NotEq) (Ff X.K true):=by
 intro π s σ H x y v u Q I i c h;obtain⟨d,e,hd,a,b,f,m,q⟩:=h;obtain⟨l,g⟩:=hd.reads I i;obtain⟨n,j⟩:=a.reads I c;exact SeqAt.compareNe_reads g j b f ∅ ⟨.bl (!PyData.eqv d e),H,I,rfl,q⟩
end
end L2
namespace L2
open PySem PySem.W PySem.Calls PyProof.Rows
def bN(K:Frag)(C:Addr):Bool:=match K.lookup C with
 | some ⟨c,_,.cls a,b⟩=>c==.type "type" && !a.hasDel&&a.hasDict&&(b.toList[4]?).join==some (.builtin "ValueError.__new__")&&!a.mro.isEmpty&&a.mro.contains (.ref C)&&a.mro.contains (.type "ValueError")&&a.mro.contains (.type "BaseException") &&
   !a.mro.contains (.type "AttributeError")&&!a.mro.contains (.type "NameError")&&specialIn K (.ref C) "__call__" == some (some (.builtin "type.__call__"))&&instIn K (.ref C) (.type "type")==some true
 | _=>false
structure MakesX(M:Model)(h:Heap)(C:Addr):Prop where
 obj:∃oc od cd sl,h.get? C=some ⟨oc,od,.cls cd,sl⟩/\cd.hasDel=false/\cd.mro.isEmpty=false
 made:Looks M h (Bind.madeBy (.ref C)) (some "ValueError.__new__")
 base:Looks M h (Bind.staticBase (.ref C)) (.ref C)
 self:Looks M h (isSubtype (.ref C) (.ref C)) true
 isV:Looks M h (isSubtype (.ref C) (.type "ValueError")) true
 isB:Looks M h (isSubtype (.ref C) (.type "BaseException")) true
 noA:Looks M h (isSubtype (.ref C) (.type "AttributeError")) false
 noN:Looks M h (isSubtype (.ref C) (.type "NameError")) false
 call:Looks M h (specialOf (.ref C) "__call__") (some (.builtin "type.__call__"))
 typ:Looks M h (isInstance (.ref C) (.type "type")) true
 ty:Looks M h (typeOf (.ref C)) (.type "type")
 isT:Looks M h (isType (.ref C)) true
theorem C7{K:Frag}{M:Model}{h:Heap}(X:K.In h){C:Addr}(e:bN K C=true):MakesX M h C:=by
 unfold bN at e;split at e
 case h_2=>ext e
 rename_i v od f D g;simp only[Jp,Kl,Mm]at e;obtain⟨⟨⟨⟨⟨⟨⟨⟨⟨⟨⟨F,x⟩,_⟩,t⟩,i⟩,u⟩,B⟩,y⟩,w⟩,z⟩,m⟩,j⟩:=e;have p:clsIn K C=some f:=by unfold clsIn;rw[g]
 have a:∀{b:Value}{r:Bool},f.mro.contains b=r->Looks M h (isSubtype (.ref C) b) r:=λ{b r} q=>looks_mroIn X (by unfold mroIn;rw[p,Li,if_neg (by rw[i];decide),q]);have n:Looks M h (mroOf (.ref C)) f.mro:=(looks_clsIn X p).andThen .now;obtain⟨c,l,o⟩:∃c l,f.mro=c::l:=by
  cases q:f.mro with
  | nil=>rw[q]at i;ext i
  | cons c l=>exact⟨c,l,rfl⟩
 have d:Looks M h (Bind.madeBy (.ref C)) (some "ValueError.__new__"):=λA Q E s k q=>by
  refine Jn (n A _ E s k ?_);rw[o,KS];refine Jn (Jn (Jn (Jn (MY (k _ _ (X _ _ g)) (Jo ?_)))));rw[<- ME,t];exact Jo (Jo (Jo q))
 refine⟨⟨v,od,f,D,X _ _ g,x,i⟩,d,λA Q E s k q=>?_,a u,a B,a y,a w,a z,looks_specialIn X m,looks_instIn X j,?_,(Looks.ld (X _ _ g)).andThen .now⟩
 ·unfold Bind.staticBase;refine Jn (n A _ E s k ?_);rw[o,KS];exact Jn (Jn (Jn (d A _ E s k (Jo (Jo (Jo q))))))
 ·subst F;exact(Looks.ld (X _ _ g)).andThen .now
abbrev A5(C t:Addr):Obj:={ cls:=.ref C,data:=.fields #[.ref t,.none,.none,.none,.bool false,.none] }
abbrev B8(vs:List Value):Obj:={ cls:=.type "tuple",data:=.seq vs.toArray }
section
variable {prog:Program}{w:World}{A:Around}{K:Frag}{C:Addr}{R:Result->Shared->Prop}{h:Heap}{g:Array GenState}{d:Drawn}{t:Nat}{os:OsState}
theorem Hm{rest:List Value}(Y:MakesX (model prog w) h C)(hrest:rest.length<=sizeLine)
  (hq:R (.ok (.ret (.ref (h.objs.size+1)))) ⟨(h.push (B8 rest)).push (A5 C h.objs.size),g,d,t,os⟩) :
  codeAny (model prog w) A (.call (.builtin "ValueError.__new__") ⟨.ref C::rest,[]⟩) R ⟨h,g,d,t,os⟩:=by
 obtain⟨⟨oc,od,cd,sl,hC,e1,e4⟩,made,base,self,isV,isB,noA,noN,call,typ,_,_⟩:=Y;have F:=MZ;refine codeAny_call_builtin_code (Code.quiet_builtin _ F.quiet) ?_;simp only[checkBuiltinCall,F.newKind,F.newSplit,F.newRow];have here:Looks (model prog w) h (Bind.madeHere "ValueError.__new__" (.ref C)) ():=base.andThen (made.andThen (Looks.of_pure (by simp only[NF,Nh,Lm,Na])))
 repeat (first | simp only[Nh,Lm,Na] | lk)
 have here2:Looks (model prog w) h (Bind.madeHere "BaseException.__new__" (.ref C)) ():=base.andThen (made.andThen (Looks.of_pure (by simp only[NF,F.canon,Nh,Lm,Na])));have ends:=F.ends;refine codeAny_builtinAt F.entry (PySem.wpAt_bind ?_);show PySem.wpAt _ _ _ (stack >>= _) _ _ _;refine PySem.wpAt_bind (PySem.wpAt_stack λp below=>PySem.wpAt_of_wpAny ?_)
 wp_walk
 refine PySem.wpAt_of_wpAny ?_;rw[F.owner]
 repeat lk
 rw[if_neg (by rw[Jv];omega)];show wpAny _ _ (newObjAsIs _ _) _ _ _;have hC2:(h.push (B8 rest)).get? C=some ⟨oc,od,.cls cd,sl⟩:=Jq _ hC;have hC3:((h.push (B8 rest)).push (A5 C h.objs.size)).get? C=some ⟨oc,od,.cls cd,sl⟩:=Jq _ hC2;unfold newObjAsIs;refine Jn (wpAny_alloc (Jo (Jn ?_)));show wpAny _ _ (newObjAsIs _ _) _ _ _;unfold newObjAsIs classHasDel;refine Jn (wpAny_alloc (Jn (Jn (wpAny_load hC3 (Jo ?_)))));rw[e1];refine Jo (Jo ?_);show R _ _;rw[KG];exact hq
theorem EO{c:List Value}{f:Addr}(Y:MakesX (model prog w) h C)(u:Looks (model prog w) h (typeLookup (.ref C) "__init__") (some (.ref f)))
  (G:∀i,Looks (model prog w) h (bindSpecial (.ref f) i) (.ref f,[i])) (j:c.length<=sizeLine)
  (B:codeAny (model prog w) (A.under (.builtin "type.__call__" ⟨.ref C::c,[]⟩)) (.call (.ref f) ⟨.ref (h.objs.size+1)::c,[]⟩) (InitBack (h.objs.size+1) R) ⟨(h.push (B8 c)).push (A5 C h.objs.size),g,d,t,os⟩) :
  codeAny (model prog w) A (.call (.ref C) ⟨c,[]⟩) R ⟨h,g,d,t,os⟩:=by
 have D:=Y;obtain⟨⟨L,od,s,O,q,M,I⟩,p,n,i,x,F,E,H,l,m,_,_⟩:=Y;refine NG ?_;refine nd_load q (show wpAny _ _ (callAny.viaDunder (.ref C) _) _ _ _ from ?_);refine Jn (l.at ?_);dsimp only;rw[tc_bind];refine Jn (Jo (Jn (Jo (Jo (a:=Fin.again (.call (.builtin "type.__call__") ⟨.ref C::c,[]⟩)) (And.intro rfl ?_)))));refine codeAny_call_builtin_at (Code.quiet_builtin _ (by decide +kernel)) entry_typeCall (check_slot tc_kind tc_split m (tc_args _ _ _) ?_);have J:Looks (model prog w) h (mroOf (.ref C)) s.mro:=((Looks.ld q).andThen .now).andThen .now
 repeat (first | simp only[I,Lm,Na] | with_reducible refine LP ?_ | lk)
 refine Hm D j ?_;have k:∀b o,h.get? b=some o->((h.push (B8 c)).push (A5 C h.objs.size)).get? b=some o:=λb o e=>Jq _ (Jq _ e);have y:((h.push (B8 c)).push (A5 C h.objs.size)).get? (h.objs.size+1)=some (A5 C h.objs.size):=by heap_get
 have Q:Looks (model prog w) ((h.push (B8 c)).push (A5 C h.objs.size)) (typeOf (.ref (h.objs.size+1))) (.ref C):=(Looks.ld y).andThen .now;have N:=i.keeps k;have P:=u.keeps k;have K:=(G (.ref (h.objs.size+1))).keeps k
 repeat (first | with_reducible refine LP ?_ | lk)
 refine Ld B λr s' z=>?_;rcases r with e | (v | _ | _ | _) <;> first | exact z | exact z.elim | skip
 obtain⟨rfl,z⟩:=z;exact Jo (Jo z)
end
end L2
namespace L2
open PySem PySem.W PySem.Calls PyProof.Rows Builtin Builtin.ObjectAttr
theorem tK:builtinKind "BaseException.__getattribute__" = some .slot:=by decide +kernel
theorem nZ:splitId "BaseException.__getattribute__" = some ("BaseException","__getattribute__"):=by decide +kernel
theorem mj:plainId "BaseException.__getattribute__" = true:=by decide +kernel
section
variable {prog:Program}{w:World}{A:Around}{R:Result->Shared->Prop}{s:Shared}{x:Addr}{name:Str}{t:Tok}
theorem rV(c:Looks (model prog w) s.heap (isInstance (.ref x) (.type "BaseException")) true)
  (h:wpAny (model prog w) A.in1 (Builtin.«object.__getattribute__» ⟨[.ref x,.str name t],[]⟩) (λa s'=>match a with | .done f=>R (.ok f) s' | .again b=>b.quiet=true/\codeAny (model prog w) A b R s') (λe s'=>R (.error e) s') s) :
  codeAny (model prog w) A (.call (.builtin "BaseException.__getattribute__") ⟨[.ref x,.str name t],[]⟩) R s:=
 LS mj PySem.F.entry_bexc_ga (@check_slot (model prog w) _ _ _ "BaseException.__getattribute__" "BaseException" "__getattribute__" (.ref x) [.str name t] [] _ tK nZ c (PySem.F.args_bexc_ga (.ref x) (.str name t)) h)
end
section
variable {prog:Program}{w:World}{A:Around}{E:Value->Shared->Prop}{s:Shared}{K:Frag}{x C:Addr}{ox:Obj}{od:Option Obj}{name:Str}{expr:Bool}{Q:Value->Shared->Prop}
structure XCls(K:Frag)(C:Addr):Prop where
 ga:findIn K (.ref C) "__getattribute__" = some (some (.builtin "BaseException.__getattribute__"))
 gg:findIn K (.ref C) "__getattr__" = some none
 be:mroIn K C (.type "BaseException")=some true
 ob:mroIn K C (.type "object")=some true
 hd:hasDictIn K C=true
 cl:findIn K (.ref C) "__class__" = some (some (.builtin "object.__class__"))
 cg:specialIn K (.builtin "object.__class__") "__get__" = some (some (.builtin "getset_descriptor.__get__"))
 ct:takesIn K (.builtin "object.__class__")=some true
theorem DD{b:Bool}{t:Tok}(X:K.In s.heap)(I:InstAt s.heap x ox C od)(c:XCls K C)
  (h:wpAny (model prog w) A.in1 (Builtin.«object.__getattribute__» ⟨[.ref x,.str name t],[]⟩) (λa s'=>match a with | .done (.ret v)=>wpAny (model prog w) A (handedOut v) Q E s' | _=>False) (λ_ _=>False) s) :
  wpAny (model prog w) A (getAttrBy (.ref x) (.str name t) b expr) Q E s:=by
 obtain⟨l,g,d,p,n⟩:=s;have f:=I.type (M:=model prog w);have j:=looks_findIn (M:=model prog w) X c.ga;have o:=looks_findIn (M:=model prog w) X c.gg;have i:Looks (model prog w) l (isInstance (.ref x) (.type "BaseException")) true:=f.andThen (looks_mroIn X c.be);have k:=(PySem.F.attrBase_ValueError).ga.bind (.ref x);have e:(expr&&onTheHeap (Value.builtin "BaseException.__getattribute__"))=false:=by ext expr <;> rfl
 have m:(Value.builtin "BaseException.__getattribute__" == Value.builtin "object.__getattribute__")=false:=by decide +kernel
 refine Kf (Jn (f.at (Jn (j.at ?_))))
 repeat (first | simp | lk)
 refine Nm (Kf ?_);unfold callGetattribute;rw[e];refine Jn (ML k ?_);refine LP (rV i ?_);refine JO h (λa s' z=>?_) λ_ _ z=>z.elim;rcases a with (v | _ | _ | _) | _ <;> first | exact z | exact z.elim
theorem gR(a:XCls K C):findObj K C od "__class__" = some (.bind (.builtin "getset_descriptor.__get__") (.builtin "object.__class__")):=by
 obtain⟨c,b,_⟩:=any_some a.hd;unfold findObj;rw[b,Li,a.cl,Li];dsimp only;rw[a.cg,Li];dsimp only;rw[a.ct];rfl
theorem Br(X:K.In s.heap)(I:InstAt s.heap x ox C od)(a:XCls K C)(h:R (some (.ref C)) { s with toks:=s.toks+1 }):wpAny (model prog w) A (getAttr? (.ref x) "__class__") R E s:=by
 have e:=gR (od:=od) a;obtain⟨i,g,d,t,f⟩:=s;have b:=I.type (M:=model prog w);have c:=looks_find (M:=model prog w) X I e;refine Jn (wpAny_mkText (Jn (Nm (DD X I a ?_))));refine Jn (Jo (Jn (Jo (Jn (b.at (Jn (c.at ?_)))))));refine Jn (Kf (LP (class_get X I a.ob ?_)));refine Jo ?_;exact handed_on rfl (Jo h)
theorem Iz(c:XCls K C):KitX K (.ref x) (.ref C) (λh=>∃ox od,InstAt h x ox C od) where
 ty:=λ_ _ _ ⟨_,_,I⟩=>I.type
 it:=λ_ _ X _=>by
  obtain⟨j,a,_⟩:=any_some c.hd;unfold clsIn at a;split at a
  ·rename_i m e d g f;exact λo r s s' k q=>by
    exact Jn (MY (k _ _ (X _ _ f)) (Jo q))
  ·ext a
 ne:=λh l p i n g X b=>by
  obtain⟨j,a,_⟩:=any_some c.hd;refine Bool.eq_false_iff.mpr λq=>?_;obtain rfl:C=l:=Value.ref.inj (Mm.mp q);unfold clsIn at a;split at a
  ·rename_i m e d g f;have z:=(X _ _ f).symm.trans b;ext z
  ·ext a
 ca:=λX ⟨_,_,I⟩ k=>Br X I c k
end
def A6:List Value->Bool
 | .ref _::r=>A6 r
 | l=>l==[.type "ValueError",.type "Exception",.type "BaseException",.type "object"]
theorem E9(a:Value):∀{l:List Value},A6 l=true->refuseLoop a "__setattr__" l=pure ()
 | .ref c::r,e=>by rw[refuseLoop_ref];exact E9 a e
 | [],e=>by ext e
 | .none::r,e=>by ext e
 | .type n::r,e=>by rw[Mm.mp e];exact PySem.F.store_ValueError.passes a
 | .bool _::_,e=>by ext e
 | .int _ _::_,e=>by ext e
 | .str _ _::_,e=>by ext e
 | .bytes _ _::_,e=>by ext e
 | .float _ _::_,e=>by ext e
 | .builtin _::_,e=>by ext e
 | .ellipsis::_,e=>by ext e
 | .notImplemented::_,e=>by ext e
section
variable {prog:Program}{w:World}{A:Around}{E:Value->Shared->Prop}{s:Shared}{K:Frag}{x C:Addr}{ox:Obj}{od:Option Obj}{name:Str}{R:Result->Shared->Prop}{v:Value}
theorem FZ(X:K.In s.heap)(I:InstAt s.heap x ox C od)(k:XCls K C)(o:(clsIn K C).any (λd=>A6 d.mro)=true)(j:findIn K (.ref C) name=some none)
  (h:∀b,wpAny (model prog w) A.in1 (storeInOwnDict (.ref x) (.ref C) (.str name tk) name v b) (λc s'=>match c with | .done f=>R (.ok f) s' | .again i=>i.quiet=true/\codeAny (model prog w) A i R s') (λe s'=>R (.error e) s') s) :
  codeAny (model prog w) A (.call (.builtin "object.__setattr__") ⟨[.ref x,.str name tk,v],[]⟩) R s:=by
 have a:=PySem.F.store_object;obtain⟨d,n,l⟩:=any_some o;have g:Looks (model prog w) s.heap (isInstance (.ref x) (.type "object")) true:=I.type.andThen (looks_mroIn X k.ob);have m:Looks (model prog w) s.heap (mroOf (.ref C)) d.mro:=(looks_clsIn X n).andThen .now;refine LS a.slot.plain a.entry (@check_slot (model prog w) _ _ s "object.__setattr__" "object" "__setattr__" (.ref x) [.str name tk,v] [] _ a.kind a.split g (a.args (.ref x) (.str name tk) v) ?_);rw[osa_eq,refuse_eq];refine Jn (Jn (I.type.here (Jn (m.here ?_))));rw[E9 _ l];exact Jo (Jn (I.type.here (Jn ((looks_findIn X j).here (Jn (Jo (h _)))))))
def tbV:Option Addr->Value
 | none=>.none
 | some T=>.ref T
def IsX(a:Option Addr)(h:Heap)(x C:Addr)(d:Option Addr):Prop:=∃vs,h.get? x=some { cls:=.ref C,dict:=d,data:=.fields vs }/\vs.size=6/\vs[1]?=some (tbV a)
theorem IsX.inst0(i:IsX fr h x C none):∃ox,InstAt h x ox C none:=by
 obtain⟨vs,e,_⟩:=i;exact⟨_,e,rfl,rfl,True.intro⟩
theorem IsX.inst1(i:IsX fr h x C (some d)){o:Obj}(hd:h.get? d=some o):∃ox,InstAt h x ox C (some o):=by
 obtain⟨vs,e,_⟩:=i;exact⟨_,e,rfl,rfl,hd⟩
theorem EY(X:K.In s.heap)(i:IsX fr s.heap x C none)(t:XCls K C)(B:(clsIn K C).any (λr=>A6 r.mro)=true)(hs:findIn K (.ref C) "__setattr__" = some (some (.builtin "object.__setattr__"))) (u:findIn K (.ref C) name=some none)
  (h:∀h' t',IsX fr h' x C (some s.heap.objs.size)->h'.Ns1 s.heap.objs.size (λy=>if y=name then some v else none)->(∀b o,b≠x->s.heap.get? b=some o->h'.get? b=some o)->Q () { s with heap:=h',toks:=t' }):wpAny (model prog w) A (setAttr (.ref x) name v) Q E s:=by
 obtain⟨ox,I⟩:=i.inst0;obtain⟨vs,a,hsz⟩:=i;obtain⟨r,D,hd⟩:=any_some t.hd;refine set_plain X I hs (FZ X I t B u λb=>?_);refine Jn (Jo (Jn (Jn (MY a (Jn (Looks.here (looks_clsIn X D) ?_))))));rw[hd];have f:=JF (Jx a);have d:(s.heap.push { cls:=.type "dict",data:=.dict #[] }).get? x=some { cls:=.ref C,data:=.fields vs }:=Jq _ a;refine Jn (wpAny_alloc (Jn (wpAny_update d (Jo ?_))));have p:((s.heap.push { cls:=.type "dict",data:=.dict #[] }).update x λo=>{ cls:=o.cls,dict:=some s.heap.objs.size,data:=o.data,slots:=o.slots }).get? s.heap.objs.size=some { cls:=.type "dict",data:=.dict #[] }:=
  (Md _ _ _ _ f.symm).trans (Heap.get?_push_at rfl rfl)
 have n:((s.heap.push { cls:=.type "dict",data:=.dict #[] }).update x λo=>{ cls:=o.cls,dict:=some s.heap.objs.size,data:=o.data,slots:=o.slots }).get? x=some { cls:=.ref C,dict:=some s.heap.objs.size,data:=.fields vs }:=
  Kj _ d rfl
 have m:∀b o,b≠x->s.heap.get? b=some o->((s.heap.push { cls:=.type "dict",data:=.dict #[] }).update x λo=>{ cls:=o.cls,dict:=some s.heap.objs.size,data:=o.data,slots:=o.slots }).get? b=some o:=
  λb o l e=>(Md _ _ _ _ l).trans (Jq _ e)
 have q:((s.heap.push { cls:=.type "dict",data:=.dict #[] }).update x λo=>{ cls:=o.cls,dict:=some s.heap.objs.size,data:=o.data,slots:=o.slots }).Ns s.heap.objs.size (λ_=>none):=
  ⟨_,#[],_,p,rfl,λe F=>absurd F (by simp),λ_=>rfl⟩
 generalize ((s.heap.push { cls:=.type "dict",data:=.dict #[] }).update x λo=>{ cls:=o.cls,dict:=some s.heap.objs.size,data:=o.data,slots:=o.slots })=h1 at p n m q ⊢;refine Jn (Jo (Jn (wpAny_nsSet1 (Heap.Ns1.of_empty q) λh' c hs'=>?_)));obtain⟨H,G,z,g,j,k⟩:=c.count (Within.cons name v Within.nil);refine Jn (wpAny_lookBehind g (by rw[j];exact pastItsLine_dict (JW k (by rw[KL,List.length_nil,JS];omega))) (Jo ?_));exact h h' _ ⟨vs,(hs'.2 x f).trans n,hsz⟩ c λb o l e=>(hs'.2 b (JF (Jx e))).trans (m b o l e)
theorem Gk{d:Addr}{mA:Str->Option Value}{ns:List Str}(X:K.In s.heap)(i:IsX fr s.heap x C (some d))(hd:s.heap.Ns1 d mA)(o:d≠x)(l:XCls K C)(t:(clsIn K C).any (λm=>A6 m.mro)=true)(hs:findIn K (.ref C) "__setattr__" = some (some (.builtin "object.__setattr__"))) (n:findIn K (.ref C) name=some none)
  (u:Within mA ns) (hz:ns.length<=1000)
  (h:∀h' t',h'.Ns1 d (λy=>if y=name then some v else mA y)->Heap.SameBut d s.heap h'->Q () { s with heap:=h',toks:=t' }):wpAny (model prog w) A (setAttr (.ref x) name v) Q E s:=by
 obtain⟨od,e,z⟩:=bi hd;obtain⟨ox,I⟩:=i.inst1 e;obtain⟨vs,k,hsz⟩:=i;obtain⟨m,p,j⟩:=any_some l.hd;refine set_plain X I hs (FZ X I l t n λb=>?_);refine Jn (Jo (Jn (Jn (MY k (Jn (Looks.here (looks_clsIn X p) ?_))))));rw[j];refine Jo ?_;refine Jn (Jo (Jn (wpAny_nsSet1 hd λh' a hs'=>?_)));obtain⟨B,r,q,c,f,g⟩:=a.count (Within.cons name v u);refine Jn (wpAny_lookBehind c (by rw[f];exact pastItsLine_dict (JW g (by rw[KL,JS];omega))) (Jo ?_));exact h h' _ a hs'
end
section
variable {prog:Program}{w:World}{A:Around}{E:Value->Shared->Prop}{s:Shared}{K:Frag}{x C:Addr}{d:Option Addr}{R:Result->Shared->Prop}{y:Value}
theorem EQ{l:Option Addr}(X:K.In s.heap)(i:IsX l s.heap x C d)(p:bN K C=true)
  (h:∀h',(∀b o,b≠x->s.heap.get? b=some o->h'.get? b=some o)->IsX l h' x C d->R (.ok (.ret .none)) { s with heap:=h' }) :
  codeAny (model prog w) A (.call (.builtin "ValueError.__init__") ⟨[.ref x,y],[]⟩) R s:=by
 have F:=MZ;obtain⟨vs,a,hsz,f⟩:=i;have n:Looks (model prog w) s.heap (typeOf (.ref x)) (.ref C):=(Looks.ld a).andThen .now;have Y:=C7 (M:=model prog w) X p;have g:Looks (model prog w) s.heap (isInstance (.ref x) (.type "ValueError")) true:=n.andThen Y.isV;obtain⟨v,t,u,B,z,_,_⟩:=Y.obj;have m:=F.noStar;refine LS F.init.plain F.initEntry ?_;simp only[checkBuiltinCall,F.initKind,F.initSplit,F.initRow];refine Jn (g.here ?_);simp only[Bool.not_true,Lm,Na];have k:(s.heap.push { cls:=.type "tuple",data:=.seq #[y] }).get? x=some { cls:=.ref C,dict:=d,data:=.fields vs }:=Jq _ a;obtain⟨j,q⟩:∃j,vs[0]?=some j:=⟨vs[0]'∅,LZ _⟩;have c:R (.ok (.ret .none)) { s with heap:=(s.heap.push { cls:=.type "tuple",data:=.seq #[y] }).update x (Obj.mapFields (·.setIfInBounds 0 (.ref s.heap.objs.size))) }:=by
  refine h _ (λb o r e=>(Md _ _ _ _ r).trans (Jq _ e)) ⟨vs.setIfInBounds 0 (.ref s.heap.objs.size),Kj _ k rfl,?_⟩;rw[Array.size_setIfInBounds];exact⟨hsz,by rw[Array.getElem?_setIfInBounds_ne ⋯];exact f⟩
 unfold Bind.checkArgs
 repeat lk
 rw[q];refine Jo (Jn (LD k rfl ∅ ?_));ext j <;> first | exact Jo (Jo c) | exact wpAny_letGo (Jo c)
end
end L2
namespace L2
open PySem PySem.Spec PyProof.Rows
def Q7(a:Option Addr)(x C:Addr)(d:Option Addr):HO:=.ext λh=>IsX a h x C d
abbrev O9(x C:Addr)(d:Option Addr):HO:=Q7 none x C d
def N6(d:Addr)(fs:List (Str×V)):HO:=.ext λh=>∃mA,h.Ns1 d mA/\(∀f,RelO (fs.lookup f) (mA f))/\PySem.Within mA (fs.map (·.1))/\fs.length<=900
theorem okX{h:Heap}{x C:Addr}{d:Option Addr}(i:IsX fr h x C d):ObjOk P w H h x (Q7 fr x C d):=by
 obtain⟨vs,e,z⟩:=id i;refine⟨i,⟨_,e⟩,λf g ⟨a,c,b⟩ k=>⟨a,k _ c,b⟩⟩
theorem okD{mA:Str->Option Value}(n:h.Ns1 d mA)(r:∀f,RelO (fs.lookup f) (mA f))(g:PySem.Within mA (fs.map (·.1)))(l:fs.length<=900):ObjOk P w H h d (N6 d fs):=by
 obtain⟨o,es,p,e,q⟩:=id n;exact⟨⟨mA,n,r,g,l⟩,⟨o,e⟩,λm s ⟨a,i,j,b,c⟩ k=>⟨a,i.at k,j,b,c⟩⟩
structure XC(K:PySem.W.Frag)(C:Addr):Prop where
 xc:XCls K C
 ex:bN K C=true
 vm:(PySem.W.clsIn K C).any (λcd=>A6 cd.mro)=true
 sa:PySem.W.findIn K (.ref C) "__setattr__" = some (some (.builtin "object.__setattr__"))
 kp:PySem.W.keepIn K (.ref C)=true
section
variable {X:Cx}{π:List (Addr×Obj)}{σ:St}{H:Hp}{s:Shared}{x C:Addr}
theorem Inv.isX{a:Option Addr}{d:Option Addr}(I:Inv X π σ H s)(e:H x=some (Q7 a x C d)):IsX a s.heap x C d:=(I.hok x _ e).1
theorem Inv.isD(I:Inv X π σ H s)(e:H d=some (N6 d fs)):∃mA,s.heap.Ns1 d mA/\(∀f,RelO (fs.lookup f) (mA f))/\PySem.Within mA (fs.map (·.1))/\fs.length<=900:=(I.hok d _ e).1
theorem Inv.madeX(I:Inv X π σ H s):Inv X π σ (upd H (s.heap.objs.size+1) (O9 (s.heap.objs.size+1) C none)) { s with heap:=(s.heap.push (B8 us)).push (A5 C s.heap.objs.size) }:=by
 have a:((s.heap.push (B8 us)).push (A5 C s.heap.objs.size)).get? (s.heap.objs.size+1)=some (A5 C s.heap.objs.size):=by
  have:=JG (s.heap.push (B8 us)) (o:=A5 C s.heap.objs.size) rfl;rwa [KG]at this
 exact I.laid (λb u q=>Jq _ (Jq _ q)) (KM _) (okX ⟨_,a,rfl,rfl⟩)
end
def Bg(C:Addr)(sp:Sp)(E:XK)(t:TA):TE:=λσ H Q=>t σ H λvs a=>vs.length<=1000/\∀x,a x=none->sp (.ref x::vs) (upd a x (O9 x C none)) (λv b=>v=.non/\Q (.ref x) b) E
section
variable {X:Cx}{CX:CXT}{k:Nat}{f C:Addr}{fd:FuncData}{ps:List Str}{sp:Sp}{E:XK}{nm:Str}{p pos:Pos}{e:Expr}{es:List Expr}{t:TA}
theorem bJ(M:XC X.K C)(hi:PySem.W.findIn X.K (.ref C) "__init__" = some (some (.ref f))) (hf:PySem.W.isFn X.K (.ref f)=true) (F:FnOk X.prog X.w X.K X.mg X.base CX k f fd ps sp) (hr:Room CX.q (k+1) X.A) (hg:Gl X nm) (hm:X.mg nm=some (.ref C)) (hb:Binds X.K fd ps []) (hx:B9 CX X E)
  (ha:PA X (e::es) t) (hdb:(nm==("__debug__" : Str))=false:=by decide) (he:starEach (e::es) X.env=(false,eval e X.env)::starEach es X.env:=by rfl) (hpl:(backTo pos (starEach es X.env)).any (·.1)=false:=by rfl) :
  PE X (.Call (.Name nm p) (e::es) [] pos) (Bg C sp E t):=by
 intro π s σ H Q I h;refine Kr (E2 I hg hm ?_ hdb);refine Mn I.ok.mod.kin M.kp (thn (ha pos π s σ H _ I h) λus s1 ⟨vs,H1,I1,r,hl,q⟩=>⟨I1.kIn,?_⟩) he hpl;have hq:=q (s1.heap.objs.size+1) (I1.hok.fresh (KM _));have I2:=Inv.madeX (C:=C) (us:=us) I1;have r2:Vals (V.ref (s1.heap.objs.size+1)::vs) (Value.ref (s1.heap.objs.size+1)::us):=.cons rfl r;have hlen:(Value.ref (s1.heap.objs.size+1)::us++[]).length=ps.length:=by
  have e:=r2.length;rw[F.len _ _ _ _ hq]at e;simpa using e.symm
 have hus:us.length<=sizeLine:=by
  have:=r.length;have z:(1000:Nat)<=sizeLine:=by decide
  omega
 have hb2:=hb _ (Value.ref (s1.heap.objs.size+1)::us) I2.kIn hlen;rw[Kc]at hb2;refine LP (EO (C7 I1.kIn M.ex) (PySem.W.looks_findIn I1.kIn hi) (λself=>PySem.W.bind_fn I1.kIn self (Mm.mp hf)) hus
  (Ld (F.run _ X.stack _ _ ⟨Value.ref (s1.heap.objs.size+1)::us,[]⟩ _ _ _ E (hr.make C us []) (I2.env0.make C us []) hb2 r2 hq) λr s' hq'=>?_))
 cases r with
 | error e=>exact hx π σ _ _ e s' I2 hq'
 | ok fl=>
  cases fl with
  | ret u=>
   obtain⟨v,H',I3,rv,ev,q3⟩:=I2.after hq';subst ev;exact⟨rv,⟨V.ref (s1.heap.objs.size+1),H',I3,rfl,q3⟩⟩
  | next=>exact False.elim hq'
  | brk=>exact False.elim hq'
  | cont=>exact False.elim hq'
end
theorem rl{o:HO}(h:H x=some o):upd H x o=H:=funext λb=>by
 by_cases e:b=x
 ·subst e;rw[b8,h]
 ·rw[a8 e]
def Fe(K:PySem.W.Frag)(e g:TE)(f:Str):TS:=λD σ H=>g σ H λy b=>e σ b λc a=>∃x C,c=.ref x/\XC K C/\z9 K C f /\
 ((a x=some (O9 x C none)/\∀d,a d=none->D.nx σ (upd (upd a d (N6 d [(f,y)])) x (O9 x C (some d)))) \/
 ∃d fs,d≠x/\a x=some (O9 x C (some d))/\a d=some (N6 d fs)/\fs.length<900/\D.nx σ (upd a d (N6 d (J8 f y fs))))
section
variable {X:Cx}{o e value:Expr}{f:Str}{pos pos':Pos}{ta tv:TE}
theorem dZ(ha:PE X o ta)(hv:PE X value tv)(hs:swapsWith value (some (.Attribute o f pos')) pos.line X.env=pure false):PS X (.Assign [.Attribute o f pos'] value pos) (Fe X.K ta tv f):=by
 intro π s σ H D I h;refine plainObj_wpAny_Assign_Attribute (thn (hv π s σ H _ I h) λu s1 ⟨y,H1,I1,ry,q⟩=>thn (ha π s1 σ H1 _ I1 q) λov s2 ⟨xv,H2,I2,rx,x,C,ex,M,n,q2⟩=>?_) hs;subst ex;obtain rfl:ov=Value.ref x:=rx;rcases q2 with ⟨e0,q2⟩ | ⟨d,fs,hdx,e0,e1,hl,q2⟩
 ·have i0:=I2.isX e0;obtain⟨vs0,hx0,_⟩:=id i0;have nd:=I2.hok.fresh (Ju _);have hne:=Nat.ne_of_gt (Jx hx0);refine EY I2.kIn i0 M.xc M.vm M.sa n λh' t' i1 n1 k1=>?_;obtain⟨vs1,hx1,_⟩:=id i1;obtain⟨oD,esD,epD,hoD,rD⟩:=id n1;have m1:(h'.update x λ_=>{ cls:=.ref C,data:=.fields vs0 }).get? x=some { cls:=.ref C,data:=.fields vs0 }:=Kj _ hx1 rfl;have m2:∀b,b≠x->(h'.update x λ_=>{ cls:=.ref C,data:=.fields vs0 }).get? b=h'.get? b:=λb hb=>Md _ _ _ _ hb;have I3:Inv X π σ (upd H2 s2.heap.objs.size (N6 s2.heap.objs.size [(f,y)])) { s2 with heap:=h'.update x λ_=>{ cls:=.ref C,data:=.fields vs0 },toks:=t' }:=by
   refine I2.laid (λb ob e=>?_) (Ju _) (okD (n1.at λob e=>(m2 _ hne).trans e) (λg=>?_) (λg hg=>?_) (by show 1<=900;decide))
   ·grind
   ·show RelO (List.lookup g [(f,y)]) (if g=f then some u else none);rw[LV,List.lookup_nil];by_cases q:g=f
    ·subst q;rw[if_pos rfl,show(g==g)=true from by simp];exact ry
    ·have:(g==f)=false:=by simpa using q
     rw[this,if_neg q];exact True.intro
   ·grind
  have I4:=I3.write (t':=t') (by rw[a8 hne.symm,e0];exact True.intro) (.inl rfl) (λb ob hb e=>((m2 b hb).symm.trans e)) ⟨_,hx1⟩ (okX i1);exact⟨σ,_,I4,q2 _ nd⟩
 ·obtain⟨mA,n0,r0,w0,l0⟩:=I2.isD e1;refine Gk I2.kIn (I2.isX e0) n0 hdx M.xc M.vm M.sa n w0 (by rw[Jr];omega) λh' t' n1 sb=>?_;obtain⟨oD,esD,epD,hoD,rD⟩:=id n1;refine⟨σ,_,I2.write (by rw[e1];exact True.intro) (.inl rfl) (λb ob hb e=>(sb.2 b hb).trans e) ⟨_,hoD⟩ (okD n1 (λg=>?_) (λg hg=>?_) ?_),q2⟩
  ·show RelO ((J8 f y fs).lookup g) (if g=f then some u else mA g);rw[W1];by_cases q:g=f
   ·rw[if_pos q,if_pos q];exact ry
   ·grind
  ·by_cases q:g=f
   ·rw[q];exact(U1 f y fs).1
   ·exact(U1 f y fs).2 g (w0 g λz=>hg (by show(if g=f then some u else mA g)=none;rw[if_neg q];exact z))
  ·have:=V4 f y fs;omega
def EV:V->Option Value
 | .ref a=>some (.ref a)
 | .ty n=>some (.type n)
 | _=>none
theorem cb:k5 X (.builtin "isinstance") (λxs H Q=>∃g x C d y c b,xs=[.ref x,y]/\XC X.K C/\H x=some (Q7 g x C d)/\(∀d',d=some d'->∃fs,H d'=some (N6 d' fs))/\EV y=some c/\PySem.W.kitOne X.K (.ref C) c=some b/\Q (.bl b) H):=by
 intro π s σ H xs us Q I r h;obtain⟨g,x,C,d,y,c,b,rfl,M,f,hd,i,o,q⟩:=h;obtain⟨u,k,rfl,l,e⟩:=kY r;cases (l);have m:k=c:=by
  ext y <;> first | (ext i;exact e) | ext i
 subst m;have J:∃ox od,PySem.W.InstAt s.heap x ox C od:=by
  cases d with
  | none=>obtain⟨ox,J⟩:=(I.isX f).inst0;exact⟨ox,_,J⟩
  | some d'=>
   obtain⟨fs,n⟩:=hd d' rfl;obtain⟨mA,j,_⟩:=I.isD n;obtain⟨od,a,_⟩:=bi j;obtain⟨ox,J⟩:=(I.isX f).inst1 a;exact⟨ox,_,J⟩
 exact KU (Iz M.xc) I.kIn J o (λz=>nomatch z) λp=>⟨.bl b,H,I.tok _,rfl,q⟩
end
def TbO(T:Addr):HO:=.ext λh=>∃o a,h.get? T=some o/\o.data=.fields a/\3<a.size
theorem okT{o:Obj}{a:Array Value}(e:h.get? T=some o)(d:o.data=.fields a)(z:3<a.size):ObjOk P w H h T (TbO T):=
 ⟨⟨o,a,e,d,z⟩,⟨o,e⟩,λc b ⟨o,a,e,d,z⟩ k=>⟨o,a,k _ e,d,z⟩⟩
structure Fx(K:PySem.W.Frag)(H:Hp)(a C:Addr)(d tb:Option Addr):Prop where
 xc:XC K C
 at_:H a=some (Q7 tb a C d)
 dc:∀d',d=some d'->d'≠a/\∃fs,H d'=some (N6 d' fs)
 tb_:∀T,tb=some T->T≠a/\H T=some (TbO T)
def Mv(H:Hp)(a C:Addr)(d:Option Addr)(H':Hp):Prop:=(∀b o,b≠a->H b=some o->H' b=some o)/\∃c,H' a=some (Q7 c a C d)
section
variable {X:Cx}{π:List (Addr×Obj)}{σ:St}{H:Hp}{s:Shared}{a C T:Addr}{d tb:Option Addr}{A:Around}{E:Value->Shared->Prop}{Q:Unit->Shared->Prop}
theorem Inv.slots(I:Inv X π σ H s)(hs:Heap.SlotsOnly (frs X.stack) s.heap h'):Inv X π σ H { s with heap:=h' }:=by
 have k:∀b u,H b≠none->s.heap.get? b=some u->h'.get? b=some u:=λb u n e=>(hs.2.1 b λz=>n (I.stkFree b z)).trans e;have f:Un (frs X.stack) [] H H s.heap h':=⟨λb o e _ g _=>(hs.2.1 b g).trans e,λb o e _ _ _=>hs.2.2 b o e,λ_ _ _ n _=>n,λb o e _=>let ⟨h,q⟩:=hs.2.2 b o e;⟨_,q⟩,λ_ _ e=>e,λ_ _ _ e=>e,λb ps e=>⟨#[],by rw[e];simp⟩⟩;have d:=λb u e=>(I.hok b u e).stay (λc v a q=>k c v (by
  rcases a with a | a
  ·rw[a,e];simp
  ·rw[a];simp) q) (λ_ q=>q) λ_ _ q=>q
 exact I.call f d I.bare λb z=>absurd z (by simp)
theorem Fx.isX(b:Fx X.K H a C d tb)(I:Inv X π σ H s):IsX tb s.heap a C d:=I.isX b.at_
theorem Inv.setTb(I:Inv X π σ H s)(e:H T=some (TbO T))(k:Inv X π σ H { s with heap:=s.heap.update T (Obj.mapFields (·.setIfInBounds 3 v)) }->Q () { s with heap:=s.heap.update T (Obj.mapFields (·.setIfInBounds 3 v)) }) :
  wpAny (model X.prog X.w) A (setField (.ref T) 3 v) Q E s:=by
 obtain⟨o,g,c,f,z⟩:=(I.hok T _ e).1;refine LD c f z (k ?_);have hd:=Obj.data_mapFields f (·.setIfInBounds 3 v);have d:=Kj (Obj.mapFields (·.setIfInBounds 3 v)) c (Obj.isFreed_of_fields hd);have a:=I.write (t':=s.toks) (by rw[e];exact True.intro) (.inl rfl) (λb u n q=>(LI _ _ (Ne.symm n)).trans q) ⟨_,d⟩ (okT d hd (by simpa using z));rw[rl e]at a;exact a
theorem gO(I:Inv X π σ H s)(r:A.frames=some X.stack)(i:X.stack=X.env::X.outer)(x:X.env.frame=some X.env.locals)(j:Fx X.K H a C d tb)
  (h:∀H' s' T,Inv X π σ H' s'->Fx X.K H' a C d (some T)->Mv H a C d H'->Q () s') :
  wpAny (model X.prog X.w) A (do let B <- frameOf X.env;let pl <- entryPlaceOf X.env.locals hadNext;let b <- EntryCells.newEntry head B .none (rawInt X.env.locals) .none pl;setField (.ref a) 1 b) Q E s:=by
 have p:=I.stack;rw[i]at p r;refine Jn (wpAny_frameOf_fun r p x λc e=>?_);have v:=I.slots (by rw[i];exact e);refine Jn (wpAny_entryPlaceOf λpl l=>?_);refine Jn (JT ?_ (l.sizeOk5 _ _ _ _ _));have D:=JG c (o:={ cls:=.type "traceback",dict:=none,data:=.fields ([head,.ref X.env.locals,.none,rawInt X.env.locals,.none]++(if pl.isEmpty then List.replicate 6 Value.none else pl)).toArray }) rfl;have m:=v.laid (t':=s.toks) (λb u q=>Jq _ q) (Ju _)
  (okT D rfl (by simp <;> omega))
 have k:=v.hok.fresh (Ju _);have f:c.objs.size≠a:=λz=>by rw[z,j.at_]at k;ext k
 have t:upd H c.objs.size (TbO c.objs.size) a=some (Q7 tb a C d):=by rw[a8 f.symm];exact j.at_
 generalize (c.push { cls:=.type "traceback",dict:=none,data:=.fields ([head,.ref X.env.locals,.none,rawInt X.env.locals,.none]++(if pl.isEmpty then List.replicate 6 Value.none else pl)).toArray })=h₂ at m ⊢;obtain⟨vs,g,hsz,F⟩:=m.isX t;refine LD g rfl ∅ ?_;have w:=Kj (Obj.mapFields (·.setIfInBounds 1 (Value.ref c.objs.size))) g rfl;have y:=m.write (t':=s.toks) (o:=Q7 (some c.objs.size) a C d) (by rw[t];exact True.intro) (.inl rfl)
  (λb u n q=>(LI _ _ (Ne.symm n)).trans q) ⟨_,w⟩ (okX ⟨_,w,by simpa using hsz,by simp[tbV,hsz]⟩)
 refine h _ _ c.objs.size y ⟨j.xc,b8,λd' z=>?_,λT z=>?_⟩ ⟨λb o n q=>?_,_,b8⟩
 ·obtain⟨n,fs,q⟩:=j.dc d' z;exact⟨n,fs,by rw[a8 n,a8 (b9 q k)];exact q⟩
 ·ext z;exact⟨f,by rw[a8 f];exact b8⟩
 ·rw[a8 n,a8 (b9 q k)];exact q
theorem jN(I:Inv X π σ H s)(i:A.frames=some X.stack)(f:X.stack=X.env::X.outer)(g:X.env.frame=some X.env.locals)(c:Fx X.K H a C d tb)
  (h:∀H' s' T,Inv X π σ H' s'->Fx X.K H' a C d (some T)->Mv H a C d H'->Q () s'):wpAny (model X.prog X.w) A (noteFrame (.ref a) X.env) Q E s:=by
 obtain⟨vs,e,hsz,j⟩:=c.isX I;unfold noteFrame;simp only[g];cases tb with
 | none=>
  refine Jn (KA e rfl j ?_);rw[if_neg ⋯];exact gO I i f g c h
 | some T=>
  refine Jn (KA e rfl (x:=.ref T) j ?_);rw[if_pos (show(Value.ref T != Value.none)=true from by simp)];obtain⟨t,k⟩:=c.tb_ T rfl;obtain⟨o,p,n,r,z⟩:=(I.hok T _ k).1;refine Jn (KA n r (LZ z) ?_);by_cases l:(p[3]==rawInt X.env.locals)=true
  ·rw[if_pos l];exact Jo (h H s T I c ⟨λb o _ q=>q,_,c.at_⟩)
  ·rw[if_neg l];exact Jn (I.setTb k λm=>gO m i f g c h)
theorem M1(I:Inv X π σ H s)(c:Fx X.K H a C d (some T))(h:∀s',Inv X π σ H s'->Q () s'):wpAny (model X.prog X.w) A (setFlight (.ref a) fl) Q E s:=by
 obtain⟨vs,b,hsz,f⟩:=c.isX I;refine Jn (KA b rfl (x:=.ref T) f ?_);rw[if_pos (show(Value.ref T != Value.none)=true from by simp)];exact I.setTb (c.tb_ T rfl).2 λe=>h _ e
theorem iP(I:Inv X π σ H s)(f:A.frames=some X.stack)(c:X.stack=X.env::X.outer)(i:X.env.frame=some X.env.locals)(l:Fx X.K H a C d tb)
  (h:∀H' s' T,Inv X π σ H' s'->Fx X.K H' a C d (some T)->Mv H a C d H'->Q () s'):wpAny (model X.prog X.w) A (leaving X.env (.ref a)) Q E s:=by
 exact Jn (jN I f c i l λg n T k b j=>M1 k b λm e=>h g m T e b j)
end
end L2
namespace L2
open PySem PySem.W PySem.Calls PySem.Spec PyProof.Rows
section
variable {prog:Program}{w:World}{A:Around}{E:Value->Shared->Prop}{s:Shared}{K:Frag}{env:PySem.Env}
theorem cf(m:A.handled=none)
  (h:wpAny (model prog w) A x (λv c=>∃a C d,v=.ref a/\K.In c.heap/\XC K C/\IsX none c.heap a C d/\E (.ref a) c) E s):wpAny (model prog w) A (raiseStmt env (some x) none) Q E s:=by
 refine Jn (JO h (λv c i=>?_) λ_ _ x=>x);obtain⟨a,C,d,rfl,X,M,⟨vs,b,hsz,k⟩,l⟩:=i;have Y:=C7 (M:=model prog w) X M.ex;have e:Looks (model prog w) c.heap (typeOf (.ref a)) (.ref C):=(Looks.ld b).andThen .now;have f:Looks (model prog w) c.heap (isType (.ref a)) false:=(Looks.ld b).andThen .now;have g:Looks (model prog w) c.heap (isInstance (.ref a) (.type "BaseException")) true:=e.andThen Y.isB;have j:=Y.ty;refine Jn (Jo (Jn (Kf (Jn (Jn (f.here ?_))))));refine Jo ?_;refine Jn (g.here ?_);refine Jo (Jn (f.here ?_));refine Jn (Jn (e.here (Jn (j.here ?_))));rw[if_pos (by rfl)];refine Jo (Jn (Jn (KA b rfl k ?_)));rw[if_neg ⋯];exact Jo (wpAny_raiseNew_none m l)
theorem hU{a C T:Addr}{d o:Option Addr}{b:Bool}{Q:Bool->Shared->Prop}(X:K.In s.heap)(M:XC K C)(l:XC K T)(i:IsX o s.heap a C d)(c:kitOne K (.ref C) (.ref T)=some b)(h:Q b s) :
  wpAny (model prog w) A (excMatches (.ref a) (.ref T)) Q E s:=by
 obtain⟨vs,g,hsz,p⟩:=i;have Y:=C7 (M:=model prog w) X M.ex;have f:=C7 (M:=model prog w) X l.ex;have n:Looks (model prog w) s.heap (typeOf (.ref a)) (.ref C):=(Looks.ld g).andThen .now;have k:Looks (model prog w) s.heap (isInstance (.ref T) (.type "tuple")) false:=f.ty.andThen (Looks.of_pure tc_notTuple);have m:Looks (model prog w) s.heap (isExcClass (.ref T)) true:=f.isT.andThen f.isB;have j:Looks (model prog w) s.heap (isSubtype (.ref C) (.ref T)) b:=by
  unfold kitOne at c;by_cases e:((Value.ref C:Value)==.ref T)=true
  ·rw[if_pos e]at c;ext c;cases (eq_of_beq e);exact Y.self
  ·rw[if_neg e]at c;exact(kit_cls X c).2.2
 refine Jn (k.here ?_);simp only[Lm,Na];refine Jn (Jo ?_);rw[KS];refine Jn (Jn (Jn (m.here ?_)));refine Jo ?_;dsimp only;rw[LR];refine Jo (Jn (n.here ?_));rw[KS];refine Jn (Jn (Jn (j.here ?_)));cases b with
 | true=>exact Jo (Jo (Jo h))
 | false=>
  refine Jo ?_;dsimp only;rw[LR];exact Jo (Jo h)
end
end L2
namespace L2
open PySem PySem.Spec PyProof.Rows
def dS(X:Cx)(v:Value):Cx:={ X with A:=X.A.mark (some v),calm:=false,xe:=λ_ _=>False }
section
variable {X:Cx}{π:List (Addr×Obj)}{σ:St}{H:Hp}{s:Shared}{v:Value}
theorem Inv.hushed(I:Inv X π σ H s)(v:Value):Inv (dS X v) π σ H s:=
 have a:=I.ok
 ⟨⟨a.mod,a.kind,a.glob,a.blt,a.above,a.inj,a.has,a.cab,λz=>absurd (show(false:Bool)=true from z) ⋯,a.frames,a.stk,a.exf,a.bs,a.bsz,a.noex,a.exfs,a.funs,a.frf⟩,I.os,I.bare,I.base,I.loc,I.cell,I.free,I.freeC,I.pin,I.hok,I.len⟩
theorem Inv.unhush(a:X.Ok)(I:Inv (dS X v) π σ H s):Inv X π σ H s:=⟨a,I.os,I.bare,I.base,I.loc,I.cell,I.free,I.freeC,I.pin,I.hok,I.len⟩
theorem Y2{M:Model}{A:Around}{E:Value->Shared->Prop}{i:Nat}{x:Str}{pos:Pos}{Q:Unit->Shared->Prop}(I:Inv X π σ H s)(hN:X.N.Nodup)(hi:X.N[i]?=some x)(hk:X.env.scope.names.lookup x=some .local)
  (h:∀s',Inv X π (σ.set i none) H s'->Q () s'):wpAny M A (do bindName X.env x .none;unbindBehindTheSuite X.env x pos) Q E s:=by
 obtain⟨m,hn,hl⟩:=id I.loc;have hcls:(X.env.scope.kind==.class||(X.env.scope.kind==.module&&X.env.locals != X.env.globals))=false:=by rw[I.ok.kind];rfl
 have hiσ:i<σ.length:=by rw[I.len];exact(Js.mp hi).1
 have cne:=I.cne;refine wpAny_nameGoes_keeps hk hn hcls λh' v hn' hs=>?_;have tracked:HOk X.prog X.w H h':=λb ob e=>by
  refine(I.hok b ob e).stay (λc w' hc q=>(hs.2 c ?_).trans q) (λ_ q=>q) λ_ _ q=>q;rintro rfl;rcases hc with hc | hc
  ·rw[<- hc,I.free]at e;ext e
  ·rw[I.free]at hc;ext hc
 refine h _ ⟨I.ok,I.os,I.bare,⟨λb o e n hb hx=>?_,λb o e n hb hx=>?_,I.base.free,λb o e hx=>?_,I.base.tups,I.base.frzs,I.base.tbls⟩,⟨_,hn',λj y v' e1 e2 e3=>?_⟩,λy c e=>?_,I.free,I.freeC,λp hp=>?_,tracked,by simpa using I.len⟩
 ·exact(hs.2 b (JF (JN (Jx e) I.ok.above))).trans (I.base.keep b o e n hb hx)
 ·obtain⟨sl,e1⟩:=I.base.slot b o e n hb hx;exact⟨sl,(hs.2 b (JF (JN (Jx e) I.ok.above))).trans e1⟩
 ·obtain⟨o',e1⟩:=I.base.there b o e hx;exact⟨o',(hs.2 b (JF (JN (Jx e) I.ok.above))).trans e1⟩
 ·by_cases hj:j=i
  ·subst hj;rw[Ke hiσ]at e2;ext e2
  ·rw[Kk (Ne.symm hj)]at e2;obtain⟨u',r',q⟩:=hl j y v' e1 e2 e3;refine⟨u',r',?_⟩;rcases q with ⟨k,e⟩ | ⟨k,c,e,z⟩
   ·refine .inl ⟨k,?_⟩;have:y≠x:=λe=>hj (ak hN e1 (e▸hi));simp[this,e]
   ·exact .inr ⟨k,c,e,z.sameBut hs (cne y c e)⟩
 ·obtain⟨w',z⟩:=I.cell y c e;exact⟨w',z.sameBut hs (cne y c e)⟩
 ·obtain⟨e,n,ne,nf,d⟩:=I.pin p hp;exact⟨(hs.2 p.1 ne).trans e,n,ne,nf,d⟩
end
section
variable {X:Cx}{π:List (Addr×Obj)}{σ:St}{H:Hp}{s:Shared}
theorem Ax(hg:X.A.guards=some [])(hu:X.A.units+80<cLine)(I:Inv X π σ H s)(hd:DAt X.K H v d)(ru:RelV v u)(S:Shows d)(hl:d.shown.length<=4000)(hx:∀x,v=.str x->x.length<=4000) :
  wpAny (model X.prog X.w) X.A (formatField u Str.empty) (λz s'=>∃y t,z=.str y t/\y.length<=4000/\Inv X π σ H s') E s:=by
 have sh:=S.sh;have sz:=S.sz;have big:(4000:Nat)<=sizeLine:=by decide
 cases hd with
 | non=>cases (ru);exact wpAny_formatField_none ⟨_,_,rfl,hl,I.tok _⟩
 | bl b=>cases (ru);exact wpAny_formatField_bool ⟨_,_,rfl,hl,I.tok _⟩
 | int i=>obtain⟨t,e⟩:=(ru);subst e;exact formatField_int_small (by simpa [PyData.showable] using sh) ⟨_,_,rfl,hl,I.tok _⟩
 | str x=>obtain⟨t,e⟩:=(ru);subst e;exact formatField_str (λt' tk=>⟨_,_,rfl,hx x rfl,I.tok _⟩) (JW (hx x rfl) big)
 | lst h1 h2=>
  obtain⟨as,rr⟩:=DAt.reads I (.lst h1 h2) ru;obtain⟨a,rfl⟩:=isRef_of_reads rr rfl;exact formatField_of_reads rr sh (PyData.noDict_hsm S.nd) hg (by have:=S.dp;omega) (λ_ _ e=>e) (λh' u tk hk=>⟨_,_,rfl,hl,I.kept hk⟩) sz
 | tup h1 h2=>
  obtain⟨as,rr⟩:=DAt.reads I (.tup h1 h2) ru;obtain⟨a,rfl⟩:=isRef_of_reads rr rfl;exact formatField_of_reads rr sh (PyData.noDict_hsm S.nd) hg (by have:=S.dp;omega) (λ_ _ e=>e) (λh' u tk hk=>⟨_,_,rfl,hl,I.kept hk⟩) sz
end
theorem Z6{Q c:Str->Shared->Prop}(k:∀out s,Q out s->c out s):∀(a:List (Sem Value)) (b:Str) (s:Shared),Joins M A E a b Q s->Joins M A E a b c s
 | [],b,s,h=>k _ _ h
 | x::r,b,s,h=>JO h (λv d ⟨y,t,e,l,q⟩=>⟨y,t,e,l,Z6 k r _ d q⟩) λ_ _ z=>z
abbrev TF:=St->Hp->(Hp->Prop)->Prop
def PFs(X:Cx)(es:List Expr)(n:Nat)(t:TF):Prop:=
 ∀(a:Str) (π:List (Addr×Obj)) (s:Shared) (σ:St) (H:Hp) (Q:Hp->Prop),a.length+n<=sizeLine->Inv X π σ H s->t σ H Q ->
  Joins (model X.prog X.w) X.A X.xe (evalEach es X.env) a (λout b=>out.length<=sizeLine/\∃H',Inv X π σ H' b/\Q H') s
def fNil:TF:=λ_ H Q=>Q H
def Ip(K:PySem.W.Frag)(te:TE)(t:TF):TF:=λσ H Q=>te σ H λv a=>∃d,DAt K a v d/\Shows d/\d.shown.length<=4000/\(∀x,v=.str x->x.length<=4000)/\t σ a Q
section
variable {X:Cx}{e:Expr}{es:List Expr}{n:Nat}{t:TF}{te:TE}{pos:Pos}
theorem kA:PFs X [] 0 fNil:=λa π s σ H Q b I q=>⟨by omega,H,I,q⟩
theorem X5(h:PFs X es n t)(c:x.length<=1000:=by decide):PFs X (.Constant (.str x) k pos::es) (1000+n) t:=λa π s σ H Q b I q=>by
 refine Calls.Constant_str ⟨x,_,rfl,?_,?_⟩
 ·rw[Nn];omega
 ·exact h (a++x) π _ σ H Q (by rw[Nn];omega) (I.tok _) q
theorem dR(o:X.A.guards=some [])(j:X.A.units+80<cLine)(g:PE X e te)(h:PFs X es n t):PFs X (.FormattedValue e (-1) none pos::es) (4000+n) (Ip X.K te t):=λa π s σ H Q x I q=>by
 refine wpAny_FormattedValue_plain (thn (g π s σ H _ I q) λu A ⟨v,m,i,l,d,hd,S,f,w,p⟩=>?_);refine thn (Ax o j i hd l S f w) λz b ⟨y,r,c,B,k⟩=>?_;refine⟨y,r,c,?_,?_⟩
 ·rw[Nn];omega
 ·exact h (a++y) π b σ m Q (by rw[Nn];omega) k p
def tFs(t:TF):TE:=λσ H Q=>t σ H λH'=>∀z:Str,z.length<=sizeLine->Q (.str z) H'
theorem lM(h:PFs X (e::e2::es) n t)(f:n<=100000):PE X (.JoinedStr (e::e2::es) pos) (tFs t):=by
 intro π s σ H Q I q;refine wpAny_JoinedStr ?_;have d:(100000:Nat)<=sizeLine:=by decide
 have a:=h Str.empty π s σ H _ (by show 0+n<=sizeLine;omega) I q;exact Z6 (λout g ⟨l,H',c,b⟩=>⟨l,.str out,H',c.tok _,⟨_,rfl⟩,b out l⟩) _ _ _ a
theorem gN{f B:Addr}{fd:FuncData}{ps:List Str}{sp:Sp}{E:XK}{b m:Str}{p a:Pos}{pl:Sem Bool}{j:Value}{n:TA}
  (A:Gl X b) (z:X.mg b=some (.ref B)) (hs:PySem.W.specialIn X.K (.ref B) "__getattribute__" = some (some (.builtin "type.__getattribute__"))) (d:PySem.W.readsIn X.K B j=true) (y:PySem.W.findCls X.K (.ref B) j m=some (.val (.ref f))) (u:PySem.W.keepIn X.K (.ref f)=true)
  (F:FnOk X.prog X.w X.K X.mg X.base CX k f fd ps sp) (v:Room CX.q k X.A) (x:Binds X.K fd ps []) (C:B9 CX X E) (t:PA X (e::es) n)
  (g:(b==("__debug__" : Str))=false:=by decide) (c:starEach (e::es) X.env=(false,eval e X.env)::starEach es X.env:=by rfl) (i:(backTo pos (starEach es X.env)).any (·.1)=false:=by rfl)
  (w:eval (.Call (.Attribute (.Name b p) m a) (e::es) [] pos) X.env=(do
   let o <- eval (.Name b p) X.env
   standAt a.atName
   let (f,first) <- holding [o] (getMethod o m pl)
   callWith pos f first (backTo pos (starEach (e::es) X.env)) (backToKw pos (keywordEach [] X.env))):=by rfl) :
  PE X (.Call (.Attribute (.Name b p) m a) (e::es) [] pos) (qQ sp [] E n):=by
 intro π s σ H Q I h;refine PySem.W.methodCall_KW (E2 I A z ?_ g) w;refine PySem.W.method_cls I.kIn hs (PySem.W.cls_value I.kIn d y rfl ?_);refine Mn I.ok.mod.kin u (thn (t pos π _ σ H _ (I.tok _) h) λus G ⟨vs,D,l,r,q⟩=>⟨l.kIn,?_⟩) c i;exact jF F v x .nil C l r q
def CH(K:PySem.W.Frag)(b:TA):TE:=λσ H Q=>b σ H λvs a=>∃x C d y,vs=[.ref x,y]/\XC K C/\a x=some (O9 x C d)/\Q .non a
theorem rL{p apos:Pos}{pl:Sem Bool}{ta:TA}(hg:Gl X "ValueError") (hm:X.mg "ValueError" = none) (hf:PySem.W.findCls X.K (.type "ValueError") (.type "type") "__init__" = some (.val (.builtin "ValueError.__init__"))) (ha:PA X (e::es) ta)
  (hst:starEach (e::es) X.env=(false,eval e X.env)::starEach es X.env:=by rfl) (hpl:(backTo pos (starEach es X.env)).any (·.1)=false:=by rfl)
  (ht:eval (.Call (.Attribute (.Name "ValueError" p) "__init__" apos) (e::es) [] pos) X.env=(do
   let ov <- eval (.Name "ValueError" p) X.env
   standAt apos.atName
   let (f,first) <- holding [ov] (getMethod ov "__init__" pl)
   callWith pos f first (backTo pos (starEach (e::es) X.env)) (backToKw pos (keywordEach [] X.env))):=by rfl) :
  PE X (.Call (.Attribute (.Name "ValueError" p) "__init__" apos) (e::es) [] pos) (CH X.K ta):=by
 intro π s σ H Q I h;refine PySem.W.methodCall_KW (pl:=pl) (C5 I hg hm (show bootBuiltins "ValueError" = some (.type "ValueError") by rfl) ?_) ht;obtain⟨m,hfr⟩:=I.fr;refine PySem.W.method_type hfr I.ok.mod.kin (by rfl) (by decide +kernel) hf rfl ?_;refine LB (thn (ha pos π _ σ H _ (I.tok _) h) λus s1 ⟨vs,H1,I1,r,x,C,d,y,ev,M,e0,q⟩=>?_) hst hpl;subst ev;obtain⟨u,u2,rfl,ru,ru2⟩:=kY r;cases (show u=Value.ref x from ru);refine LP (EQ I1.kIn (I1.isX e0) M.ex λh' k1 i1=>?_);obtain⟨vs1,hx1,_⟩:=id i1;have I2:=I1.write (h':=h') (t':=s1.toks) (x:=x) (e:=x) (o:=O9 x C d) (by rw[e0];exact True.intro) (.inl rfl) (λb ob hb z=>k1 b ob hb z) ⟨_,hx1⟩ (okX i1);rw[rl e0]at I2;exact⟨.non,H1,I2,rfl,q⟩
end
end L2
namespace Hn
open PySem L2
def spHE(K:PySem.W.Frag):Sp:=λvs H Q _=>∃(x:Addr) (y:V) (C:Addr) (d:Option Addr),vs=[.ref x,y]/\XC K C/\H x=some (O9 x C d)/\Q .non H
structure Fmt(K:PySem.W.Frag)(H:Hp)(v:V)(d:PyData):Prop where
 at_:DAt K H v d
 sh:Shows d
 l1:d.shown.length<=4000
 l2:∀x,v=.str x->x.length<=4000
def Got(H:Hp)(x C:Addr)(fs:List (Str×V))(H':Hp):Prop:=∃d,H d=none/\d≠x/\H' x=some (O9 x C (some d))/\H' d=some (N6 d fs)/\∀b,b≠x->b≠d->H' b=H b
def sp1(K:PySem.W.Frag)(f:Str):Sp:=λvs H Q _=>∃(x:Addr) (v:V) (C:Addr) (a:PyData),vs=[.ref x,v]/\XC K C/\z9 K C f/\H x=some (O9 x C none)/\Fmt K H v a/\∀H',Got H x C [(f,v)] H'->Q .non H'
def sp2(K:PySem.W.Frag)(f g:Str):Sp:=λvs H Q _=>∃(x:Addr) (v u:V) (C:Addr) (a b:PyData),vs=[.ref x,v,u]/\XC K C/\z9 K C f/\z9 K C g/\H x=some (O9 x C none)/\Fmt K H v a/\Fmt K H u b /\
 ∀H',Got H x C [(f,v),(g,u)] H'->Q .non H'
structure TxE(K:PySem.W.Frag)(mg:Str->Option Value)(B fB:Addr):Prop where
 mV:mg "ValueError" = none
 fV:PySem.W.findCls K (.type "ValueError") (.type "type") "__init__" = some (.val (.builtin "ValueError.__init__"))
 mB:mg "HandError" = some (.ref B)
 sB:PySem.W.specialIn K (.ref B) "__getattribute__" = some (some (.builtin "type.__getattribute__"))
 rB:PySem.W.readsIn K B (.type "type")=true
 cB:PySem.W.findCls K (.ref B) (.type "type") "__init__" = some (.val (.ref fB))
 kB:PySem.W.keepIn K (.ref fB)=true
theorem wu(v u:V):J8 ("at" : Str) u ([("word",v)]:List (Str×V))=([("word",v),("at",u)]:List (Str×V)):=by
 show(if ("word" : Str) = "at" then [(("word" : Str),u)]else (("word" : Str),v)::J8 "at" u [])=([("word",v),("at",u)]:List (Str×V));rw[if_neg (by decide +kernel)];rfl
section
variable {K:PySem.W.Frag}
theorem Fmt.laid{v:V}{d:PyData}(h:Fmt K H v d)(a:H x=none):Fmt K (upd H x o) v d:=⟨h.at_.keeps (Keeps.laid a),h.sh,h.l1,h.l2⟩
end
end Hn
namespace HT
open PySem PySem.Spec PyProof.Rows
section
variable {prog:Program}{w:World}{A:Around}{E:Value->Shared->Prop}{s:Shared}{Q:Int->Shared->Prop}
theorem mU(h:Q (reduceHash 4238894112) { s with toks:=s.toks+1 }):wpAny (model prog w) A (pyHash .none) Q E s:=by
 refine W.pyHash_slot rfl F.slot_NoneType_hash F.entry_NoneType_hash (F.args_NoneType_hash_1 _) ⋯ (.inl rfl) ?_
 wp_walk
 grind
theorem nD(b:Bool)(h:Q (hashInt (if b then 1 else 0)) { s with toks:=s.toks+1 }):wpAny (model prog w) A (pyHash (.bool b)) Q E s:=by
 refine W.pyHash_slot rfl F.slot_bool_hash F.entry_int_hash (F.args_int_hash_1 _) ⋯ (.inl rfl) ?_;ext b
 ·wp_walk
  exact⟨_,_,rfl,h⟩
 ·wp_walk
  exact⟨_,_,rfl,h⟩
end
mutual
noncomputable def kDHt:PyData->Bool
 | .none=>true
 | .bool _=>true
 | .int _=>true
 | .str _=>true
 | .tuple ds=>kDsHt ds
 | .list _=>false
 | .dict _=>false
noncomputable def kDsHt:List PyData->Bool
 | []=>true
 | d::ds=>kDHt d&&kDsHt ds
end
mutual
noncomputable def nrmHt:PyData->PyData
 | .bool b=>.int (if b then 1 else 0)
 | .tuple ds=>.tuple (nrmsHt ds)
 | .none=>.none
 | .int i=>.int i
 | .str x=>.str x
 | .list ds=>.list ds
 | .dict ds=>.dict ds
noncomputable def nrmsHt:List PyData->List PyData
 | []=>[]
 | d::ds=>nrmHt d::nrmsHt ds
end
mutual
noncomputable def hTHt(w:World):PyData->Int
 | .none=>reduceHash 4238894112
 | .bool b=>hashInt (if b then 1 else 0)
 | .int i=>hashInt i
 | .str x=>hashStr w x
 | .tuple ds=>reduceHash (Builtin.Tuple.tupleHashOf (B1 w ds))
 | .list _=>0
 | .dict _=>0
noncomputable def B1(w:World):List PyData->List Int
 | []=>[]
 | d::ds=>hTHt w d::B1 w ds
end
mutual
noncomputable def gI:PyData->Nat
 | .tuple ds=>M6 ds+1
 | _=>1
noncomputable def M6:List PyData->Nat
 | []=>0
 | d::ds=>gI d+M6 ds
end
section
variable {prog:Program}{w:World}{E:Value->Shared->Prop}
def HA(prog:Program)(w:World)(E:Value->Shared->Prop)(d:PyData):Prop:=∀(v:Value)(a:List Addr)(A:Around)(s:Shared)(Q:Int->Shared->Prop),kDHt d=true->Reads s.heap v d a->A.units+d.depth<cLine->Q (hTHt w d) { s with toks:=s.toks+gI d }->wpAny (model prog w) A (pyHash v) Q E s
theorem oO:∀(ds:List PyData)(_:∀d∈ds,HA prog w E d)(vs:List Value)(a:List Addr)(A:Around)(s:Shared)(hs:Array Int)(Q:Array Int->Shared->Prop),kDsHt ds=true->ReadsAll s.heap vs ds a->A.units+PyData.depthAll ds<cLine->Q (hs++(B1 w ds).toArray) { s with toks:=s.toks+M6 ds }->wpAny (model prog w) A (forIn vs hs λx hs=>do
   let h <- pyHash x
   pure (ForInStep.yield (hs.push h))) Q E s:=by
 intro ds;induction ds with
 | nil=>
  intro _ vs a A s hs Q _ r _ h;ext r;rw[LR];refine Jo ?_;have:hs++(B1 w []).toArray=hs:=by rw[B1];apply Array.ext';simp
  rw[this]at h;exact h
 | cons d ds c=>
  intro hd vs a A s hs Q k r f h;rw[kDsHt,Jp]at k;rw[PyData.depthAll]at f;cases r with
  | cons g i=>
   rw[KS];refine Jn (Jn (hd d (Jy ..) _ _ A s _ k.1 g ∅ (Jo ?_)));refine c (λe j=>hd e (JE _ j)) _ _ A _ _ _ k.2 i ∅ ?_;have e:hs.push (hTHt w d)++(B1 w ds).toArray=hs++(B1 w (d::ds)).toArray:=by
    rw[B1];apply Array.ext';simp
   rw[e];have b:s.toks+gI d+M6 ds=s.toks+M6 (d::ds):=by rw[M6,Nat.add_assoc]
   rw[b];exact h
theorem nl(ih:∀d∈ds,HA prog w E d):HA prog w E (.tuple ds):=by
 intro v as A s Q k r hu h;rw[kDHt]at k;rw[PyData.depth]at hu;cases r with
 | tuple e1 e2 e3 r=>
  rename_i a o vs n;refine W.pyHash_slot ⟨o,e1,e2⟩ F.slot_tuple_hash F.entry_tuple_hash (F.args_tuple_hash_1 _) ⋯ (.inr ∅) ?_;have t1:s.heap.IsTuple a vs:=⟨o,e1,e2,n,e3⟩;obtain⟨cls,dict,data,slots⟩:=o;subst e2 e3;generalize hp:pyHash=pI
  wp_walk
  subst hp;show wpAny _ _ (forIn vs (#[]:Array Int) λx hs=>do
   let h <- pyHash x
   pure (ForInStep.yield (hs.push h))) _ _ _
  rw[<- Array.forIn_toList];refine oO ds ih vs.toList as A.in1 s #[] _ k r (by show A.units+1+_<_;omega) ?_
  wp_walk
  refine⟨_,_,rfl,?_⟩;have e:(#[]++(B1 w ds).toArray).toList=B1 w ds:=by simp
  rw[e];exact h
theorem lD:∀(n:Nat)(d:PyData),sizeOf d<n->HA prog w E d
 | 0,_,h=>by omega
 | n+1,d,hn=>by
  cases d with
  | none=>intro v as A s Q k r hu h;ext r;exact mU h
  | bool b=>intro v as A s Q k r hu h;ext r;exact nD b h
  | int i=>intro v as A s Q k r hu h;ext r;exact wpAny_pyHash_int h
  | str x=>intro v as A s Q k r hu h;ext r;exact wpAny_pyHash_str h
  | tuple ds=>
   refine nl λd hd=>lD n d ?_;have:=List.sizeOf_lt_of_mem hd;simp at hn;omega
  | list _=>intro v as A s Q k;ext k
  | dict _=>intro v as A s Q k;ext k
def QA(prog:Program)(w:World)(E:Value->Shared->Prop)(d:PyData):Prop:=∀(n:Nat)(v:Value)(a:List Addr)(A:Around)(s:Shared)(Q:Bool->Shared->Prop),kDHt d=true->Reads s.heap v d a->d.depth<n->Q true s->wpAny (model prog w) A (eqIsQuiet n v) Q E s
theorem mQ:∀(ds:List PyData)(_:∀d∈ds,QA prog w E d)(n:Nat)(vs:List Value)(a:List Addr)(A:Around)(s:Shared)(Q:Option Bool×Unit->Shared->Prop),kDsHt ds=true->ReadsAll s.heap vs ds a->PyData.depthAll ds<n->Q (none,()) s->wpAny (model prog w) A (forIn vs ((none,()):Option Bool×Unit) λy _=>do
   let q <- eqIsQuiet n y
   if (!q)=true then pure (ForInStep.done (some false,()))else pure (ForInStep.yield (none,()))) Q E s:=by
 intro ds;induction ds with
 | nil=>
  intro _ n vs a A s Q _ r _ h;ext r;rw[LR];exact Jo h
 | cons d ds b=>
  intro hd n vs a A s Q k r c h;rw[kDsHt,Jp]at k;rw[PyData.depthAll]at c;cases r with
  | cons f g=>
   rw[KS];refine Jn (Jn (hd d (Jy ..) n _ _ A s _ k.1 f ∅ ?_));rw[if_neg ⋯];exact Jo (b (λe i=>hd e (JE _ i)) n _ _ A s Q k.2 g ∅ h)
theorem lb(ih:∀d∈ds,QA prog w E d):QA prog w E (.tuple ds):=by
 intro n v as A s Q k r hu h;rw[kDHt]at k;rw[PyData.depth]at hu;cases r with
 | tuple e1 e2 e3 r=>
  rename_i a o vs m;obtain⟨n,rfl⟩:∃n',n=n'+1:=⟨n-1,by omega⟩;rw[eqIsQuiet.eq_2];have t1:s.heap.IsTuple a vs:=⟨o,e1,e2,m,e3⟩;have ty:s.TypeIs (.ref a) "tuple":=⟨o,e1,e2⟩;generalize hp:eqIsQuiet n=pI;refine Jn (NH ty F.slot_tuple_eq.lookup ?_);refine Jn (wpAny_isInstance ty F.sub_tuple_tuple ?_);rw[if_neg ⋯];have e5:wpAny (model prog w) A (seqItems? (.ref a)) (λr s'=>r=some vs/\s'=s) E s:=by
   obtain⟨cls,dict,data,slots⟩:=o;subst e2 e3
   wp_walk
   exact⟨rfl,rfl⟩
  refine Jn (JO e5 (λr s' ⟨er,es⟩=>?_) λ_ _ z=>z);subst er es;refine Jn ?_;subst hp;rw[<- Array.forIn_toList];exact mQ ds ih n vs.toList as A s' _ k r ∅ (Jo h)
theorem eX:∀(n:Nat)(d:PyData),sizeOf d<n->QA prog w E d
 | 0,_,h=>by omega
 | n+1,d,hn=>by
  cases d with
  | none=>intro m v as A s Q k r hu h;ext r;rw[Mw m rfl];exact Jo h
  | bool b=>intro m v as A s Q k r hu h;ext r;rw[Mw m rfl];exact Jo h
  | int i=>intro m v as A s Q k r hu h;ext r;rw[Mw m rfl];exact Jo h
  | str x=>intro m v as A s Q k r hu h;ext r;rw[Mw m rfl];exact Jo h
  | tuple ds=>
   refine lb λd hd=>eX n d ?_;have:=List.sizeOf_lt_of_mem hd;simp at hn;omega
  | list _=>intro m v as A s Q k;ext k
  | dict _=>intro m v as A s Q k;ext k
end
mutual
theorem sR(w:World):∀d:PyData,hTHt w (nrmHt d)=hTHt w d
 | .none=>rfl
 | .bool b=>rfl
 | .int i=>rfl
 | .str x=>rfl
 | .tuple ds=>by rw[nrmHt,hTHt,hTHt,jP w ds]
 | .list _=>rfl
 | .dict _=>rfl
theorem jP(w:World):∀ds:List PyData,B1 w (nrmsHt ds)=B1 w ds
 | []=>rfl
 | d::ds=>by rw[nrmsHt,B1,B1,sR w d,jP w ds]
end
mutual
theorem sI:∀d:PyData,gI (nrmHt d)=gI d
 | .none=>rfl
 | .bool b=>rfl
 | .int i=>rfl
 | .str x=>rfl
 | .tuple ds=>by rw[nrmHt,gI,gI,kF ds]
 | .list _=>rfl
 | .dict _=>rfl
theorem kF:∀ds:List PyData,M6 (nrmsHt ds)=M6 ds
 | []=>rfl
 | d::ds=>by rw[nrmsHt,M6,M6,sI d,kF ds]
end
noncomputable instance decPHt:DecidableEq PyData:=λ_ _=>Classical.propDecidable _
mutual
theorem lK:∀d e:PyData,kDHt d=true->kDHt e=true->(d.eqv e=true↔nrmHt d=nrmHt e)
 | d,e,h1,h2=>by
  cases d with
  | none=>cases e with
   | bool b=>ext b <;> simp[PyData.eqv,nrmHt]
   | _=>simp[PyData.eqv,nrmHt]
  | bool a=>cases e with
   | bool b=>ext a <;> ext b <;> simp[PyData.eqv,nrmHt]
   | _=>ext a <;> first | (simp[PyData.eqv,nrmHt];done) | (simp[PyData.eqv,nrmHt];exact eq_comm)
  | int i=>cases e with
   | bool b=>ext b <;> first | (simp[PyData.eqv,nrmHt];done) | (simp[PyData.eqv,nrmHt];exact eq_comm)
   | _=>simp[PyData.eqv,nrmHt]
  | str x=>cases e with
   | bool b=>ext b <;> simp[PyData.eqv,nrmHt]
   | _=>simp[PyData.eqv,nrmHt]
  | tuple ds=>cases e with
   | tuple es=>
    rw[kDHt]at h1 h2;have:=eZ ds es h1 h2;simp only[PyData.eqv,nrmHt,PyData.tuple.injEq];exact this
   | bool b=>ext b <;> simp[PyData.eqv,nrmHt]
   | _=>simp[PyData.eqv,nrmHt]
  | list _=>ext h1
  | dict _=>ext h1
theorem eZ:∀ds es:List PyData,kDsHt ds=true->kDsHt es=true->(PyData.eqvAll ds es=true↔nrmsHt ds=nrmsHt es)
 | [],[],_,_=>by simp[PyData.eqvAll]
 | [],_::_,_,_=>by simp[PyData.eqvAll,nrmsHt]
 | _::_,[],_,_=>by simp[PyData.eqvAll,nrmsHt]
 | d::ds,e::es,h1,h2=>by
  rw[kDsHt,Jp]at h1 h2;simp only[PyData.eqvAll,Jp,nrmsHt,List.cons.injEq];rw[lK d e h1.1 h2.1,eZ ds es h1.2 h2.2]
end
section
variable {h h':Heap}{x:Addr}{o:Obj}{es:Array DictEntry}{ep:Nat}(ho:h.get? x=some o)(hd:o.data=.dict es ep)(hs:Heap.SameBut x h h')
include ho hd hs
mutual
theorem aj:∀(d:PyData)(v:Value)(as:List Addr),kDHt d=true->Reads h v d as->Reads h' v d as
 | d,v,as,k,r=>by
  cases d with
  | none=>ext r;exact .none
  | bool b=>ext r;exact .bool b
  | int i=>ext r;exact .int i _
  | str s=>ext r;exact .str s _
  | tuple ds=>
   rw[kDHt]at k;cases r with
   | tuple e1 e2 e3 r=>
    rename_i a ob vs n;have ne:a≠x:=λz=>by
     subst z;rw[ho]at e1;ext e1;rw[hd]at e3;ext e3
    exact .tuple ((hs.2 a ne).trans e1) e2 e3 (W6 ds _ _ k r)
  | list _=>ext k
  | dict _=>ext k
theorem W6:∀(ds:List PyData)(vs:List Value)(as:List Addr),kDsHt ds=true->ReadsAll h vs ds as->ReadsAll h' vs ds as
 | [],vs,as,k,r=>by ext r;exact .nil
 | d::ds,vs,as,k,r=>by
  rw[kDsHt,Jp]at k;cases r with
  | cons r1 r2=>exact .cons (aj d _ _ k.1 r1) (W6 ds _ _ k.2 r2)
end
end
def keyK(prog:Program)(w:World):HeapKind prog w PyData where
 is h k a:=∃d as,Reads h (.ref a) d as/\kDHt d=true/\d.canLay0=true/\d.depth<=6/\nrmHt d=k
 hash k:=hTHt w k
 draws k:=gI k
 room A:=A.units+8<cLine
 inj:=by
  rintro h a x y ⟨d,as,r,_,_,_,rfl⟩ ⟨e,bs,r2,_,_,_,rfl⟩;rw[Reads.unique r _ _ r2 |>.1]
 keeps:=by
  rintro h h' k a d o es ep ⟨p,as,r,k1,k2,k3,rfl⟩ ho hd hs;exact⟨p,as,aj ho hd hs p _ _ k1 r,k1,k2,k3,rfl⟩
 pyHash:=by
  rintro A E s k a Q hu ⟨p,as,r,k1,k2,k3,rfl⟩ q;rw[sR,sI]at q;exact lD (sizeOf p+1) p (Kh _) _ as A s Q k1 r ∅ q
 eqBool:=by
  rintro A E s x y a b Q hu ⟨p,as,r,k1,k2,k3,rfl⟩ ⟨e,bs,r2,l1,l2,l3,rfl⟩ q;refine SeqAt.eqBoolOverData prog w A E s _ _ p e as bs Q r r2 k2 l2 ∅ ?_;have:p.eqv e=decide (nrmHt p=nrmHt e):=by
   rw[LL,JJ];exact lK p e k1 l1
  rw[this];exact q
 quiet:=by
  rintro A E s k a Q ⟨p,as,r,k1,k2,k3,rfl⟩ q;exact eX (sizeOf p+1) p (Kh _) 8 _ as A s Q k1 r ∅ q
end HT
namespace L3
open PySem PySem.Spec PyProof.Rows L2
inductive D where
 | non | bl (b:Bool) | int (i:Int) | str (x:Str) | tup (ds:List D) | lst (ds:List D) | scr (ds:List D) | ref (n:Nat)
inductive O where
 | lst (ds:List D) | dct (kvs:List (Key×D)) | exc (c:Nat) (fs:List (Str×D)) | dcT (kvs:List (D×D))
structure ClW where
 f:Nat->Addr
 w:World
instance:CoeFun ClW (λ_=>Nat->Addr):=⟨ClW.f⟩
def DE(a:Addr)(es:List DictEntry):HO:=.ext λh=>∃o ep,h.get? a=some o/\o.ExactDict/\o.data=.dict es.toArray ep/\ep=es.length
mutual
noncomputable def kP:D->Option PyData
 | .non=>some .none
 | .bl b=>some (.bool b)
 | .int i=>some (.int i)
 | .str x=>some (.str x)
 | .tup ds=>(kPs ds).map .tuple
 | .lst _=>none
 | .scr _=>none
 | .ref _=>none
noncomputable def kPs:List D->Option (List PyData)
 | []=>some []
 | d::ds=>match kP d,kPs ds with
  | some p,some ps=>some (p::ps)
  | _,_=>none
end
def y0(d:D):Option PyData:=match kP d with
 | some (.tuple ps)=>if (PyData.tuple ps).canLay0=true/\(PyData.tuple ps).depth<=6 then some (HT.nrmHt (.tuple ps))else none
 | _=>none
def pT(kvs:List (D×D)):Prop:=kvs.length<=sizeLine/\(kvs.map λp=>y0 p.1).Nodup
abbrev Sto:=List O
inductive R(α:Type) where
 | ok (a:α) (S:Sto) | exn (n:Nat) (S:Sto) | bad
abbrev M(α:Type):=Sto->R α
def ret{b:Type}(a:b):M b:=λS=>.ok a S
def bad{a:Type}:M a:=λ_=>.bad
def bind{c b:Type}(m:M c)(k:c->M b):M b:=λS=>match m S with
 | .ok a S'=>k a S'
 | .exn n S'=>.exn n S'
 | .bad=>.bad
abbrev Env:=List (Option D)
structure Mp where
 pl:List Addr
 rs:List Addr
def Mp.push(μ:Mp)(p:Addr):Mp:=⟨μ.pl++[p],μ.rs⟩
def TupAt(K:PySem.W.Frag)(μ:Mp)(H:Hp)(a:Addr)(xs:List V):Prop:=
 (Rd H a (.tup xs)/\a∉μ.pl/\a∉μ.rs)\/∃(o:Obj) (b:Array Value) (n:Nat),K.lookup a=some o/\o.cls=.type "tuple"/\o.data=.seq b n/\b.size<=sizeLine/\Vals xs b.toList/\o.dict=none
def ScrAt(K:PySem.W.Frag)(μ:Mp)(H:Hp)(a:Addr)(xs:List V):Prop:=
 (Rd H a (.lst xs)/\a∉μ.pl/\a∉μ.rs)\/∃(o:Obj) (b:Array Value) (n:Nat),K.lookup a=some o/\o.cls=.type "list"/\o.dict=none/\o.data=.seq b n/\b.size<=sizeLine/\Vals xs b.toList
def LstAt(μ:Mp)(H:Hp)(a:Addr)(xs:List V):Prop:=H a=some (.lst xs)/\a∉μ.pl/\a∉μ.rs
theorem TupAt.sq{K:PySem.W.Frag}{μ:Mp}{H:Hp}{a:Addr}{xs:List V}(h:TupAt K μ H a xs):SqT K H a xs:=h.imp (λz=>z.1) λ⟨o,f,n,a,b,c,d,e,_⟩=>⟨o,f,n,a,b,c,d,e⟩
theorem ScrAt.sq{K:PySem.W.Frag}{μ:Mp}{H:Hp}{a:Addr}{xs:List V}(h:ScrAt K μ H a xs):SqL K H a xs:=h.imp (λz=>z.1) id
theorem LstAt.sq{K:PySem.W.Frag}{μ:Mp}{H:Hp}{a:Addr}{xs:List V}(h:LstAt μ H a xs):SqL K H a xs:=.inl (.inl h.1)
mutual
inductive RD(K:PySem.W.Frag)(μ:Mp)(H:Hp):D->V->Prop where
 | non:RD K μ H .non .non
 | bl (b:Bool):RD K μ H (.bl b) (.bl b)
 | int (i:Int):RD K μ H (.int i) (.int i)
 | str (x:Str):RD K μ H (.str x) (.str x)
 | tup {a:Addr} {xs:List V} {ds:List D}:TupAt K μ H a xs->RDs K μ H ds xs->RD K μ H (.tup ds) (.ref a)
 | lst {a:Addr} {xs:List V} {ds:List D}:LstAt μ H a xs->RDs K μ H ds xs->RD K μ H (.lst ds) (.ref a)
 | scr {a:Addr} {xs:List V} {ds:List D}:ScrAt K μ H a xs->RDs K μ H ds xs->RD K μ H (.scr ds) (.ref a)
 | ref {n:Nat} {a:Addr}:μ.pl[n]?=some a->RD K μ H (.ref n) (.ref a)
inductive RDs(K:PySem.W.Frag)(μ:Mp)(H:Hp):List D->List V->Prop where
 | nil:RDs K μ H [] []
 | cons {d:D} {v:V} {ds:List D} {vs:List V}:RD K μ H d v->RDs K μ H ds vs->RDs K μ H (d::ds) (v::vs)
end
structure Lat(μ:Mp)(H:Hp)(μ':Mp)(H':Hp):Prop where
 pre:∀(n:Nat)(a:Addr),μ.pl[n]?=some a->μ'.pl[n]?=some a
 oth:∀a o,H a=some o->a∉μ.pl->H' a=some o
 new:∀a,a∈μ'.pl->a∈μ.pl\/H a=none
 rsv:μ'.rs=μ.rs
theorem Lat.refl(μ:Mp)(H:Hp):Lat μ H μ H:=⟨λ_ _ h=>h,λ_ _ h _=>h,λ_ h=>.inl h,rfl⟩
theorem Lat.out{H H':Hp}(l:Lat μ H μ' H'){a:Addr}{o:HO}(h:H a=some o)(n:a∉μ.pl):a∉μ'.pl:=λz=>by
 rcases l.new a z with q | q
 ·exact n q
 ·rw[h]at q;ext q
theorem Lat.trans{H c b:Hp}(l:Lat μ H μ1 c)(k:Lat μ1 c μ2 b):Lat μ H μ2 b:=by
 refine⟨λn a h=>k.pre n a (l.pre n a h),λa o h n=>k.oth a o (l.oth a o h n) (l.out h n),λa h=>?_,k.rsv.trans l.rsv⟩;rcases k.new a h with q | q
 ·exact l.new a q
 ·by_cases m:a∈μ.pl
  ·exact .inl m
  ·right
   cases e:H a with
   | none=>rfl
   | some o=>rw[l.oth a o e m]at q;ext q
theorem Rd.later{H H':Hp}(l:Lat μ H μ' H'){a:Addr}{u:HO}(h:Rd H a u)(n:a∉μ.pl):Rd H' a u/\a∉μ'.pl:=by
 rcases h with h | ⟨o,h⟩
 ·exact⟨.inl (l.oth _ _ h n),l.out h n⟩
 ·exact⟨.inr ⟨o,l.oth _ _ h n⟩,l.out h n⟩
theorem TupAt.later{K:PySem.W.Frag}{μ μ':Mp}{H H':Hp}(l:Lat μ H μ' H'){a:Addr}{xs:List V}(h:TupAt K μ H a xs):TupAt K μ' H' a xs:=h.imp (λz=>⟨(Rd.later l z.1 z.2.1).1,(Rd.later l z.1 z.2.1).2,by rw[l.rsv];exact z.2.2⟩) id
theorem ScrAt.later{K:PySem.W.Frag}{μ μ':Mp}{H H':Hp}(l:Lat μ H μ' H'){a:Addr}{xs:List V}(h:ScrAt K μ H a xs):ScrAt K μ' H' a xs:=h.imp (λz=>⟨(Rd.later l z.1 z.2.1).1,(Rd.later l z.1 z.2.1).2,by rw[l.rsv];exact z.2.2⟩) id
theorem LstAt.later{H H':Hp}(l:Lat μ H μ' H'){a:Addr}{xs:List V}(h:LstAt μ H a xs):LstAt μ' H' a xs:=⟨l.oth _ _ h.1 h.2.1,l.out h.1 h.2.1,by rw[l.rsv];exact h.2.2⟩
mutual
theorem RD.later{K:PySem.W.Frag}{μ μ':Mp}{H H':Hp}(l:Lat μ H μ' H'):∀{d:D}{v:V},RD K μ H d v->RD K μ' H' d v
 | _,_,.non=>.non
 | _,_,.bl b=>.bl b
 | _,_,.int i=>.int i
 | _,_,.str x=>.str x
 | _,_,.tup h r=>.tup (h.later l) (RDs.later l r)
 | _,_,.lst h r=>.lst (h.later l) (RDs.later l r)
 | _,_,.scr h r=>.scr (h.later l) (RDs.later l r)
 | _,_,.ref h=>.ref (l.pre _ _ h)
theorem RDs.later{K:PySem.W.Frag}(l:Lat μ H μ' H'):∀{ds:List D}{vs:List V},RDs K μ H ds vs->RDs K μ' H' ds vs
 | _,_,.nil=>.nil
 | _,_,.cons h r=>.cons (RD.later l h) (RDs.later l r)
end
section
variable {K:PySem.W.Frag}{μ:Mp}{H:Hp}
theorem RDs.length:∀{ds:List D}{vs:List V},RDs K μ H ds vs->ds.length=vs.length
 | _,_,.nil=>rfl
 | _,_,.cons _ r=>by simp[RDs.length r]
theorem RDs.get:∀{ds:List D}{vs:List V}{i:Nat}{d:D},RDs K μ H ds vs->ds[i]?=some d->∃v,vs[i]?=some v/\RD K μ H d v
 | _,_,_,_,.nil,e=>by simp at e
 | _,_,0,_,.cons h _,e=>by simp at e;subst e;exact⟨_,rfl,h⟩
 | _,_,i+1,d,.cons _ r,e=>by
  obtain⟨v,b,a⟩:=RDs.get r (by simpa using e);exact⟨v,by simpa using b,a⟩
theorem RDs.append:∀{ds es:List D}{vs us:List V},RDs K μ H ds vs->RDs K μ H es us->RDs K μ H (ds++es) (vs++us)
 | _,_,_,_,.nil,s=>s
 | _,_,_,_,.cons h r,s=>.cons h (RDs.append r s)
theorem RDs.take:∀{ds:List D}{vs:List V}(n:Nat),RDs K μ H ds vs->RDs K μ H (ds.take n) (vs.take n)
 | _,_,0,_=>by simpa using RDs.nil
 | _,_,_+1,.nil=>by simpa using RDs.nil
 | _,_,n+1,.cons h r=>by simpa using RDs.cons h (RDs.take n r)
theorem RDs.drop:∀{ds:List D}{vs:List V}(n:Nat),RDs K μ H ds vs->RDs K μ H (ds.drop n) (vs.drop n)
 | _,_,0,h=>by simpa using h
 | _,_,_+1,.nil=>by simpa using RDs.nil
 | _,_,n+1,.cons _ r=>by simpa using RDs.drop n r
theorem RDs.set(q:RD K μ H d v):∀{ds:List D}{vs:List V}(n:Nat),RDs K μ H ds vs->RDs K μ H (ds.set n d) (vs.set n v)
 | _,_,_,.nil=>by simpa using RDs.nil
 | _,_,0,.cons h r=>by simpa using RDs.cons q r
 | _,_,n+1,.cons h r=>by simpa using RDs.cons h (RDs.set q n r)
theorem RDs.rep(r:RDs K μ H ds vs):∀k:Nat,RDs K μ H (List.replicate k ds).flatten (List.replicate k vs).flatten
 | 0=>.nil
 | k+1=>by
  rw[KY,KY,LM,LM];exact r.append (RDs.rep r k)
theorem RDs.ints:∀ns:List Int,RDs K μ H (ns.map D.int) (ns.map V.int)
 | []=>.nil
 | n::ns=>.cons (.int n) (RDs.ints ns)
end
def pF(K:PySem.W.Frag)(μ:Mp)(H:Hp):List (Str×D)->List (Str×V)->Prop:=Paired λp q=>p.1=q.1/\RD K μ H p.2 q.2
def KvsAt(K:PySem.W.Frag)(μ:Mp)(H:Hp):List (Key×D)->List (Key×V)->Prop:=Paired λp q=>p.1=q.1/\RD K μ H p.2 q.2
def fz(K:PySem.W.Frag)(w:World)(μ:Mp)(H:Hp)(p:D×D)(e:DictEntry):Prop:=∃b v q,e.key=.ref b/\RD K μ H p.1 (.ref b)/\y0 p.1=some q/\e.hash=HT.hTHt w q/\RelV v e.val/\RD K μ H p.2 v
def OAt(K:PySem.W.Frag)(cl:ClW)(μ:Mp)(H:Hp)(a:Addr):O->Prop
 | .lst ds=>∃xs,H a=some (.lst xs)/\RDs K μ H ds xs
 | .dct kvs=>∃ks,H a=some (.dK ks)/\KvsAt K μ H kvs ks
 | .exc c fs=>XC K (cl c)/\∃gs,pF K μ H fs gs/\∃fr,((gs=[]/\H a=some (Q7 fr a (cl c) none))\/∃d,d≠a/\d∉μ.pl/\H a=some (Q7 fr a (cl c) (some d))/\H d=some (N6 d gs))
 | .dcT kvs=>∃es,H a=some (DE a es)/\(a==sysModules)=false/\pT kvs/\Paired (fz K cl.w μ H) kvs es
structure Rep(K:PySem.W.Frag)(cl:ClW)(μ:Mp)(S:Sto)(H:Hp):Prop where
 len:μ.pl.length=S.length
 nd:μ.pl.Nodup
 ats:∀(n:Nat)(o:O)(a:Addr),S[n]?=some o->μ.pl[n]?=some a->OAt K cl μ H a o
 res:∀a,a∈μ.rs->a∉μ.pl/\∃u,H a=some u
theorem Paired.mono{P Q:α->β->Prop}(h:∀a b,P a b->Q a b):∀{xs:List α}{ys:List β},Paired P xs ys->Paired Q xs ys
 | _,_,.nil=>.nil
 | _,_,.cons r t=>.cons (h _ _ r) (Paired.mono h t)
section
variable {K:PySem.W.Frag}{cl:ClW}{μ:Mp}{S:Sto}{H:Hp}
theorem OAt.some(h:OAt K cl μ H a o):∃u,H a=some u:=by
 cases o with
 | lst ds=>obtain⟨xs,e,_⟩:=h;exact⟨_,e⟩
 | dct kvs=>obtain⟨xs,e,_⟩:=h;exact⟨_,e⟩
 | dcT kvs=>obtain⟨xs,e,_⟩:=h;exact⟨_,e⟩
 | exc c fs=>
  obtain⟨_,gs,_,fr,⟨_,e⟩ | ⟨d,_,_,e,_⟩⟩:=h
  ·exact⟨_,e⟩
  ·exact⟨_,e⟩
theorem Rep.tracked(r:Rep K cl μ S H){a:Addr}(h:a∈μ.pl):∃u,H a=some u:=by
 obtain⟨n,b,e⟩:=Me h;have hs:n<S.length:=by rw[<- r.len];exact b
 exact(r.ats n S[n] a (Jw hs) (by rw[Jw b,e])).some
theorem Rep.notrs(r:Rep K cl μ S H){p:Addr}(h:H p=none):p∉μ.rs:=λz=>by
 obtain⟨_,u,e⟩:=r.res p z;rw[h]at e;ext e
theorem Rep.notin(r:Rep K cl μ S H){p:Addr}(h:H p=none):p∉μ.pl:=λz=>by
 obtain⟨u,e⟩:=r.tracked z;rw[h]at e;ext e
theorem Lat.laid(h:H p=none):Lat μ H μ (upd H p o):=⟨λ_ _ h=>h,λa u e _=>by rw[a8 (b9 e h)];exact e,λ_ h=>.inl h,rfl⟩
theorem Rep.keep(r:Rep K cl μ S H)(l:Lat μ H μ H')(k:∀a,a∈μ.pl->H' a=H a):Rep K cl μ S H':=by
 refine⟨r.len,r.nd,λn o a e1 e2=>?_,λa m=>let ⟨h1,u,h2⟩:=r.res a m;⟨h1,u,l.oth _ _ h2 h1⟩⟩;have ka:=k a (JL e2);have h:=r.ats n o a e1 e2;cases o with
 | lst ds=>obtain⟨xs,e,q⟩:=h;exact⟨xs,by rw[ka];exact e,q.later l⟩
 | dct kvs=>obtain⟨xs,e,q⟩:=h;exact⟨xs,by rw[ka];exact e,Paired.mono (λ_ _ ⟨z,w⟩=>⟨z,w.later l⟩) q⟩
 | dcT kvs=>obtain⟨es,e,h1,h2,q⟩:=h;exact⟨es,by rw[ka];exact e,h1,h2,Paired.mono (λ_ _ ⟨b,v,z,a1,a2,a3,a4,a5,a6⟩=>⟨b,v,z,a1,a2.later l,a3,a4,a5,a6.later l⟩) q⟩
 | exc c fs=>
  obtain⟨xc,gs,q,fr,h⟩:=h;refine⟨xc,gs,Paired.mono (λ_ _ ⟨z,w⟩=>⟨z,w.later l⟩) q,fr,?_⟩;rcases h with ⟨z,e⟩ | ⟨d,h1,h2,e,e2⟩
  ·grind
  ·exact .inr ⟨d,h1,h2,by rw[ka];exact e,l.oth _ _ e2 h2⟩
theorem Rep.laid(r:Rep K cl μ S H)(h:H p=none):Rep K cl μ S (upd H p o):=r.keep (Lat.laid h) λa m=>a8 λz=>r.notin h (z▸m)
theorem Lat.pushed(h:H p=none)(k:∀a u,H a=some u->H' a=some u):Lat μ H (μ.push p) H':=
 ⟨λn a e=>by show(μ.pl++[p])[n]?=_;rw[Jz (Js.mp e).1];exact e,λa u e _=>k a u e,λa m=>by
  rcases JY.mp m with z | z
  ·exact .inl z
  ·exact .inr (by rw[JK.mp z];exact h),rfl⟩
theorem OAt.later{a:Addr}{o:O}(h:OAt K cl μ H a o)(l:Lat μ H μ' H')(ka:H' a=H a):OAt K cl μ' H' a o:=by
 cases o with
 | lst ds=>obtain⟨xs,e,q⟩:=h;exact⟨xs,by rw[ka];exact e,q.later l⟩
 | dct kvs=>obtain⟨xs,e,q⟩:=h;exact⟨xs,by rw[ka];exact e,Paired.mono (λ_ _ ⟨z,w⟩=>⟨z,w.later l⟩) q⟩
 | dcT kvs=>obtain⟨es,e,h1,h2,q⟩:=h;exact⟨es,by rw[ka];exact e,h1,h2,Paired.mono (λ_ _ ⟨b,v,z,a1,a2,a3,a4,a5,a6⟩=>⟨b,v,z,a1,a2.later l,a3,a4,a5,a6.later l⟩) q⟩
 | exc c fs=>
  obtain⟨xc,gs,q,fr,h⟩:=h;refine⟨xc,gs,Paired.mono (λ_ _ ⟨z,w⟩=>⟨z,w.later l⟩) q,fr,?_⟩;rcases h with ⟨z,e⟩ | ⟨d,h1,h2,e,e2⟩
  ·grind
  ·exact .inr ⟨d,h1,l.out e2 h2,by rw[ka];exact e,l.oth _ _ e2 h2⟩
theorem Rep.pushed(r:Rep K cl μ S H)(h:H p=none)(k:∀a u,H a=some u->H' a=some u)(i:OAt K cl (μ.push p) H' p o):Rep K cl (μ.push p) (S++[o]) H':=by
 have l:=Lat.pushed (μ:=μ) h k;refine⟨by simp[Mp.push,r.len],?_,λn u a d c=>?_,λa m=>?_⟩
 ·show(μ.pl++[p]).Nodup;rw[Mx];exact⟨r.nd,by simp,λa m b m2=>by rw[JK.mp m2];rintro rfl;exact r.notin h m⟩
 ·have c:(μ.pl++[p])[n]?=some a:=c;by_cases f:n<S.length
  ·rw[Jz f]at d;rw[Jz (by rw[r.len];exact f)]at c;have q:=r.ats n u a d c;obtain⟨z,g⟩:=q.some;exact q.later l ((k a z g).trans g.symm)
  ·have e:n=S.length:=by
    have:=(Js.mp d).1;simp at this;omega
   subst e;rw[<- r.len]at c;simp at d c;subst d;subst c;exact i
 ·obtain⟨j,u,s⟩:=r.res a m;refine⟨λz=>?_,u,k a u s⟩;rcases JY.mp (z)with z | z
  ·exact j z
  ·grind
theorem Lat.wrote(h:a∈μ.pl):Lat μ H μ (upd H a o):=⟨λ_ _ h=>h,λb u e n=>by rw[a8 (λz=>n (by rw[z];exact h))];exact e,λ_ h=>.inl h,rfl⟩
theorem Rep.wrote{n:Nat}{a:Addr}{u:HO}{o:O}(r:Rep K cl μ S H)(e:μ.pl[n]?=some a)(ho:OAt K cl μ (upd H a u) a o):Rep K cl μ (S.set n o) (upd H a u):=by
 have m:a∈μ.pl:=JL e;refine⟨by simp[r.len],r.nd,λk w b e1 e2=>?_,λb mb=>let ⟨h1,u',h2⟩:=r.res b mb;⟨h1,u',by rw[a8 (λz=>h1 (by rw[z];exact m))];exact h2⟩⟩;by_cases hk:n=k
 ·subst hk;rw[e]at e2;ext e2;rw[Ke (by have:=(Js.mp e).1;rw[r.len]at this;exact this)]at e1;ext e1;exact ho
 ·rw[Kk hk]at e1;have hb:b≠a:=λz=>by
   subst z;obtain⟨h1,q1⟩:=Js.mp e;obtain⟨h2,q2⟩:=Js.mp e2;exact hk ((Nr r.nd).mp (q1.trans q2.symm))
  exact(r.ats k w b e1 e2).later (Lat.wrote m) (a8 hb)
end
def Mp.hold(μ:Mp)(p:Addr):Mp:=⟨μ.pl,p::μ.rs⟩
mutual
theorem RD.move{K:PySem.W.Frag}{μ μ':Mp}{H H':Hp}(g:∀(n:Nat)(a:Addr),μ.pl[n]?=some a->μ'.pl[n]?=some a)(c:∀a u,H a=some u->a∉μ.pl->a∉μ.rs->H' a=some u/\a∉μ'.pl/\a∉μ'.rs):∀{d:D}{v:V},RD K μ H d v->RD K μ' H' d v
 | _,_,.non=>.non
 | _,_,.bl b=>.bl b
 | _,_,.int i=>.int i
 | _,_,.str x=>.str x
 | _,_,.tup h r=>.tup (h.imp (λ⟨q,e,f⟩=>by
   rcases q with q | ⟨o,q⟩
   ·exact⟨.inl (c _ _ q e f).1,(c _ _ q e f).2⟩
   ·exact⟨.inr ⟨o,(c _ _ q e f).1⟩,(c _ _ q e f).2⟩) id) (RDs.move g c r)
 | _,_,.lst h r=>.lst (c _ _ h.1 h.2.1 h.2.2) (RDs.move g c r)
 | _,_,.scr h r=>.scr (h.imp (λ⟨q,e,f⟩=>by
   rcases q with q | ⟨o,q⟩
   ·exact⟨.inl (c _ _ q e f).1,(c _ _ q e f).2⟩
   ·exact⟨.inr ⟨o,(c _ _ q e f).1⟩,(c _ _ q e f).2⟩) id) (RDs.move g c r)
 | _,_,.ref h=>.ref (g _ _ h)
theorem RDs.move{K:PySem.W.Frag}{μ μ':Mp}{H H':Hp}(hp:∀(n:Nat)(a:Addr),μ.pl[n]?=some a->μ'.pl[n]?=some a)(ho:∀a u,H a=some u->a∉μ.pl->a∉μ.rs->H' a=some u/\a∉μ'.pl/\a∉μ'.rs):∀{ds:List D}{vs:List V},RDs K μ H ds vs->RDs K μ' H' ds vs
 | _,_,.nil=>.nil
 | _,_,.cons h r=>.cons (RD.move hp ho h) (RDs.move hp ho r)
end
section
variable {K:PySem.W.Frag}{cl:ClW}{μ:Mp}{S:Sto}{H:Hp}
theorem Rep.move{H':Hp}(r:Rep K cl μ S H)(hr:∀a,a∈μ'.rs->a∉μ'.pl/\∃u,H' a=some u)(hp:μ'.pl=μ.pl)(hk:∀a,a∈μ.pl->H' a=H a)(hx:∀a u,H a=some (.ext u)->H' a=some (.ext u))(ho:∀a u,H a=some u->a∉μ.pl->a∉μ.rs->H' a=some u/\a∉μ'.pl/\a∉μ'.rs):Rep K cl μ' S H':=by
 have hp':∀(n:Nat)(a:Addr),μ.pl[n]?=some a->μ'.pl[n]?=some a:=λn a e=>by rw[hp];exact e
 refine⟨by rw[hp];exact r.len,by rw[hp];exact r.nd,λn o a e1 e2=>?_,hr⟩;rw[hp]at e2;have ka:=hk a (JL e2);have h:=r.ats n o a e1 e2;cases o with
 | lst ds=>obtain⟨xs,e,q⟩:=h;exact⟨xs,by rw[ka];exact e,q.move hp' ho⟩
 | dct kvs=>obtain⟨xs,e,q⟩:=h;exact⟨xs,by rw[ka];exact e,Paired.mono (λ_ _ ⟨z,w⟩=>⟨z,w.move hp' ho⟩) q⟩
 | dcT kvs=>obtain⟨es,e,h1,h2,q⟩:=h;exact⟨es,by rw[ka];exact e,h1,h2,Paired.mono (λ_ _ ⟨b,v,z,a1,a2,a3,a4,a5,a6⟩=>⟨b,v,z,a1,a2.move hp' ho,a3,a4,a5,a6.move hp' ho⟩) q⟩
 | exc c fs=>
  obtain⟨xc,gs,q,fr,h⟩:=h;refine⟨xc,gs,Paired.mono (λ_ _ ⟨z,w⟩=>⟨z,w.move hp' ho⟩) q,fr,?_⟩;rcases h with ⟨z,e⟩ | ⟨d,h1,h2,e,e2⟩
  ·grind
  ·exact .inr ⟨d,h1,by rw[hp];exact h2,by rw[ka];exact e,hx _ _ e2⟩
end
section
variable (K:PySem.W.Frag)(cl:ClW)(xe:Addr->Hp->Prop)
def Post{b:Type}(μ:Mp)(H:Hp)(r:R b)(G:b->Sto->Mp->Hp->Prop):Prop:=match r with
 | .ok a S=>∀μ' H',Lat μ H μ' H'->Rep K cl μ' S H'->G a S μ' H'
 | .exn n S=>∀μ' H' a,Lat μ H μ' H'->Rep K cl μ' S H'->μ'.pl[n]?=some a->xe a H'
 | .bad=>False
end
section
variable {K:PySem.W.Frag}{cl:ClW}{xe:Addr->Hp->Prop}{α β:Type}{μ μ1:Mp}{H H1:Hp}
theorem Post.later{G:α->Sto->Mp->Hp->Prop}(h:Post K cl xe μ H r G)(l:Lat μ H μ1 H1):Post K cl xe μ1 H1 r G:=by
 cases r with
 | ok a S=>exact λμ' H' k r=>h μ' H' (l.trans k) r
 | exn n S=>exact λμ' H' a k r e=>h μ' H' a (l.trans k) r e
 | bad=>exact h
theorem Post.imp{G G':α->Sto->Mp->Hp->Prop}(h:Post K cl xe μ H r G)(k:∀a S μ' H',Lat μ H μ' H'->Rep K cl μ' S H'->G a S μ' H'->G' a S μ' H'):Post K cl xe μ H r G':=by
 cases r with
 | ok a S=>exact λμ' H' l r=>k a S μ' H' l r (h μ' H' l r)
 | exn n S=>exact h
 | bad=>exact h
theorem Post.bind{k:α->M β}{S:Sto}{G:β->Sto->Mp->Hp->Prop}(h:Post K cl xe μ H (bind m k S) G):Post K cl xe μ H (m S) (λa S1 μ1 H1=>Post K cl xe μ1 H1 (k a S1) G):=by
 unfold L3.bind at h;cases e:m S with
 | ok a S1=>
  rw[e]at h;exact λμ' H' l r=>Post.later h l
 | exn n S1=>rw[e]at h;exact h
 | bad=>rw[e]at h;exact h
theorem Post.ret{G:α->Sto->Mp->Hp->Prop}(h:Post K cl xe μ H (ret a S) G):∀μ' H',Lat μ H μ' H'->Rep K cl μ' S H'->G a S μ' H':=h
end
def EnvOk(K:PySem.W.Frag)(μ:Mp)(H:Hp)(ρ:Env)(σ:L2.St):Prop:=ρ.length=σ.length/\∀(i:Nat)(d:D),ρ[i]?=some (some d)->∃v,σ[i]?=some (some v)/\RD K μ H d v
theorem EnvOk.later{K:PySem.W.Frag}{μ a:Mp}{H b:Hp}{ρ:Env}{σ:L2.St}(h:EnvOk K μ H ρ σ)(l:Lat μ H a b):EnvOk K a b ρ σ:=⟨h.1,λi d e=>let ⟨v,q,r⟩:=h.2 i d e;⟨v,q,r.later l⟩⟩
theorem EnvOk.set{K:PySem.W.Frag}{μ:Mp}{H:Hp}{ρ:Env}{σ:L2.St}{d:D}{v:V}(h:EnvOk K μ H ρ σ)(r:RD K μ H d v)(i:Nat):EnvOk K μ H (ρ.set i (some d)) (σ.set i (some v)):=by
 refine⟨by simp[h.1],λj e b=>?_⟩;by_cases a:i=j
 ·subst a;have c:i<ρ.length:=by
   have:=(Js.mp b).1;simpa using this
  rw[Ke c]at b;ext b;exact⟨v,Ke (by rw[<- h.1];exact c),r⟩
 ·rw[Kk a]at b;obtain⟨u,q,f⟩:=h.2 j e b;exact⟨u,by rw[Kk a];exact q,f⟩
section
variable (K:PySem.W.Frag)(cl:ClW)(xe:Addr->Hp->Prop)
def tD(f:Env->M D):TE:=λσ H Q=>∃μ S ρ,EnvOk K μ H ρ σ/\Rep K cl μ S H/\Post K cl xe μ H (f ρ S) λd _ μ' H'=>∀v,RD K μ' H' d v->Q v H'
def tDs(f:Env->M (List D)):TA:=λσ H Q=>∃μ S ρ,EnvOk K μ H ρ σ/\Rep K cl μ S H/\Post K cl xe μ H (f ρ S) λds _ μ' H'=>∀vs,RDs K μ' H' ds vs->Q vs H'
def tBo(f:Env->M Bool):TT:=λσ H Q=>∃μ S ρ,EnvOk K μ H ρ σ/\Rep K cl μ S H/\Post K cl xe μ H (f ρ S) λb _ _ H'=>Q b H'
def rP2(g:D->D->M D):R2:=λx y H Q=>∃μ S d e,RD K μ H d x/\RD K μ H e y/\Rep K cl μ S H/\Post K cl xe μ H (g d e S) λr _ μ' H'=>∀v,RD K μ' H' r v->Q v H'
def rPs(g:List D->M D):List V->Hp->VK->Prop:=λxs H Q=>∃μ S ds,RDs K μ H ds xs/\Rep K cl μ S H/\Post K cl xe μ H (g ds S) λr _ μ' H'=>∀v,RD K μ' H' r v->Q v H'
end
theorem PE.imp(h:PE X e t)(k:∀σ H Q,t' σ H Q->t σ H Q):PE X e t':=λπ s σ H Q I q=>h π s σ H Q I (k σ H Q q)
theorem PT.imp(h:PT X e t)(k:∀σ H Q,t' σ H Q->t σ H Q):PT X e t':=λπ s σ H Q I q=>h π s σ H Q I (k σ H Q q)
theorem PW.imp(h:PW X e t)(k:∀σ H Q,t' σ H Q->t σ H Q):PW X e t':=λw π s σ H Q I q=>h w π s σ H Q I (k σ H Q q)
theorem PA.imp(h:PA X es t)(k:∀σ H Q,t' σ H Q->t σ H Q):PA X es t':=λp π s σ H Q I q=>h p π s σ H Q I (k σ H Q q)
theorem PS.imp{st:Stmt}{t t':TS}(h:PS X st t)(k:∀D σ H,t' D σ H->t D σ H):PS X st t':=λπ s σ H D I q=>h π s σ H D I (k D σ H q)
theorem PSs.imp{st:List Stmt}{t t':TS}(h:PSs X st t)(k:∀D σ H,t' D σ H->t D σ H):PSs X st t':=λπ s σ H D I q=>h π s σ H D I (k D σ H q)
section
variable {X:Cx}{cl:ClW}{xe:Addr->Hp->Prop}{a b c:Expr}{es:List Expr}{pos:Pos}{f g:Env->M D}
theorem f8:PE X e (tD X.K cl xe λ_=>bad):=λ_ _ _ _ _ _ ⟨_,_,_,_,_,p⟩=>p.elim
theorem gv:PT X e (tBo X.K cl xe λ_=>bad):=λ_ _ _ _ _ _ ⟨_,_,_,_,_,p⟩=>p.elim
theorem pw_bad:PW X e (tBo X.K cl xe λ_=>bad):=λ_ _ _ _ _ _ _ ⟨_,_,_,_,_,p⟩=>p.elim
theorem G6(h:PE X e (tC v))(r:∀μ H,RD X.K μ H d v):PE X e (tD X.K cl xe λ_=>ret d):=PE.imp h λσ H Q ⟨μ,S,ρ,b,a,p⟩=>p.ret μ H (Lat.refl _ _) a v (r μ H)
def getD(i:Nat)(ρ:Env):M D:=match ρ[i]? with
 | some (some d)=>ret d
 | _=>bad
theorem Aq{e:Expr}(h:PE X e (BL i)):PE X e (tD X.K cl xe λρ=>getD i ρ):=PE.imp h λσ H Q ⟨μ,S,ρ,b,a,p⟩=>by
 cases e:ρ[i]? with
 | none=>simp only[getD,e]at p;exact p.elim
 | some o=>
  cases o with
  | none=>simp only[getD,e]at p;exact p.elim
  | some d=>
   simp only[getD,e]at p;obtain⟨v,q,r⟩:=b.2 i d e;exact⟨v,q,p.ret μ H (Lat.refl _ _) a v r⟩
theorem AX(e:PE X a (tD X.K cl xe f))(k:PE X b (tD X.K cl xe g))(s:OpR X (binaryOp op) (rP2 X.K cl xe h)) :
  PE X (.BinOp a op b pos) (tD X.K cl xe λρ=>bind (f ρ) λx=>bind (g ρ) λy=>h x y):=PE.imp (Gi s e k) λσ H Q ⟨μ,S,ρ,d,j,p⟩=>
 ⟨μ,S,ρ,d,j,p.bind.imp λx S1 c z t q i v r=>⟨c,S1,ρ,d.later t,q,i.bind.imp λy S2 μ2 w l o m u n=>⟨μ2,S2,x,y,r.later l,n,o,m⟩⟩⟩
theorem Dn(e:PE X a (tD X.K cl xe f))(k:PE X b (tD X.K cl xe g))(s:OpR X (compareOp op) (rP2 X.K cl xe h))(w:behindInMarks op b=false) :
  PE X (.Compare a [op] [b] pos) (tD X.K cl xe λρ=>bind (f ρ) λx=>bind (g ρ) λy=>h x y):=PE.imp (yj s e k w) λσ H Q ⟨μ,S,ρ,d,j,p⟩=>
 ⟨μ,S,ρ,d,j,p.bind.imp λx S1 c A t q i v r=>⟨c,S1,ρ,d.later t,q,i.bind.imp λy S2 μ2 z l o m u n=>⟨μ2,S2,x,y,r.later l,n,o,m⟩⟩⟩
theorem zq(e:PE X a (tD X.K cl xe f))(k:PE X b (tD X.K cl xe g))(s:IxR X (rP2 X.K cl xe h))(hs:di b) :
  PE X (.Subscript a b pos) (tD X.K cl xe λρ=>bind (f ρ) λx=>bind (g ρ) λy=>h x y):=PE.imp (zB s e k hs) λσ H Q ⟨μ,S,ρ,d,j,p⟩=>
 ⟨μ,S,ρ,d,j,p.bind.imp λx S1 c z t q i v r=>⟨c,S1,ρ,d.later t,q,i.bind.imp λy S2 μ2 w l o m u n=>⟨μ2,S2,x,y,r.later l,n,o,m⟩⟩⟩
theorem GG(n:PT X c (tBo X.K cl xe t))(k:PE X a (tD X.K cl xe f))(m:PE X b (tD X.K cl xe g)):PE X (.IfExp c a b pos) (tD X.K cl xe λρ=>bind (t ρ) λq=>if q=true then f ρ else g ρ):=PE.imp (rm n k m) λσ H Q ⟨μ,S,ρ,e,l,p⟩=>
 ⟨μ,S,ρ,e,l,p.bind.imp λq S1 d o j i h=>by
  cases q with
  | true=>exact⟨d,S1,ρ,e.later j,i,h⟩
  | false=>exact⟨d,S1,ρ,e.later j,i,h⟩⟩
theorem CK(h:PT X a (tBo X.K cl xe t)):PT X (.UnaryOp .Not a pos) (tBo X.K cl xe λρ=>bind (t ρ) λq=>ret (!q)):=PT.imp (Bl h) λσ H Q ⟨μ,S,ρ,f,d,p⟩=>
 ⟨μ,S,ρ,f,d,p.bind.imp λq S1 b g i e c=>c.ret b g (Lat.refl _ _) e⟩
theorem vr(h:PT X a (tBo X.K cl xe t)):PW X (.BoolOp .And [a] pos) (tBo X.K cl xe t):=pw_and1 h
theorem Bx(h:PT X a (tBo X.K cl xe t)):PW X (.BoolOp .Or [a] pos) (tBo X.K cl xe t):=pw_or1 h
theorem BF{c:List Expr}(h:PT X a (tBo X.K cl xe t))(k:PW X (.BoolOp .And (b::c) pos) (tBo X.K cl xe u)):PW X (.BoolOp .And (a::b::c) pos) (tBo X.K cl xe λρ=>bind (t ρ) λq=>if q=true then u ρ else ret false):=PW.imp (pw_and h k) λσ H Q ⟨μ,S,ρ,g,i,p⟩=>
 ⟨μ,S,ρ,g,i,p.bind.imp λq S1 d l j f e=>by
  cases q with
  | true=>exact⟨d,S1,ρ,g.later j,f,e⟩
  | false=>exact e.ret d l (Lat.refl _ _) f⟩
theorem Du{c:List Expr}(h:PT X a (tBo X.K cl xe t))(k:PW X (.BoolOp .Or (b::c) pos) (tBo X.K cl xe u)):PW X (.BoolOp .Or (a::b::c) pos) (tBo X.K cl xe λρ=>bind (t ρ) λq=>if q=true then ret true else u ρ):=PW.imp (pw_or h k) λσ H Q ⟨μ,S,ρ,g,i,p⟩=>
 ⟨μ,S,ρ,g,i,p.bind.imp λq S1 d l j f e=>by
  cases q with
  | true=>exact e.ret d l (Lat.refl _ _) f
  | false=>exact⟨d,S1,ρ,g.later j,f,e⟩⟩
def asB(d:D):M Bool:=match d with
 | .bl b=>ret b
 | _=>bad
theorem AM{K:PySem.W.Frag}{a:Mp}{c:Hp}{S:Sto}{d:D}{v:V}{Q:Bool->Hp->Prop}(f:RD K a c d v)(e:Rep K cl a S c)(p:Post K cl xe a c (asB d S) λb _ _ H'=>Q b H'):∃k,v=.bl k/\Q k c:=by
 cases f with
 | bl b=>exact⟨b,rfl,p.ret a c (Lat.refl _ _) e⟩
 | _=>exact p.elim
theorem CT(o:PE X a (tD X.K cl xe f))(k:PE X b (tD X.K cl xe g))(r:OpR X (compareOp op) (rP2 X.K cl xe h))(n:behindInMarks op b=false) :
  PT X (.Compare a [op] [b] pos) (tBo X.K cl xe λρ=>bind (f ρ) λx=>bind (g ρ) λy=>bind (h x y) asB):=PT.imp (jO r o k n) λσ H Q ⟨μ,S,ρ,d,t,p⟩=>
 ⟨μ,S,ρ,d,t,p.bind.imp λx S1 c I s q j v m=>⟨c,S1,ρ,d.later s,q,j.bind.imp λy S2 μ2 J A D l u B=>⟨μ2,S2,x,y,m.later A,B,D,l.bind.imp λz F e E G C i w rw=>AM rw C i⟩⟩⟩
end
end L3
namespace HT
open PySem PySem.Spec PyProof.Rows
theorem noFill_tuple_mul:fillsNumberSlot (.type "tuple") "mul" = pure false:=
 PySem.fillsNumberSlot_seq F.slot_tuple_mul.lookup (by decide +kernel) F.slot_tuple_rmul.lookup (by decide +kernel)
theorem repeat_tuple:seqRepeat? (.type "tuple")=pure (some (.builtin "tuple.__mul__")):=by
 unfold seqRepeat?;rw[PySem.seqSlot_of (name:="__mul__") F.slot_tuple_mul.lookup (by decide +kernel),PySem.seqSlot_of (name:="__rmul__") F.slot_tuple_rmul.lookup (by decide +kernel)];rfl
theorem int_rmul_tuple(a:Int)(t:Tok)(l:Addr)(items:Array Value)(n:Nat)(b:Option Addr)(c:Array (Option Value)) :
  Meets (Builtin.«int.__rmul__» ⟨[.int a t,.ref l],[]⟩) (λ_ R s=>s.heap.get? l=some { cls:=.type "tuple",dict:=b,data:=.seq items n,slots:=c }/\R (.ok (.ret Value.notImplemented)) s):=
 .of_wp λprog w A R s h=>by obtain⟨f,g,d,i,e⟩:=s;obtain⟨j,h⟩:=h;wp_walk;exact⟨_,rfl,h⟩
theorem tuple_mul1(l:Addr)(items:Array Value)(n:Nat)(a:Option Addr)(b:Array (Option Value))(u:Tok) :
  Meets (Builtin.«tuple.__mul__» ⟨[.ref l,.int 1 u],[]⟩) (λ_ R s=>s.heap.get? l=some { cls:=.type "tuple",dict:=a,data:=.seq items n,slots:=b }/\R (.ok (.ret (.ref l))) s):=
 .of_wp λprog w A R s h=>by obtain⟨e,g,d,f,c⟩:=s;obtain⟨i,h⟩:=h;wp_walk;exact⟨_,rfl,h⟩
theorem gm{k:Int}(b:1<=k)(a:k<2 ^ 63):¬ ((decide (k < -(2 ^ 63))||decide (k≥2 ^ 63))=true):=by grind
theorem tuple_mul2(l:Addr)(items:Array Value)(n:Nat)(r:Option Addr)(v:Array (Option Value))(k:Int)(u:Tok)(a:¬ (items.isEmpty||k==1)=true)(B:2<=k)(p:k<2 ^ 63)(hsz:items.size * k.toNat<=sizeLine) :
  Meets (Builtin.«tuple.__mul__» ⟨[.ref l,.int k u],[]⟩) (λ_ R s=>s.heap.get? l=some { cls:=.type "tuple",dict:=r,data:=.seq items n,slots:=v }/\R (.ok (.ret (.ref s.heap.objs.size))) { s with heap:=s.heap.push { cls:=.type "tuple",data:=.seq ((List.replicate k.toNat items).foldl (·++·) #[]) } }):=
 .of_wp λprog w A R s h=>by
  obtain⟨j,g,d,y,x⟩:=s;obtain⟨t,h⟩:=h;have q:=gm ∅ p;have e:=JS;have i:((k.toNat:Nat):Int)=k:=Int.toNat_of_nonneg ∅;have b:(items.size:Int) * k=((items.size * k.toNat:Nat):Int):=by rw[NI,i]
  have c:¬ (decide (k<=0)||items.isEmpty)=true:=by
   simp only[MN,JJ]at a ⊢;intro z;rcases z with z | z
   ·omega
   ·exact a (.inl z)
  have f:¬ ((items.size:Int) * k > (2 ^ 63-1) / 8):=by rw[b];omega
  have m:¬ Builtin.Tuple.tupleTooMany ((items.size:Int) * k)=true:=by
   rw[b];simp only[Builtin.Tuple.tupleTooMany,JJ];omega
  have hz:((List.replicate k.toNat items).foldl (·++·) #[]).size<=sizeLine:=by
   rw[AutoListH.size_joined,Nat.mul_comm];simpa using hsz
  wp_walk
  rw[if_neg q];have o:IsTup j l items:=⟨_,t,rfl,n,rfl⟩;refine Jn (Nk o ?_);rw[if_neg a];rw[if_neg c];rw[if_neg f];rw[if_neg m];refine Jn (JT ?_ hz);exact Jo ⟨_,rfl,h⟩
end HT
namespace L2
open PySem PySem.Spec PyProof.Rows
section
variable {X:Cx}
theorem yO:OpR X (binaryOp .Mult) (λx y H Q=>∃a k xs,x=.ref a/\y=.int k/\SqT X.K H a xs/\xs≠[]/\1<=k/\k<2 ^ 63/\xs.length * k.toNat<=sizeLine/\(k=1->Q (.ref a) H)/\(k≠1->∀p,H p=none->Q (.ref p) (upd H p (.tup (List.replicate k.toNat xs).flatten)))):=by
 intro π s σ H x y v u Q I J C h;obtain⟨a,k,xs,rfl,rfl,o,r,N,k2,hz,B,w⟩:=h;ext J;obtain⟨t,rfl⟩:=C;obtain⟨c,g,D,_⟩:=I.tuple o;obtain⟨⟨E,e,j,f⟩,d,G,n,hd⟩:=id D;subst G hd;have L:=g.length;by_cases i:k=1
 ·subst i;exact LY ⋯ ⟨_,d,rfl⟩ (λs'=>MH s' 1 t) HT.noFill_tuple_mul F.fills_int_mul F.slot_int_rmul HT.repeat_tuple F.slot_int_index.lookup
   (LQ F.slot_int_rmul (MH s 1 t) F.entry_int_rmul (F.args_int_rmul_2 _ _) (HT.int_rmul_tuple 1 t a c.toArray n e f)
    ⟨d,rfl,⟨_,d,rfl⟩,LQ F.slot_tuple_mul ⟨_,d,rfl⟩ F.entry_tuple_mul (F.args_tuple_mul_2 _ _) (HT.tuple_mul1 a c.toArray n e f t) ⟨d,.ref a,H,I,rfl,B rfl⟩⟩)
 ·have M:=λz=>r (g.nil_iff.mp z);have l:¬ (c.toArray.isEmpty||k==1)=true:=by
   simp only[MN,Mm];rintro(z | z)
   ·grind
   ·exact i z
  refine LY ⋯ ⟨_,d,rfl⟩ (λs'=>MH s' k t) HT.noFill_tuple_mul F.fills_int_mul F.slot_int_rmul HT.repeat_tuple F.slot_int_index.lookup
   (LQ F.slot_int_rmul (MH s k t) F.entry_int_rmul (F.args_int_rmul_2 _ _) (HT.int_rmul_tuple k t a c.toArray n e f)
    ⟨d,rfl,⟨_,d,rfl⟩,LQ F.slot_tuple_mul ⟨_,d,rfl⟩ F.entry_tuple_mul (F.args_tuple_mul_2 _ _) (HT.tuple_mul2 a c.toArray n e f k t l ∅ k2 (by rw[Jv,<- L];exact hz)) ⟨d,?_⟩⟩)
  have m:List.foldl (λA K=>A++K) #[] (List.replicate k.toNat c.toArray)=(List.replicate k.toNat c).flatten.toArray:=by
   have:=U3 c k.toNat [];rw[NE]at this;exact this
  rw[m];refine⟨.ref s.heap.objs.size,_,I.laid (λb ob q=>Jq _ q) (Ju _) ?_,rfl,w i _ (I.hok.fresh (Ju _))⟩;exact⟨by rw[jZ,Nat.mul_comm];exact hz,_,g.rep k.toNat,TupN.new _ _⟩
end
end L2
namespace L3
open PySem PySem.Spec PyProof.Rows L2
def lstOf(d:D):M (List D):=match d with
 | .lst ds=>ret ds
 | .ref n=>λS=>match S[n]? with
  | some (.lst ds)=>.ok ds S
  | _=>.bad
 | _=>bad
def M9(d:D):M (List D):=match d with
 | .tup ds=>ret ds
 | .scr ds=>ret ds
 | d=>lstOf d
section
variable {K:PySem.W.Frag}{cl:ClW}{xe:Addr->Hp->Prop}{μ:Mp}{H:Hp}{S:Sto}{α:Type}
theorem j0(rd:RD K μ H d v)(rp:Rep K cl μ S H)(p:Post K cl xe μ H (lstOf d S) G):∃a xs ds,v=.ref a/\H a=some (.lst xs)/\RDs K μ H ds xs/\lstOf d S=.ok ds S:=by
 cases rd with
 | lst h r=>exact⟨_,_,_,rfl,h.1,r,rfl⟩
 | ref e=>
  rename_i n a;simp only[lstOf]at p;cases q:S[n]? with
  | none=>rw[q]at p;exact p.elim
  | some o=>
   cases o with
   | dcT _=>rw[q]at p;exact p.elim
   | lst ds=>
    obtain⟨xs,h1,h2⟩:=rp.ats n _ a q e;exact⟨a,xs,ds,rfl,h1,h2,by simp only[lstOf,q]⟩
   | dct _=>rw[q]at p;exact p.elim
   | exc _ _=>rw[q]at p;exact p.elim
 | _=>exact p.elim
theorem pi(rd:RD K μ H d v)(rp:Rep K cl μ S H)(p:Post K cl xe μ H (M9 d S) G):∃a xs ds,v=.ref a/\(SqL K H a xs\/SqT K H a xs)/\RDs K μ H ds xs/\M9 d S=.ok ds S:=by
 cases rd with
 | tup h r=>exact⟨_,_,_,rfl,.inr h.sq,r,rfl⟩
 | scr h r=>exact⟨_,_,_,rfl,.inl h.sq,r,rfl⟩
 | lst h r=>exact⟨_,_,_,rfl,.inl h.sq,r,rfl⟩
 | ref e=>
  obtain⟨a,xs,ds,h1,h2,h3,h4⟩:=j0 (.ref e) rp p;exact⟨a,xs,ds,h1,.inl (.inl (.inl h2)),h3,h4⟩
 | _=>exact p.elim
theorem Post.ok_bind{a:α}{G:β->Sto->Mp->Hp->Prop}(e:m S=.ok a S)(p:Post K cl xe μ H (L3.bind m k S) G):Post K cl xe μ H (k a S) G:=by
 unfold L3.bind at p;rw[e]at p;exact p
theorem D9(b:Rep K cl μ S H)(r:RDs K μ H ds xs)(a:H p=none):Lat μ H μ (upd H p (.tup xs))/\Rep K cl μ S (upd H p (.tup xs))/\RD K μ (upd H p (.tup xs)) (.tup ds) (.ref p):=
 ⟨Lat.laid a,b.laid a,.tup (.inl ⟨.inl b8,b.notin a,b.notrs a⟩) (r.later (Lat.laid a))⟩
theorem L8(b:Rep K cl μ S H)(r:RDs K μ H ds xs)(a:H p=none):Lat μ H μ (upd H p (.lst xs))/\Rep K cl μ S (upd H p (.lst xs))/\RD K μ (upd H p (.lst xs)) (.lst ds) (.ref p):=
 ⟨Lat.laid a,b.laid a,.lst ⟨b8,b.notin a,b.notrs a⟩ (r.later (Lat.laid a))⟩
theorem mw(c:Rep K cl μ S H)(r:RDs K μ H ds xs)(b:H p=none):Lat μ H (μ.push p) (upd H p (.lst xs))/\Rep K cl (μ.push p) (S++[.lst ds]) (upd H p (.lst xs))/\RD K (μ.push p) (upd H p (.lst xs)) (.ref S.length) (.ref p):=by
 have k:∀a u,H a=some u->upd H p (.lst xs) a=some u:=λa u e=>by rw[a8 (b9 e b)];exact e
 have l:=Lat.pushed (μ:=μ) b k;refine⟨l,c.pushed b k ⟨xs,b8,r.later l⟩,.ref ?_⟩;show(μ.pl++[p])[S.length]?=some p;rw[<- c.len];simp
theorem Post.guard[Decidable c]{a:α}{G:α->Sto->Mp->Hp->Prop}(p:Post K cl xe μ H ((if c then L3.ret a else L3.bad) S) G):c/\∀μ' H',Lat μ H μ' H'->Rep K cl μ' S H'->G a S μ' H':=by
 by_cases b:c
 ·rw[if_pos b]at p;exact⟨b,p⟩
 ·rw[if_neg b]at p;exact p.elim
end
def e9{a b:Type}(f:a->Option b):List a->Option (List b)
 | []=>some []
 | x::xs=>match f x,e9 f xs with
  | some y,some ys=>some (y::ys)
  | _,_=>none
def i8:Nat->Sto->D->Option PyData
 | 0,_,_=>none
 | n+1,S,d=>match d with
  | .non=>some .none
  | .bl b=>some (.bool b)
  | .int i=>some (.int i)
  | .str x=>some (.str x)
  | .tup ds=>(e9 (i8 n S) ds).map .tuple
  | .lst ds=>(e9 (i8 n S) ds).map .list
  | .scr ds=>(e9 (i8 n S) ds).map .list
  | .ref k=>match S[k]? with
   | some (.lst ds)=>(e9 (i8 n S) ds).map .list
   | _=>none
theorem gb{K:PySem.W.Frag}{μ:Mp}{H:Hp}{S:Sto}{n:Nat}(f:∀{d:D}{v:V}{q:PyData},i8 n S d=some q->RD K μ H d v->DAt K H v q):∀{ds:List D}{vs:List V}{a:List PyData},e9 (i8 n S) ds=some a->RDs K μ H ds vs->DAll K H vs a
 | [],_,a,e,r=>by ext r;ext e;exact .nil
 | d::ds,_,a,e,r=>by
  cases r with
  | cons h t=>
   simp only[e9]at e;cases b:i8 n S d with
   | none=>rw[b]at e;ext e
   | some q=>
    cases c:e9 (i8 n S) ds with
    | none=>grind
    | some g=>
     rw[b,c]at e;ext e;exact .cons (f b h) (gb f c t)
theorem B3{K:PySem.W.Frag}{cl:ClW}{μ:Mp}{H:Hp}{S:Sto}(rp:Rep K cl μ S H):∀(n:Nat){d:D}{v:V}{q:PyData},i8 n S d=some q->RD K μ H d v->DAt K H v q
 | 0,_,_,_,e,_=>by ext e
 | n+1,d,v,q,e,r=>by
  have all:∀{ds:List D}{vs:List V}{qs:List PyData},e9 (i8 n S) ds=some qs->RDs K μ H ds vs->DAll K H vs qs:=λe r=>gb (λe r=>B3 rp n e r) e r;have um:∀{ds:List D}{C:List PyData->PyData},(e9 (i8 n S) ds).map C=some q->∃qs,e9 (i8 n S) ds=some qs/\q=C qs:=λ{ds C} e=>by
   cases e1:e9 (i8 n S) ds with
   | none=>rw[e1]at e;ext e
   | some qs=>grind
  cases r with
  | non=>ext e;exact .non
  | bl b=>ext e;exact .bl b
  | int i=>ext e;exact .int i
  | str x=>ext e;exact .str x
  | tup h t=>obtain⟨qs,e1,rfl⟩:=um e;exact .tup h.sq (all e1 t)
  | lst h t=>obtain⟨qs,e1,rfl⟩:=um e;exact .lst h.sq (all e1 t)
  | scr h t=>obtain⟨qs,e1,rfl⟩:=um e;exact .lst h.sq (all e1 t)
  | ref h=>
   rename_i k a;simp only[i8]at e;cases q1:S[k]? with
   | none=>rw[q1]at e;ext e
   | some o=>
    rw[q1]at e;cases o with
    | lst ds=>
     obtain⟨qs,e1,rfl⟩:=um e;obtain⟨xs,h1,h2⟩:=rp.ats k _ a q1 h;exact .lst (.inl (.inl h1)) (all e1 h2)
    | dct _=>ext e
    | exc _ _=>ext e
    | dcT _=>ext e
def o9(x y:D):M D:=match x,y with
 | .int i,.int j=>ret (.int (i+j))
 | .str a,.str b=>if a.length+b.length<=sizeLine then ret (.str (a++b))else bad
 | .tup xs,.tup ys=>if xs.length+ys.length<=sizeLine then ret (.tup (xs++ys))else bad
 | x,y=>bind (lstOf x) λxs=>bind (lstOf y) λys=>if xs.length+ys.length<=sizeLine then ret (.lst (xs++ys))else bad
def eO(x y:D):M D:=match x,y with
 | .int i,.int j=>ret (.int (i-j))
 | _,_=>bad
instance (i j:Int):Decidable (CMul i j):=by unfold CMul;infer_instance
instance (i j:Int):Decidable (rH i j):=by unfold rH;infer_instance
instance (i j:Int):Decidable (wJ i j):=by unfold wJ;infer_instance
def O0(x y:D):M D:=match x,y with
 | .int i,.int j=>if 0<j then ret (.int (i % j))else bad
 | _,_=>bad
def B0(x y:D):M D:=match x,y with
 | .int i,.int j=>if rH i j then ret (.int (i / j))else bad
 | _,_=>bad
def xw(x y:D):M D:=match x,y with
 | .int i,.int j=>if wJ i j then ret (.int (i ^ j.toNat))else bad
 | _,_=>bad
def C3(x y:D):M D:=match x,y with
 | .int i,.int j=>if CMul i j then ret (.int (i * j))else bad
 | .tup ds,.int k=>if (ds≠[]/\1<=k/\k<2 ^ 63)/\ds.length * k.toNat<=sizeLine then ret (.tup (List.replicate k.toNat ds).flatten)else bad
 | x,.int k=>bind (lstOf x) λxs=>if (-(2 ^ 63)<=k/\k<2 ^ 63)/\xs.length * k.toNat<=sizeLine then ret (.lst (List.replicate k.toNat xs).flatten)else bad
 | _,_=>bad
section
variable {X:Cx}{cl:ClW}{xe:Addr->Hp->Prop}
theorem rS:OpR X (binaryOp .Add) (λx y H Q=>∃a b ys,x=.ref a/\y=.ref b/\SqT X.K H a []/\SqT X.K H b ys/\Q (.ref b) H):=by
 intro π s σ H x y v u Q I t z h;obtain⟨a,b,ys,rfl,rfl,B,C,q⟩:=h;ext t;ext z;obtain⟨w,p,F,_⟩:=I.tuple B;obtain⟨d,J,G,_⟩:=I.tuple C;ext p;obtain⟨⟨r,E,l,D⟩,k,o,n,hd⟩:=id F;obtain⟨⟨m,g,j,f⟩,c,i,A,e⟩:=id G;subst o hd i e;exact concat_meets ⟨_,k,rfl⟩ ⟨_,c,rfl⟩ Nv NR Mt Mr (Mi _ _)
   (tuple_addW0 a b #[] d.toArray n A E g D f rfl) ⟨k,c,⟨.ref b,H,I,rfl,q⟩⟩
theorem Hj:OpR X (binaryOp .Add) (rP2 X.K cl xe o9):=by
 intro π s σ H x y v u Q I n o ⟨μ,S,d,e,A,B,c,p⟩;have L:Post X.K cl xe μ H (bind (lstOf d) (λxs=>bind (lstOf e) λys=>if xs.length+ys.length<=sizeLine then ret (.lst (xs++ys))else bad) S) (λr _ μ' H'=>∀v,RD X.K μ' H' r v->Q v H')->wpAny (model X.prog X.w) X.A (binaryOp .Add v u) (EP X π σ Q) X.xe s:=λp=>by
  obtain⟨a,xs,ds,rfl,q,m,E⟩:=j0 A c p.bind;have p:=p.ok_bind E;obtain⟨b,ys,es,rfl,t,h,G⟩:=j0 B c p.bind;obtain⟨k,p⟩:=(p.ok_bind G).guard;refine Cw π s σ H _ _ v u Q I n o ⟨a,b,xs,ys,rfl,rfl,q,t,by rw[<- m.length,<- h.length];exact k,λz hz=>?_⟩;obtain⟨l,f,g⟩:=L8 c (m.append h) hz;exact p μ _ l f _ g
 ext d <;> ext e <;> try (exact L p)
 case int.int i j=>ext A;ext B;exact Aa π s σ H _ _ v u Q I n o ⟨i,j,rfl,rfl,p μ H (Lat.refl _ _) c _ (.int _)⟩
 case str.str i j=>
  ext A;ext B;obtain⟨k,p⟩:=Post.guard p;exact jK π s σ H _ _ v u Q I n o ⟨i,j,rfl,rfl,k,p μ H (Lat.refl _ _) c _ (.str _)⟩
 case tup.tup ds es=>
  obtain⟨k,p⟩:=Post.guard p;cases A with
  | tup q m=>
   cases B with
   | tup t h=>
    rename_i a xs b ys;cases ds with
    | nil=>
     ext m;exact rS π s σ H _ _ v u Q I n o ⟨a,b,ys,rfl,rfl,q.sq,t.sq,p μ H (Lat.refl _ _) c _ (.tup t h)⟩
    | cons d ds=>
     cases m with
     | cons D C=>
      rename_i K J;refine xb π s σ H _ _ v u Q I n o ⟨a,b,_,ys,rfl,rfl,q.sq,t.sq,by simp,by rw[<- h.length];simpa [C.length] using k,λz=>?_,λz w F=>?_⟩
      ·subst z;ext h;rw[Kc]at p;exact p μ H (Lat.refl _ _) c _ (.tup q (.cons D C))
      ·obtain⟨l,f,g⟩:=D9 c ((RDs.cons D C).append h) F;exact p μ _ l f _ g
theorem GJ:OpR X (binaryOp .Sub) (rP2 X.K cl xe eO):=by
 intro π s σ H x y v u Q I c f ⟨μ,S,d,e,b,a,g,p⟩;ext d <;> ext e <;> try (exact False.elim p)
 case int.int i j=>ext b;ext a;exact DM π s σ H _ _ v u Q I c f ⟨i,j,rfl,rfl,p μ H (Lat.refl _ _) g _ (.int _)⟩
theorem GK:OpR X (binaryOp .Mod) (rP2 X.K cl xe O0):=by
 intro π s σ H x y v u Q I f g ⟨μ,S,d,e,c,b,h,p⟩;ext d <;> ext e <;> try (exact False.elim p)
 case int.int i j=>
  ext c;ext b;obtain⟨a,p⟩:=Post.guard p;exact Bd π s σ H _ _ v u Q I f g ⟨i,j,rfl,rfl,a,p μ H (Lat.refl _ _) h _ (.int _)⟩
theorem Ai:OpR X (binaryOp .FloorDiv) (rP2 X.K cl xe B0):=by
 intro π s σ H x y v u Q I f g ⟨μ,S,d,e,c,b,h,p⟩;ext d <;> ext e <;> try (exact False.elim p)
 case int.int i j=>
  ext c;ext b;obtain⟨a,p⟩:=Post.guard p;exact yZ π s σ H _ _ v u Q I f g ⟨i,j,rfl,rfl,a,p μ H (Lat.refl _ _) h _ (.int _)⟩
theorem Gp:OpR X (binaryOp .Pow) (rP2 X.K cl xe xw):=by
 intro π s σ H x y v u Q I f g ⟨μ,S,d,e,c,b,h,p⟩;ext d <;> ext e <;> try (exact False.elim p)
 case int.int i j=>
  ext c;ext b;obtain⟨a,p⟩:=Post.guard p;exact Be π s σ H _ _ v u Q I f g ⟨i,j,rfl,rfl,a,p μ H (Lat.refl _ _) h _ (.int _)⟩
theorem Fa:OpR X (binaryOp .Mult) (rP2 X.K cl xe C3):=by
 intro π s σ H x y v u Q I A B ⟨μ,S,d,e,t,n,h,p⟩;have L:∀k:Int,e=.int k->Post X.K cl xe μ H (bind (lstOf d) (λxs=>if (-(2 ^ 63)<=k/\k<2 ^ 63)/\xs.length * k.toNat<=sizeLine then ret (.lst (List.replicate k.toNat xs).flatten)else bad) S) (λr _ μ' H'=>∀v,RD X.K μ' H' r v->Q v H')->wpAny (model X.prog X.w) X.A (binaryOp .Mult v u) (EP X π σ Q) X.xe s:=λk F q=>by
  clear p;subst F;ext n;obtain⟨a,xs,ds,rfl,m,b,G⟩:=j0 t h q.bind;obtain⟨⟨⟨o,k2⟩,g⟩,p⟩:=(q.ok_bind G).guard;refine CZ π s σ H _ _ v u Q I A B ⟨a,k,xs,rfl,rfl,m,o,k2,by rw[<- b.length];exact g,λz hz=>?_⟩;obtain⟨l,c,f⟩:=L8 h (b.rep k.toNat) hz;exact p μ _ l c _ f
 ext d <;> ext e <;> try (exact False.elim p)
 case int.int i j=>
  ext t;ext n;obtain⟨g,p⟩:=Post.guard p;exact Aw π s σ H _ _ v u Q I A B ⟨i,j,rfl,rfl,g,p μ H (Lat.refl _ _) h _ (.int _)⟩
 case tup.int ds k=>
  ext n;obtain⟨⟨⟨D,o,k2⟩,g⟩,p⟩:=Post.guard p;cases t with
  | tup m b=>
   rename_i a xs;have C:xs≠[]:=λz=>by subst z;ext b;exact D rfl
   refine yO π s σ H _ _ v u Q I A B ⟨a,k,xs,rfl,rfl,m.sq,C,o,k2,by rw[<- b.length];exact g,λz=>?_,λz w E=>?_⟩
   ·subst z;have e:(List.replicate (1:Int).toNat ds).flatten=ds:=by simp
    rw[e]at p;exact p μ H (Lat.refl _ _) h _ (.tup m b)
   ·obtain⟨l,c,f⟩:=D9 h (b.rep k.toNat) E;exact p μ _ l c _ f
 all_goals exact L _ rfl p
end
def eqP(a:Bool)(x y:D):M D:=λS=>match i8 64 S x,i8 64 S y with
 | some p,some q=>(if p.canLay0=true/\q.canLay0=true/\min p.depth q.depth<=60 then ret (.bl (if a then !PyData.eqv p q else PyData.eqv p q))else bad) S
 | _,_=>.bad
def eqD(c:Bool)(x y:D):M D:=match x,y with
 | .str a,.str b=>ret (.bl (if c then !decide (a=b)else decide (a=b)))
 | .int a,.int b=>ret (.bl (if c then !decide (a=b)else decide (a=b)))
 | x,y=>eqP c x y
def tX(f:Int->Int->Bool)(x y:D):M D:=match x,y with
 | .int i,.int j=>ret (.bl (f i j))
 | _,_=>bad
def bT(a:Bool)(d:PyData)(ps:List PyData):M D:=if d.canLay0=true/\PyData.canLayAll0 ps=true/\min (PyData.depthAll ps) d.depth<=60 then ret (.bl (if a then !(ps.any λy=>PyData.eqv y d)else ps.any λy=>PyData.eqv y d))else bad
def inD(a:Bool)(x y:D):M D:=λS=>match i8 64 S x,i8 64 S y with
 | some d,some (.list ps)=>bT a d ps S
 | some d,some (.tuple ps)=>bT a d ps S
 | _,_=>.bad
def isD(a:Bool)(x y:D):M D:=match y with
 | .non=>ret (.bl (match x with
  | .non=>!a
  | _=>a))
 | .bl b=>ret (.bl (match x with
  | .bl c=>if a then !(c==b)else c==b
  | _=>a))
 | _=>bad
section
variable {X:Cx}{cl:ClW}{xe:Addr->Hp->Prop}
theorem IV(q:X.A.units+64<cLine):OpR X (compareOp .Eq) (rP2 X.K cl xe (eqD false)):=by
 intro π s σ H x y v u Q I i k ⟨μ,S,d,e,j,l,c,p⟩;have g:Post X.K cl xe μ H (eqP false d e S) (λr _ μ' H'=>∀v,RD X.K μ' H' r v->Q v H')->wpAny (model X.prog X.w) X.A (compareOp .Eq v u) (EP X π σ Q) X.xe s:=λp=>by
  simp only[eqP]at p;cases f:i8 64 S d with
  | none=>rw[f]at p;exact p.elim
  | some a=>
   cases h:i8 64 S e with
   | none=>rw[f,h]at p;exact p.elim
   | some b=>
    rw[f,h]at p;obtain⟨⟨m,n,o⟩,p⟩:=Post.guard p;exact DF q π s σ H _ _ v u Q I i k ⟨a,b,B3 c 64 f j,B3 c 64 h l,m,n,o,p μ H (Lat.refl _ _) c _ (.bl _)⟩
 ext d <;> ext e <;> try (exact g p)
 case str.str a b=>
  ext j;ext l;exact EX π s σ H _ _ v u Q I i k ⟨rfl,by rw[show decide (V.str a=V.str b)=decide (a=b) by rw[LL];simp];exact p μ H (Lat.refl _ _) c _ (.bl _)⟩
theorem Hq(q:X.A.units+64<cLine):OpR X (compareOp .NotEq) (rP2 X.K cl xe (eqD true)):=by
 intro π s σ H x y v u Q I i k ⟨μ,S,d,e,j,l,c,p⟩;have g:Post X.K cl xe μ H (eqP true d e S) (λr _ μ' H'=>∀v,RD X.K μ' H' r v->Q v H')->wpAny (model X.prog X.w) X.A (compareOp .NotEq v u) (EP X π σ Q) X.xe s:=λp=>by
  simp only[eqP]at p;cases f:i8 64 S d with
  | none=>rw[f]at p;exact p.elim
  | some a=>
   cases h:i8 64 S e with
   | none=>rw[f,h]at p;exact p.elim
   | some b=>
    rw[f,h]at p;obtain⟨⟨m,n,o⟩,p⟩:=Post.guard p;exact CD q π s σ H _ _ v u Q I i k ⟨a,b,B3 c 64 f j,B3 c 64 h l,m,n,o,p μ H (Lat.refl _ _) c _ (.bl _)⟩
 ext d <;> ext e <;> try (exact g p)
 case str.str a b=>
  ext j;ext l;exact Ez π s σ H _ _ v u Q I i k ⟨rfl,by rw[show decide (V.str a=V.str b)=decide (a=b) by rw[LL];simp];exact p μ H (Lat.refl _ _) c _ (.bl _)⟩
theorem lI(h:OpR X (compareOp op) (rI0 λi j=>.bl (f i j))):OpR X (compareOp op) (rP2 X.K cl xe (tX f)):=by
 intro π s σ H x y v u Q I b g ⟨μ,S,d,e,c,k,a,p⟩;ext d <;> ext e <;> try (exact False.elim p)
 case int.int i j=>ext c;ext k;exact h π s σ H _ _ v u Q I b g ⟨i,j,rfl,rfl,p μ H (Lat.refl _ _) a _ (.bl _)⟩
theorem cH{a:Bool}(o:X.A.units+80<cLine){π:List (Addr×Obj)}{s:Shared}{σ:L2.St}{H:Hp}{x y:V}{v u:Value}{Q:VK}{d:PyData}{ps:List PyData}(I:Inv X π σ H s)(l:RelV x v)(j:RelV y u)
  (hd:DAt X.K H x d) (f:DAt X.K H y (.list ps)\/DAt X.K H y (.tuple ps)) (c:d.canLay0=true/\PyData.canLayAll0 ps=true/\min (PyData.depthAll ps) d.depth<=60)
  (q:Q (.bl (if a then !(ps.any λy=>PyData.eqv y d)else ps.any λy=>PyData.eqv y d)) H):wpAny (model X.prog X.w) X.A (compareOp (if a then .NotIn else .In) v u) (EP X π σ Q) X.xe s:=by
 obtain⟨h,i,n⟩:=c;obtain⟨m,g⟩:=hd.reads I l;have b:X.A.units+1+min (PyData.depthAll ps) d.depth<cLine:=by omega
 rcases f with f | f
 ·obtain⟨k,e⟩:=f.reads I j;cases a with
  | false=>exact SeqAt.in_list_reads e g i h b ⟨.bl _,H,I,rfl,q⟩
  | true=>exact SeqAt.notIn_list_reads e g i h b ⟨.bl _,H,I,rfl,q⟩
 ·obtain⟨k,e⟩:=f.reads I j;cases a with
  | false=>exact SeqAt.in_tuple_reads e g i h b ⟨.bl _,H,I,rfl,q⟩
  | true=>exact SeqAt.notIn_tuple_reads e g i h b ⟨.bl _,H,I,rfl,q⟩
theorem EU(neg:Bool)(hu:X.A.units+80<cLine):OpR X (compareOp (if neg then .NotIn else .In)) (rP2 X.K cl xe (inD neg)):=by
 intro π s σ H x y v u Q I rx ry ⟨μ,S,d,e,rd,re,rp,p⟩;simp only[inD]at p;cases e1:i8 64 S d with
 | none=>rw[e1]at p;exact p.elim
 | some a=>
  cases e2:i8 64 S e with
  | none=>rw[e1,e2]at p;exact p.elim
  | some b=>
   rw[e1,e2]at p;have ha:=B3 rp 64 e1 rd;have hb:=B3 rp 64 e2 re;cases b with
   | list ps=>obtain⟨c,p⟩:=Post.guard p;exact cH hu I rx ry ha (.inl hb) c (p μ H (Lat.refl _ _) rp _ (.bl _))
   | tuple ps=>obtain⟨c,p⟩:=Post.guard p;exact cH hu I rx ry ha (.inr hb) c (p μ H (Lat.refl _ _) rp _ (.bl _))
   | _=>exact p.elim
theorem GI(f:Bool):OpR X (compareOp (if f then .IsNot else .Is)) (rP2 X.K cl xe (isD f)):=by
 intro π s σ H x y v u Q I a i ⟨μ,S,d,e,h,k,j,p⟩;have g:∀b:Bool,(∀μ' H',Lat μ H μ' H'->Rep X.K cl μ' S H'->∀v,RD X.K μ' H' (.bl b) v->Q v H')->∀c,c=b->EP X π σ Q (.bool c) s:=λb p c e=>⟨.bl b,H,I,by rw[e];rfl,p μ H (Lat.refl _ _) j _ (.bl _)⟩;ext k <;> try (exact False.elim p)
 case non=>
  ext i;cases f with
  | false=>
   refine is_none_gen (g _ p _ ?_);ext h <;> first
    | (ext a;rfl)
    | (obtain⟨t,rfl⟩:=a;rfl)
  | true=>
   refine isnot_none_gen (g _ p _ ?_);ext h <;> first
    | (ext a;rfl)
    | (obtain⟨t,rfl⟩:=a;rfl)
 case bl b=>
  ext i;cases f with
  | false=>
   refine wpAny_is_plain ?_ (g _ p _ ?_)
   ·ext h <;> first
    | (ext a;rfl)
    | (obtain⟨t,rfl⟩:=a;rfl)
   ·ext h <;> first
    | (ext a;rfl)
    | (obtain⟨t,rfl⟩:=a;rfl)
    | (ext a;(rename_i c;ext c <;> ext b <;> rfl))
  | true=>
   refine wpAny_isNot_plain ?_ (g _ p _ ?_)
   ·ext h <;> first
    | (ext a;rfl)
    | (obtain⟨t,rfl⟩:=a;rfl)
   ·ext h <;> first
    | (ext a;rfl)
    | (obtain⟨t,rfl⟩:=a;rfl)
    | (ext a;(rename_i c;ext c <;> ext b <;> rfl))
end
def N5:D->Option Key
 | .int i=>some (.inl i)
 | .str x=>some (.inr x)
 | _=>none
def rN{κ:Type}[DecidableEq κ](a:List (κ×D))(k:κ):Option D:=(a.find? λb=>decide (b.1=k)).map (·.2)
def mq{κ:Type}[DecidableEq κ](a:List (κ×D))(k:κ)(v:D):List (κ×D):=if a.any (λb=>decide (b.1=k))then a.map (λb=>if b.1=k then (b.1,v)else b)else a++[(k,v)]
def bY{b:Type}:Option b->M b
 | some a=>ret a
 | none=>bad
def ixD(x y:D):M D:=match x with
 | .ref n=>λS=>match S[n]? with
  | some (.lst ds)=>(match y with
   | .int i=>bY (atI ds i)
   | _=>bad) S
  | some (.dct a)=>bY ((N5 y).bind (rN a)) S
  | _=>.bad
 | x=>match y with
  | .int i=>bind (M9 x) λds=>bY (atI ds i)
  | _=>bad
theorem BU{K:PySem.W.Frag}{μ:Mp}{H:Hp}{ds:List D}{xs:List V}{i:Int}{d:D}(r:RDs K μ H ds xs)(e:atI ds i=some d):∃v,atI xs i=some v/\RD K μ H d v:=by
 unfold atI at e ⊢;rw[<- r.length];cases q:ixN ds.length i with
 | none=>rw[q]at e;ext e
 | some j=>rw[q]at e;exact r.get e
theorem eG{K:PySem.W.Frag}{cl:ClW}{xe:Addr->Hp->Prop}{μ:Mp}{H:Hp}{S:Sto}{α:Type}{o:Option α}{G:α->Sto->Mp->Hp->Prop}(p:Post K cl xe μ H (bY o S) G):∃a,o=some a/\∀μ' H',Lat μ H μ' H'->Rep K cl μ' S H'->G a S μ' H':=by
 cases o with
 | none=>exact p.elim
 | some a=>exact⟨a,rfl,p⟩
theorem jT{K:PySem.W.Frag}{μ:Mp}{H:Hp}{k:Key}{d:D}:∀{a:List (Key×D)} {f:List (Key×V)},KvsAt K μ H a f->rN a k=some d->∃v,X1 f k=some v/\RD K μ H d v
 | _,_,.nil,e=>by simp[rN]at e
 | p::r,q::j,.cons ⟨c,i⟩ t,e=>by
  unfold rN at e;rw[Kx]at e;by_cases b:p.1=k
  ·simp only[b,decide_true]at e;ext e;exact⟨q.2,Q9 (c▸b),i⟩
  ·simp only[b,decide_false]at e;obtain⟨v,g,h⟩:=jT t e;exact⟨v,by rw[P8 (c▸b)];exact g,h⟩
theorem aT{K:PySem.W.Frag}{μ:Mp}{H:Hp}{y:D}{v:V}{k:Key}(r:RD K μ H y v)(e:N5 y=some k):v=kV k:=by
 ext r <;> simp only[N5]at e <;> first | (ext e;rfl) | ext e
section
variable {X:Cx}{cl:ClW}{xe:Addr->Hp->Prop}
theorem yE(o:X.A.units+1<cLine):IxR X (λx y H Q=>∃a v,x=.ref a/\DGet H a y (some v)/\Q v H):=by
 intro d c π s σ H x y v u Q I m n h hs;obtain⟨a,w,rfl,g,q⟩:=h;ext m;have k:=fG I g;have i:wpAny (model X.prog X.w) X.A (getItem (.ref a) u) (EP X π σ Q) X.xe s:=nQ o I g n λw' p l j=>⟨w,H,l,j,q⟩;refine Jn ?_;rw[getitemInPython_of_ne k.not_modules];refine Jn (NH k PySem.F.slot_dict_getitem.lookup ?_);have e:wpAny (model X.prog X.w) X.A (subscripted c false (.ref a) u) (λr b=>wpAny (model X.prog X.w) X.A (letTemporaryGo d (.ref a) r >>= λ_=>pure r) (EP X π σ Q) X.xe b) X.xe s:=by
  rw[hs];exact wpAny_operating (JO i (λr b f=>Jn (wpAny_letTemporaryGo (Jo f))) λ_ _ x=>x)
 first
  | exact Jo (Jn e)
  | exact Jn (Jo (Jn e))
  | exact Jn e
theorem Ds(hu:X.A.units+1<cLine):IxR X (rP2 X.K cl xe ixD):=by
 intro value slice π s σ H x y v u Q I rx ry ⟨μ,S,d,e,rd,re,rp,p⟩ hs;have sq:∀{a:Addr}{xs:List V}{ds:List D}{i:Int},(SqL X.K H a xs\/SqT X.K H a xs)->RDs X.K μ H ds xs->x=.ref a->e=.int i->Post X.K cl xe μ H (bY (atI ds i) S) (λr _ μ' H'=>∀v,RD X.K μ' H' r v->Q v H') ->
   wpAny (model X.prog X.w) X.A (subscriptTail value slice v u) (EP X π σ Q) X.xe s:=λ{a xs ds i} hq r hx he q=>by
  clear p;subst hx he;ext re;obtain⟨z,e1,q⟩:=eG q;obtain⟨w,e2,rw'⟩:=BU r e1;rcases hq with hq | hq
  ·exact xu value slice π s σ H _ _ v u Q I rx ry ⟨a,xs,i,w,rfl,rfl,hq,e2,q μ H (Lat.refl _ _) rp _ rw'⟩ hs
  ·exact CU value slice π s σ H _ _ v u Q I rx ry ⟨a,xs,i,w,rfl,rfl,hq,e2,q μ H (Lat.refl _ _) rp _ rw'⟩ hs
 cases rd with
 | tup h r=>
  ext e <;> first | exact False.elim p | exact sq (.inr h.sq) r rfl rfl p
 | lst h r=>
  ext e <;> first | exact False.elim p | exact sq (.inl h.sq) r rfl rfl p
 | scr h r=>
  ext e <;> first | exact False.elim p | exact sq (.inl h.sq) r rfl rfl p
 | ref h=>
  rename_i n a;simp only[ixD]at p;cases q1:S[n]? with
  | none=>rw[q1]at p;exact p.elim
  | some o=>
   rw[q1]at p;cases o with
   | lst ds=>
    obtain⟨xs,h1,h2⟩:=rp.ats n _ a q1 h;ext e <;> first | exact False.elim p | exact sq (.inl (.inl (.inl h1))) h2 rfl rfl p
   | dct kvs=>
    obtain⟨ks,h1,h2⟩:=rp.ats n _ a q1 h;obtain⟨z,e1,p⟩:=eG p;cases e2:N5 e with
    | none=>rw[e2]at e1;ext e1
    | some k=>
     rw[e2]at e1;obtain⟨w,e3,r3⟩:=jT h2 e1;have hy:=aT re e2;subst hy;exact yE hu value slice π s σ H _ _ v u Q I rx ry ⟨a,w,rfl,by rw[<- e3];exact DGet.k h1,p μ H (Lat.refl _ _) rp _ r3⟩ hs
   | exc _ _=>exact p.elim
   | dcT _=>exact p.elim
 | _=>ext e <;> exact False.elim p
def G3(ds:List D)(lo a:Option Int):List D:=(ds.drop (HT.sIx ds.length 0 lo)).take (HT.sIx ds.length ds.length a-HT.sIx ds.length 0 lo)
theorem oS{K:PySem.W.Frag}{μ:Mp}{H:Hp}{ds:List D}{xs:List V}(r:RDs K μ H ds xs)(lo a:Option Int):RDs K μ H (G3 ds lo a) (nc xs lo a):=by
 unfold G3 nc;rw[<- r.length];exact(r.drop _).take _
def slD(x:D)(lo a:Option Int):M D:=match x with
 | .tup ds=>ret (.tup (G3 ds lo a))
 | x=>bind (match x with
  | .scr ds=>ret ds
  | x=>lstOf x) λds=>ret (.lst (G3 ds lo a))
end
def noStar:Expr->Bool
 | .Starred ..=>false
 | _=>true
def k9:Expr->Bool
 | .ListComp ..=>false
 | .SetComp ..=>false
 | .DictComp ..=>false
 | _=>true
def t8:Expr->Bool
 | .Slice ..=>false
 | _=>true
def i9:Expr->Bool
 | .Set ..=>false
 | _=>true
def v8:Expr->Bool
 | .Call (.Name _ _) [] [] _=>false
 | _=>true
def C8:Expr->Bool
 | .UnaryOp .Not _ _=>false
 | .BoolOp ..=>false
 | .IfExp ..=>false
 | .Compare ..=>false
 | _=>true
theorem g6(h:noStar e=true):starEach (e::es) env=(false,eval e env)::starEach es env:=by
 ext e <;> first | rfl | (exact absurd h (by simp[noStar]))
theorem k7:∀{es:List Expr}{a:PySem.Env}{pos:Pos},es.all noStar=true->(backTo pos (starEach es a)).any (·.1)=false
 | [],_,_,_=>rfl
 | e::es,a,pos,h=>by
  rw[Kt,Jp]at h;rw[g6 h.1];show(false||(backTo pos (starEach es a)).any (·.1))=false;rw[k7 h.2];rfl
theorem ar:∀{es:List Expr}{a:PySem.Env}{pos:Pos},es.all noStar=true->(backTo pos (starEach es a)).all (λx=>!x.1)=true
 | [],_,_,_=>rfl
 | e::es,a,pos,h=>by
  rw[Kt,Jp]at h;rw[g6 h.1];show(!false&&(backTo pos (starEach es a)).all (λx=>!x.1))=true;rw[ar h.2];rfl
theorem C9(h:k9 e=true):swapsWith e t n env=pure false:=by
 ext e <;> first | rfl | (exact absurd h (by simp[k9]))
theorem N9(h:t8 e=true):di e:=by
 intro o i;ext e <;> first | rfl | (exact absurd h (by simp[t8]))
theorem cR{e:Expr}(h:i9 e=true):behindInMarks op e=false:=by
 ext e <;> first | rfl | (exact absurd h (by simp[i9]))
theorem i4(h:i9 e=true):∀x,foldedSetIterable e env x=pure x:=by
 intro x;ext e <;> first | rfl | (exact absurd h (by simp[i9]))
theorem D7(h:v8 o=true):attributeBase o f env (eval o env)=eval o env:=by
 unfold attributeBase;split
 ·exact absurd h (by simp[v8])
 ·rfl
theorem test_of(h:C8 e=true):∀a,isTrue e env a=(do let v <- a;standAt e.pos;holding [v] (truthy v)):=by
 intro a;ext e <;> first
  | rfl
  | (rename_i op _ _;ext op <;> first | rfl | (exact absurd h (by simp[C8])))
  | (exact absurd h (by simp[C8]))
section
variable {X:Cx}{cl:ClW}{xe:Addr->Hp->Prop}{e:Expr}{es:List Expr}{pos:Pos}{f:Env->M D}{fs:Env->M (List D)}
theorem vV:PA X [] (tDs X.K cl xe λ_=>ret []):=PA.imp bL λσ H Q ⟨μ,S,ρ,b,a,p⟩=>p.ret μ H (Lat.refl _ _) a [] .nil
theorem oT(h:PE X e (tD X.K cl xe f))(hs:PA X es (tDs X.K cl xe fs))(m:noStar e=true):PA X (e::es) (tDs X.K cl xe λρ=>bind (f ρ) λd=>bind (fs ρ) λds=>ret (d::ds)):=
 PA.imp (y8 h hs (g6 m)) λσ H Q ⟨μ,S,ρ,c,l,p⟩=>
  ⟨μ,S,ρ,c,l,p.bind.imp λd S1 b s q r i v g=>⟨b,S1,ρ,c.later q,r,i.bind.imp λds S2 μ2 j o n k vs a=>k.ret μ2 j (Lat.refl _ _) n _ (.cons (g.later o) a)⟩⟩
def Cu(ds:List D):M D:=if ds.length<=sizeLine then ret (.tup ds)else bad
def Af(ds:List D):M D:=if ds.length<=sizeLine then ret (.lst ds)else bad
theorem Av(h:PA X es (tDs X.K cl xe fs)):PE X (.Tuple es k pos) (tD X.K cl xe λρ=>bind (fs ρ) Cu):=PE.imp (DQ h) λσ H Q ⟨μ,S,ρ,i,g,p⟩=>
 ⟨μ,S,ρ,i,g,p.bind.imp λds S1 e m n j c vs a=>by
  obtain⟨f,c⟩:=Post.guard c;refine⟨by rw[<- a.length];exact f,λz hz=>?_⟩;obtain⟨l,b,d⟩:=D9 j a hz;exact c e _ l b _ d⟩
theorem BH(h:PA X es (tDs X.K cl xe fs)):PE X (.List es pos) (tD X.K cl xe λρ=>bind (fs ρ) Af):=PE.imp (sn h) λσ H Q ⟨μ,S,ρ,i,g,p⟩=>
 ⟨μ,S,ρ,i,g,p.bind.imp λds S1 e k m j c vs a=>by
  obtain⟨f,c⟩:=Post.guard c;refine⟨by rw[<- a.length];exact f,λz hz=>?_⟩;obtain⟨l,b,d⟩:=L8 j a hz;exact c e _ l b _ d⟩
def newL(ds:List D):M D:=λS=>if ds.length<=sizeLine then .ok (.ref S.length) (S++[.lst ds])else .bad
theorem vM(h:PA X es (tDs X.K cl xe fs)):PE X (.List es pos) (tD X.K cl xe λρ=>bind (fs ρ) newL):=PE.imp (sn h) λσ H Q ⟨μ,S,ρ,i,g,p⟩=>
 ⟨μ,S,ρ,i,g,p.bind.imp λds S1 f k m j a vs b=>by
  unfold newL at a;by_cases e:ds.length<=sizeLine
  ·rw[if_pos e]at a;refine⟨by rw[<- b.length];exact e,λz hz=>?_⟩;obtain⟨l,c,d⟩:=mw j b hz;exact a _ _ l c _ d
  ·rw[if_neg e]at a;exact a.elim⟩
def nk(E:XK):Addr->Hp->Prop:=λa H=>E (.ref a) none H
def spD(K:PySem.W.Frag)(cl:ClW)(n:Nat)(run:List D->M D):Sp:=λvs H Q E=>vs.length=n/\∃μ S ds,RDs K μ H ds vs/\Rep K cl μ S H/\Post K cl (nk E0) μ H (run ds S) λd _ μ' H'=>∀v,RD K μ' H' d v->Q v H'
theorem oy{id:String}{x:Str}{p:Pos}(d:k5 X (.builtin id) (rPs X.K cl xe g))(o:Gl X x)(k:X.mg x=none)(h:bootBuiltins x=some (.builtin id))(m:PA X (e::es) (tDs X.K cl xe fs))(j:x ≠ "__name__") (c:(x==("__debug__" : Str))=false) (hs:(e::es).all noStar=true) :
  PE X (.Call (.Name x p) (e::es) [] pos) (tD X.K cl xe λρ=>bind (fs ρ) g):=by
 rw[Kt,Jp]at hs;exact PE.imp (gh d o k h m j c (g6 hs.1) (k7 hs.2)) λσ H Q ⟨μ,S,ρ,l,i,p⟩=>⟨μ,S,ρ,l,i,p.bind.imp λds S1 b q r n f vs a=>⟨b,S1,ds,a,n,f⟩⟩
theorem pq{T:String}{x:Str}{p:Pos}(d:k5 X (.type T) (rPs X.K cl xe g))(o:Gl X x)(k:X.mg x=none)(h:bootBuiltins x=some (.type T))(m:PA X (e::es) (tDs X.K cl xe fs))(j:x ≠ "__name__") (c:(x==("__debug__" : Str))=false) (hs:(e::es).all noStar=true) :
  PE X (.Call (.Name x p) (e::es) [] pos) (tD X.K cl xe λρ=>bind (fs ρ) g):=by
 rw[Kt,Jp]at hs;exact PE.imp (lq d o k h m j c (g6 hs.1) (k7 hs.2)) λσ H Q ⟨μ,S,ρ,l,i,p⟩=>⟨μ,S,ρ,l,i,p.bind.imp λds S1 b q r n f vs a=>⟨b,S1,ds,a,n,f⟩⟩
end
def one(g:D->M D)(ds:List D):M D:=match ds with
 | [d]=>g d
 | _=>bad
def D2(d:D):M D:=match d with
 | .str x=>if x.length<=sizeLine then ret (.int x.length)else bad
 | .ref n=>λS=>match S[n]? with
  | some (.lst ds)=>.ok (.int ds.length) S
  | some (.dct a)=>.ok (.int a.length) S
  | _=>.bad
 | d=>bind (M9 d) λds=>ret (.int ds.length)
def G5(d:D):M D:=match d with
 | .tup ds=>ret (.tup ds)
 | d=>bind (M9 d) λds=>ret (.tup ds)
instance (p:PyData):Decidable (Shows p):=decidable_of_iff (p.showable=true/\p.hasDict=false/\p.depth<=60/\p.shown.length<=sizeLine) ⟨λ⟨a,b,c,d⟩=>⟨a,b,c,d⟩,λ⟨a,b,c,d⟩=>⟨a,b,c,d⟩⟩
theorem pj{K:PySem.W.Frag}{μ:Mp}{H:Hp}{d:D}{vs:List V}(r:RDs K μ H [d] vs):∃v,vs=[v]/\RD K μ H d v:=by
 cases r with
 | cons h t=>ext t;exact⟨_,rfl,h⟩
section
variable {X:Cx}{cl:ClW}{xe:Addr->Hp->Prop}
theorem ai(h:∀(π:List (Addr×Obj)) (s:Shared) (σ:L2.St) (H:Hp) (μ:Mp) (S:Sto) (d:D) (v:V) (us:List Value) (Q:VK),L2.Inv X π σ H s->Vals [v] us->RD X.K μ H d v->Rep X.K cl μ S H->Post X.K cl xe μ H (g d S) (λr _ μ' H'=>∀v,RD X.K μ' H' r v->Q v H') ->
  wpAny (model X.prog X.w) X.A (call f us) (EP X π σ Q) X.xe s):k5 X f (rPs X.K cl xe (one g)):=by
 intro π s σ H xs us Q I r ⟨μ,S,ds,a,c,p⟩
 match ds,p with
 | [d],p=>
  obtain⟨v,rfl,b⟩:=pj a;exact h π s σ H μ S d v us Q I r b c p
 | [],p=>exact p.elim
 | _::_::_,p=>exact p.elim
theorem FP:k5 X (.builtin "len") (rPs X.K cl xe (one D2)):=ai λπ s σ H μ S d v us Q I r rd rp p=>by
 have sq:∀{a:Addr}{xs:List V}{ds:List D},(SqL X.K H a xs\/SqT X.K H a xs)->RDs X.K μ H ds xs->v=.ref a->(∀μ' H',Lat μ H μ' H'->Rep X.K cl μ' S H'->∀w,RD X.K μ' H' (.int ds.length) w->Q w H')->wpAny (model X.prog X.w) X.A (call (.builtin "len") us) (EP X π σ Q) X.xe s:=λ{a xs ds} hq r2 hv q=>by
  subst hv;exact de π s σ H _ us Q I r ⟨a,xs,rfl,hq,by rw[<- r2.length];exact q μ H (Lat.refl _ _) rp _ (.int _)⟩
 cases rd with
 | str x=>
  obtain⟨hl,p⟩:=Post.guard p;exact eC π s σ H _ us Q I r ⟨x,rfl,hl,p μ H (Lat.refl _ _) rp _ (.int _)⟩
 | tup h r2=>exact sq (.inr h.sq) r2 rfl p
 | lst h r2=>exact sq (.inl h.sq) r2 rfl p
 | scr h r2=>exact sq (.inl h.sq) r2 rfl p
 | ref h=>
  rename_i n a;simp only[D2]at p;cases q1:S[n]? with
  | none=>rw[q1]at p;exact p.elim
  | some o=>
   rw[q1]at p;cases o with
   | lst ds=>
    obtain⟨xs,h1,h2⟩:=rp.ats n _ a q1 h;exact sq (.inl (.inl (.inl h1))) h2 rfl p
   | dct kvs=>
    obtain⟨ks,h1,h2⟩:=rp.ats n _ a q1 h;have hl:=Paired.length h2;exact nJ π s σ H _ us Q I r ⟨a,ks,rfl,h1,by rw[<- hl];exact p μ H (Lat.refl _ _) rp _ (.int _)⟩
   | exc _ _=>exact p.elim
   | dcT _=>exact p.elim
 | _=>exact False.elim p
theorem yc:k5 X (.type "tuple") (rPs X.K cl xe (one G5)):=ai λπ s σ H μ S d v us Q I r rd rp p=>by
 have sq:∀{a:Addr}{xs:List V}{ds:List D},SqL X.K H a xs->RDs X.K μ H ds xs->v=.ref a->(∀μ' H',Lat μ H μ' H'->Rep X.K cl μ' S H'->∀w,RD X.K μ' H' (.tup ds) w->Q w H')->wpAny (model X.prog X.w) X.A (call (.type "tuple") us) (EP X π σ Q) X.xe s:=λ{a xs ds} hq r2 hv q=>by
  subst hv;refine N4 π s σ H _ us Q I r ⟨a,xs,rfl,.inl ⟨hq,λz hz=>?_⟩⟩;obtain⟨l,rp2,rd2⟩:=D9 rp r2 hz;exact q μ _ l rp2 _ rd2
 cases rd with
 | tup h r2=>exact N4 π s σ H _ us Q I r ⟨_,_,rfl,.inr ⟨h.sq,p μ H (Lat.refl _ _) rp _ (.tup h r2)⟩⟩
 | lst h r2=>exact sq h.sq r2 rfl p
 | scr h r2=>exact sq h.sq r2 rfl p
 | ref h=>
  rename_i n a0;have p2:=p;obtain⟨a,xs,ds,e1,h1,h2,e2⟩:=j0 (.ref h) rp p2.bind;exact sq (.inl (.inl h1)) h2 e1 (p2.ok_bind e2)
 | _=>exact False.elim p
end
def Mp.free(μ:Mp):Mp:=⟨μ.pl,μ.rs.tail⟩
section
variable {K:PySem.W.Frag}{cl:ClW}{xe:Addr->Hp->Prop}{μ μ2:Mp}{S S2:Sto}{H H2:Hp}{p:Addr}{o:HO}
theorem yU(i:Rep K cl μ S H)(h:H p=none):(∀{d:D}{v:V},RD K μ H d v->RD K (μ.hold p) (upd H p o) d v)/\∀{ds:List D}{vs:List V},RDs K μ H ds vs->RDs K (μ.hold p) (upd H p o) ds vs:=by
 have c:∀a u,H a=some u->a∉μ.pl->a∉μ.rs->upd H p o a=some u/\a∉(μ.hold p).pl/\a∉(μ.hold p).rs:=λa u e f g=>by
  have b:=b9 e h;exact⟨by rw[a8 b];exact e,f,λz=>(JH.mp z).elim b g⟩
 exact⟨λr=>r.move (μ:=μ) (μ':=μ.hold p) (λ_ _ e=>e) c,λr=>r.move (μ:=μ) (μ':=μ.hold p) (λ_ _ e=>e) c⟩
theorem av(c:Rep K cl μ S H)(b:H p=none):Rep K cl (μ.hold p) S (upd H p o):=by
 have j:∀a u,H a=some u->a∉μ.pl->a∉μ.rs->upd H p o a=some u/\a∉(μ.hold p).pl/\a∉(μ.hold p).rs:=λa u e g h=>by
  have d:=b9 e b;exact⟨by rw[a8 d];exact e,g,λz=>(JH.mp z).elim d h⟩
 refine c.move (λa m=>?_) rfl (λa m=>a8 λz=>c.notin b (z▸m)) (λa u e=>by rw[a8 (b9 e b)];exact e) j;rcases JH.mp (m)with rfl | m
 ·exact⟨c.notin b,o,b8⟩
 ·obtain⟨i,u,f⟩:=c.res a m;exact⟨i,u,by rw[a8 (b9 f b)];exact f⟩
theorem aO(b:Rep K cl μ S H)(c:H p=none)(a:EnvOk K μ H ρ σ):EnvOk K (μ.hold p) (upd H p o) ρ σ:=⟨a.1,λi d e=>let ⟨v,q,r⟩:=a.2 i d e;⟨v,q,(yU b c).1 r⟩⟩
theorem fb(r:RDs K μ H ds vs):RDs K μ.free H ds vs:=r.move (μ:=μ) (μ':=μ.free) (λ_ _ e=>e) λa u e b c=>⟨e,b,λz=>c (MM z)⟩
theorem aX(b:Rep K cl μ S H):Rep K cl μ.free S H:=b.move (λa m=>b.res a (MM m)) rfl (λ_ _=>rfl) (λ_ _ e=>e) λa u e c d=>⟨e,c,λz=>d (MM z)⟩
theorem cL(e:μ.rs=p::rs)(r:RDs K μ H ds vs):RDs K μ (upd H p o) ds vs:=r.move (λ_ _ e=>e) λa u q c b=>⟨by rw[a8 (λz=>b (by rw[e,z];exact Jy))];exact q,c,b⟩
theorem qF(e:μ.rs=p::rs)(r:RD K μ H d v):RD K μ (upd H p o) d v:=r.move (λ_ _ e=>e) λa u q c b=>⟨by rw[a8 (λz=>b (by rw[e,z];exact Jy))];exact q,c,b⟩
theorem cQ(e:μ.rs=p::rs)(h:H p=some (.lst xs))(b:Rep K cl μ S H):Rep K cl μ S (upd H p o):=by
 have g:=(b.res p (by rw[e];exact Jy)).1;refine b.move (λa m=>?_) rfl (λa m=>a8 λz=>g (z▸m)) (λa u q=>by rw[a8 (lL q h (by intro z;ext z))];exact q) λa u q f c=>⟨by rw[a8 (λz=>c (by rw[e,z];exact Jy))];exact q,f,c⟩;obtain⟨d,u,i⟩:=b.res a m;by_cases z:a=p
 ·subst z;exact⟨d,o,b8⟩
 ·exact⟨d,u,by rw[a8 z];exact i⟩
end
inductive Fl where
 | nx (ρ:Env) | rt (d:D) | bk (ρ:Env) | ct (ρ:Env)
def FlOk(K:PySem.W.Frag)(D:Ends)(a:Fl)(μ:Mp)(H:Hp):Prop:=match a with
 | .nx ρ=>∀σ,EnvOk K μ H ρ σ->D.nx σ H
 | .rt d=>∀v,RD K μ H d v->D.rt v H
 | .bk ρ=>∀σ,EnvOk K μ H ρ σ->D.bk σ H
 | .ct ρ=>∀σ,EnvOk K μ H ρ σ->D.ct σ H
def sD(K:PySem.W.Frag)(cl:ClW)(xe:Addr->Hp->Prop)(f:Env->M Fl):TS:=λD σ H=>∃μ S ρ,EnvOk K μ H ρ σ/\Rep K cl μ S H/\Post K cl xe μ H (f ρ S) λfl _ μ' H'=>FlOk K D fl μ' H'
def Gw(f g:Env->M Fl)(ρ:Env):M Fl:=bind (f ρ) λa=>match a with
 | .nx b=>g b
 | a=>ret a
section
variable {X:Cx}{cl:ClW}{xe:Addr->Hp->Prop}{e:Expr}{st:Stmt}{sts:List Stmt}{pos:Pos}{f:Env->M D}{g h:Env->M Fl}
theorem N8:PS X st (sD X.K cl xe λ_=>bad):=λ_ _ _ _ _ _ ⟨_,_,_,_,_,p⟩=>p.elim
theorem tG:PSs X [] (sD X.K cl xe λρ=>ret (.nx ρ)):=PSs.imp xk λD σ H ⟨μ,S,ρ,b,a,p⟩=>p.ret μ H (Lat.refl _ _) a σ b
theorem vc(h1:PS X st (sD X.K cl xe g))(h2:PSs X sts (sD X.K cl xe h)):PSs X (st::sts) (sD X.K cl xe (Gw g h)):=PSs.imp (R7 h1 h2) λD σ H ⟨μ,S,ρ,eo,rp,p⟩=>
 ⟨μ,S,ρ,eo,rp,p.bind.imp λfl S1 μ1 H1 l1 r1 p1=>by
  cases fl with
  | nx ρ1=>exact λσ1 eo1=>⟨μ1,S1,ρ1,eo1,r1,p1⟩
  | rt d=>exact p1.ret μ1 H1 (Lat.refl _ _) r1
  | bk ρ1=>exact p1.ret μ1 H1 (Lat.refl _ _) r1
  | ct ρ1=>exact p1.ret μ1 H1 (Lat.refl _ _) r1⟩
theorem sP(c:PE X e (tD X.K cl xe f))(k:k9 e=true):PS X (.Expr e pos) (sD X.K cl xe λρ=>bind (f ρ) λ_=>ret (.nx ρ)):=PS.imp (X6 c (C9 k)) λD σ H ⟨μ,S,ρ,b,l,p⟩=>
 ⟨μ,S,ρ,b,l,p.bind.imp λd S1 a i h j g v m=>g.ret a i (Lat.refl _ _) j σ (b.later h)⟩
theorem ky(c:PE X e (tD X.K cl xe f)):PS X (.Return (some e) pos) (sD X.K cl xe λρ=>bind (f ρ) λd=>ret (.rt d)):=PS.imp (Ag c) λD σ H ⟨μ,S,ρ,i,k,p⟩=>
 ⟨μ,S,ρ,i,k,p.bind.imp λd S1 a h l j g v b=>g.ret a h (Lat.refl _ _) j v b⟩
theorem Bk(k:PT X c (tBo X.K cl xe t))(m:PSs X a (sD X.K cl xe g))(l:PSs X b (sD X.K cl xe h)):PS X (.If c a b pos) (sD X.K cl xe λρ=>bind (t ρ) λq=>if q=true then g ρ else h ρ):=PS.imp (L2.ps_if k m l) λD σ H ⟨μ,S,ρ,e,n,p⟩=>
 ⟨μ,S,ρ,e,n,p.bind.imp λq S1 d o i j f=>by
  cases q with
  | true=>exact⟨d,S1,ρ,e.later i,j,f⟩
  | false=>exact⟨d,S1,ρ,e.later i,j,f⟩⟩
theorem wO(q:X.N.Nodup)(g:X.N[i]?=some x)(n:Loc X.env.scope x)(j:PE X e (tD X.K cl xe f))(o:k9 e=true)(s:X.fn x=true\/X.env.scope.names.lookup x=some .local) :
  PS X (.Assign [.Name x pos'] e pos) (sD X.K cl xe λρ=>bind (f ρ) λd=>ret (.nx (ρ.set i (some d)))):=PS.imp (nv q g n j (C9 o) s) λD σ H ⟨μ,S,ρ,b,r,p⟩=>
 ⟨μ,S,ρ,b,r,p.bind.imp λd S1 a l k m h v c=>h.ret a l (Lat.refl _ _) m _ ((b.later k).set c i)⟩
def xF(K:PySem.W.Frag)(cl:ClW)(tg:D->Env->Option Env):TG:=λv σ H Q=>∃μ S ρ d ρ',EnvOk K μ H ρ σ/\Rep K cl μ S H/\RD K μ H d v/\tg d ρ=some ρ'/\∀σ',EnvOk K μ H ρ' σ'->Q σ' H
theorem PG.imp(h:PG X t u)(k:∀v σ H Q,u' v σ H Q->u v σ H Q):PG X t u':=λπ s σ H v w Q I r q=>h π s σ H v w Q I r (k v σ H Q q)
theorem nj(h:X.N.Nodup)(a:X.N[i]?=some x)(f:Loc X.env.scope x)(j:X.fn x=true\/X.env.scope.names.lookup x=some .local):PG X (.Name x pos') (xF X.K cl λd ρ=>some (ρ.set i (some d))):=
 PG.imp (M0 h a f j) λv σ H Q ⟨μ,S,ρ,d,g,c,k,b,e,q⟩=>by
  ext e;exact q _ (c.set b i)
def ao:List Nat->List D->Env->Option Env
 | [],[],ρ=>some ρ
 | i::a,d::ds,ρ=>ao a ds (ρ.set i (some d))
 | _,_,_=>none
def q4(a:List Nat)(d:D)(ρ:Env):Option Env:=match d with
 | .tup ds=>ao a ds ρ
 | _=>none
inductive NamesAt(X:Cx):List Expr->List Nat->Prop where
 | nil:NamesAt X [] []
 | cons {x:Str} {p:Pos} {i:Nat} {ts:List Expr} {is:List Nat}:X.N[i]?=some x->Loc X.env.scope x->(X.fn x=true\/X.env.scope.names.lookup x=some .local)->NamesAt X ts is->NamesAt X (.Name x p::ts) (i::is)
theorem my(hN:X.N.Nodup)  {ts:List Expr}{is:List Nat}(h:NamesAt X ts is):PGs X ts (λvs σ H Q=>∃μ ds ρ ρ',EnvOk X.K μ H ρ σ/\RDs X.K μ H ds vs/\ao is ds ρ=some ρ'/\∀σ',EnvOk X.K μ H ρ' σ'->Q σ' H):=by
 induction h with
 | nil=>
  intro π s σ H vs us Q I r ⟨μ,ds,ρ,ρ',eo,rd,e,q⟩;cases ds with
  | nil=>
   ext rd;ext e;exact lQ π s σ H [] us Q I r ⟨rfl,q σ eo⟩
  | cons d ds=>ext e
 | @cons x p i ts is h1 h2 h3 h4 ih=>
  intro π s σ H vs us Q I r ⟨μ,ds,ρ,ρ',eo,rd,e,q⟩;cases ds with
  | nil=>ext e
  | cons d ds=>
   cases rd with
   | cons r1 r2=>exact ag (M0 (i:=i) hN h1 h2 h3) ih rfl π s σ H _ us Q I r ⟨_,_,rfl,μ,ds,_,ρ',eo.set r1 i,r2,e,q⟩
theorem R9{ts:List Expr}{is:List Nat}(h:NamesAt X ts is):(assignEach ts X.env).length=is.length/\(assignEach ts X.env).findIdx? (·.1)=none:=by
 induction h with
 | nil=>exact⟨rfl,rfl⟩
 | @cons x p i ts is h1 h2 h3 h4 ih=>
  refine⟨by show(assignEach ts X.env).length+1=_;rw[ih.1];rfl,?_⟩;show((false,assign (.Name x p) X.env)::assignEach ts X.env).findIdx? (·.1)=none;rw[List.findIdx?_cons];simp[ih.2]
theorem bK:∀{b:List Nat}{ds:List D}{ρ a:Env},ao b ds ρ=some a->ds.length=b.length
 | [],[],_,_,_=>rfl
 | _::_,_::_,_,_,e=>by simp[bK (by simpa [ao] using e)]
 | [],_::_,_,_,e=>by ext e
 | _::_,[],_,_,e=>by ext e
theorem jh(hc:X.calm=true)(hN:X.N.Nodup)(h:NamesAt X ts is):PG X (.Tuple ts k pos') (xF X.K cl (q4 is)):=
 PG.imp (ol hc (my hN h) (R9 h).1 (R9 h).2) λv σ H Q ⟨μ,S,ρ,d,ρ',eo,rp,rd,e,q⟩=>by
  cases rd with
  | tup h1 h2=>exact⟨_,_,rfl,h1.sq,by rw[<- h2.length];exact bK e,μ,_,ρ,ρ',eo,h2,e,q⟩
  | _=>ext e
def rJ:Expr->Bool
 | .Tuple ..=>false
 | _=>true
def O8(tg:D->Env->Option Env)(d:D)(ρ:Env):M Fl:=match tg d ρ with
 | some a=>ret (.nx a)
 | none=>bad
theorem yF(n:X.calm=true)(t:X.N.Nodup)(h:NamesAt X ts is)(o:PE X e (tD X.K cl xe f))(s:k9 e=true)(i:rJ e=true):PS X (.Assign [.Tuple ts k pos'] e pos) (sD X.K cl xe λρ=>bind (f ρ) λd=>O8 (q4 is) d ρ):=
 PS.imp (hF o (jh n t h) (by unfold swapsWithSole;exact C9 s) (by ext e <;> first | rfl | (exact absurd i (by simp[rJ]))) rfl) λD σ H ⟨μ,S,ρ,j,u,p⟩=>
  ⟨μ,S,ρ,j,u,p.bind.imp λd S1 a r q l b v m=>by
   cases c:q4 is d ρ with
   | none=>simp only[O8,c]at b;exact b.elim
   | some g=>simp only[O8,c]at b;exact⟨a,S1,ρ,d,g,j.later q,l,m,c,b.ret a r (Lat.refl _ _) l⟩⟩
end
structure LatR(μ:Mp)(H:Hp)(μ':Mp)(H':Hp):Prop where
 pre:∀(n:Nat)(a:Addr),μ.pl[n]?=some a->μ'.pl[n]?=some a
 oth:∀a o,H a=some o->a∉μ.pl->H' a=some o
 new:∀a,a∈μ'.pl->a∈μ.pl\/H a=none
 rsw:∀a,a∈μ'.rs->a∈μ.rs\/H a=none
theorem Lat.r{H H':Hp}(l:Lat μ H μ' H'):LatR μ H μ' H':=⟨l.pre,l.oth,l.new,λa m=>.inl (by rw[l.rsv]at m;exact m)⟩
structure LatU(μ:Mp)(H:Hp)(μ':Mp)(H':Hp):Prop where
 pre:∀(n:Nat)(a:Addr),μ.pl[n]?=some a->μ'.pl[n]?=some a
 oth:∀a o,H a=some o->a∉μ.pl->a∉μ.rs->H' a=some o
 new:∀a,a∈μ'.pl->a∈μ.pl\/H a=none
 rsw:∀a,a∈μ'.rs->a∈μ.rs\/H a=none
theorem LatR.u{H H':Hp}(l:LatR μ H μ' H'):LatU μ H μ' H':=⟨l.pre,λa o e n _=>l.oth a o e n,l.new,l.rsw⟩
theorem LatU.out{H H':Hp}(l:LatU μ H μ' H')(a:Addr)(u:HO)(e:H a=some u)(c:a∉μ.pl)(b:a∉μ.rs):H' a=some u/\a∉μ'.pl/\a∉μ'.rs:=by
 refine⟨l.oth a u e c b,λz=>?_,λz=>?_⟩
 ·rcases l.new a z with q | q
  ·exact c q
  ·rw[e]at q;ext q
 ·rcases l.rsw a z with q | q
  ·exact b q
  ·rw[e]at q;ext q
theorem RD.laterU{K:PySem.W.Frag}{μ μ':Mp}{H H':Hp}(l:LatU μ H μ' H'){d:D}{v:V}(r:RD K μ H d v):RD K μ' H' d v:=r.move l.pre l.out
theorem RDs.laterU{K:PySem.W.Frag}{μ μ':Mp}{H H':Hp}(l:LatU μ H μ' H'){ds:List D}{vs:List V}(r:RDs K μ H ds vs):RDs K μ' H' ds vs:=r.move l.pre l.out
abbrev Src:=Nat->Sto->Option (Option D)
def bf(K:PySem.W.Frag)(cl:ClW)(J:It)(i:Nat)(μ2:Mp)(H2:Hp)(S2:Sto)(o:Option (Option D)):Prop:=match o with
 | some (some d)=>J.go i H2/\∀x H3,J.yld i H2 x H3->Lat μ2 H2 μ2 H3/\Rep K cl μ2 S2 H3/\RD K μ2 H3 d x
 | some none=>J.stop i H2
 | none=>True
def Yl(K:PySem.W.Frag)(cl:ClW)(J:It)(μ:Mp)(H:Hp)(src:Src):Prop:=∀(i:Nat)(μ2:Mp)(H2:Hp)(S2:Sto),LatU μ H μ2 H2->Rep K cl μ2 S2 H2->bf K cl J i μ2 H2 S2 (src i S2)
def tIt(K:PySem.W.Frag)(cl:ClW)(xe:Addr->Hp->Prop)(f:Env->M (Src×Nat)):TI:=λσ H R=>∃μ S ρ,EnvOk K μ H ρ σ/\Rep K cl μ S H/\Post K cl xe μ H (f ρ S) λp _ μ' H'=>∀J,Yl K cl J μ' H' p.1->R J H'
theorem PI.imp(h:PI X tg it t)(k:∀σ H R,t' σ H R->t σ H R):PI X tg it t':=λπ s σ H R I q=>h π s σ H R I (k σ H R q)
theorem Bw{tg l:Expr}{m:TE}(r:PE X l m):PI X tg l (λσ H R=>m σ H λx d=>∃a,x=.ref a/\(((∃xs,SqL X.K d a xs)/\R (Itl X.K a) d)\/((∃xs,SqT X.K d a xs)/\R (Itt X.K a) d))):=by
 intro π s σ H R I h;refine thn (r π s σ H _ I h) λv f ⟨x,d,c,n,j⟩=>?_;obtain⟨a,e,j⟩:=j;subst e;ext n;rcases j with ⟨⟨xs,g⟩,q⟩ | ⟨⟨xs,g⟩,q⟩
 ·obtain⟨k,t,p,hz⟩:=c.list g;refine My p.isList ?_;refine⟨f.heap.objs.size,[f.heap.objs.size],_,_,d,rfl,c.kept λb o e=>Jq _ e,lz a _,⟨_,JG _ rfl,rfl,rfl⟩,λb i=>?_,q⟩;have e:b=f.heap.objs.size:=by simpa using i
  subst e;exact c.fpOk (Ju _) (c.hok.fresh (Ju _))
 ·obtain⟨k,t,p,hz⟩:=c.tuple g;refine Ln (p) ?_;refine⟨f.heap.objs.size,[f.heap.objs.size],_,_,d,rfl,c.kept λb o e=>Jq _ e,im a _,⟨_,JG _ rfl,rfl,rfl⟩,λb i=>?_,q⟩;have e:b=f.heap.objs.size:=by simpa using i
  subst e;exact c.fpOk (Ju _) (c.hok.fresh (Ju _))
def A2(ds:List D):Src:=λi _=>some ds[i]?
def bc(n:Nat):Src:=λi S=>match S[n]? with
 | some (.lst es)=>some es[i]?
 | _=>none
def eV(lo:Int)(n:Nat):Src:=λi _=>some (if i<n then some (.int (lo+i))else none)
section
variable {K:PySem.W.Frag}{cl:ClW}{μ:Mp}{H:Hp}
theorem AN(h:TupAt K μ H a xs)(r:RDs K μ H ds xs):Yl K cl (Itt K a) μ H (A2 ds):=λi μ2 g S2 l y=>by
 have b:SqT K g a xs:=by
  rcases h with ⟨q,n1,n2⟩ | q
  ·rcases q with q | ⟨o,q⟩
   ·exact .inl (.inl (l.oth _ _ q n1 n2))
   ·exact .inl (.inr ⟨o,l.oth _ _ q n1 n2⟩)
  ·obtain⟨o,c,n,u,j,w,m,t,_⟩:=q;exact .inr ⟨o,c,n,u,j,w,m,t⟩
 have k:=r.laterU l;show bf K cl (Itt K a) i μ2 g S2 (some ds[i]?);cases e:ds[i]? with
 | none=>exact⟨xs,b,by rw[<- r.length];exact Lq.mp e⟩
 | some d=>
  obtain⟨v,f,p⟩:=k.get e;exact⟨⟨xs,v,b,f⟩,λx z ⟨s,q⟩=>by subst s;have:=q xs b;rw[f]at this;ext this;exact⟨Lat.refl _ _,y,p⟩⟩
theorem pK(h:LstAt μ H a xs\/ScrAt K μ H a xs)(r:RDs K μ H ds xs):Yl K cl (Itl K a) μ H (A2 ds):=λi μ2 f S2 l m=>by
 have b:SqL K f a xs:=by
  rcases h with ⟨q,n1,n2⟩ | ⟨q,n1,n2⟩ | q
  ·exact .inl (.inl (l.oth _ _ q n1 n2))
  ·rcases q with q | ⟨o,q⟩
   ·exact .inl (.inl (l.oth _ _ q n1 n2))
   ·exact .inl (.inr ⟨o,l.oth _ _ q n1 n2⟩)
  ·exact .inr q
 have g:=r.laterU l;show bf K cl (Itl K a) i μ2 f S2 (some ds[i]?);cases e:ds[i]? with
 | none=>exact⟨xs,b,by rw[<- r.length];exact Lq.mp e⟩
 | some d=>
  obtain⟨v,c,j⟩:=g.get e;exact⟨⟨xs,v,b,c⟩,λx n ⟨k,q⟩=>by subst k;have:=q xs b;rw[c]at this;ext this;exact⟨Lat.refl _ _,m,j⟩⟩
theorem BY{n:Nat}(h:μ.pl[n]?=some a):Yl K cl (Itl K a) μ H (bc n):=λi μ2 H2 S2 l rp=>by
 show bf K cl (Itl K a) i μ2 H2 S2 (match S2[n]? with
  | some (.lst es)=>some es[i]?
  | _=>none)
 cases q1:S2[n]? with
 | none=>exact True.intro
 | some o=>
  cases o with
  | dcT _=>exact True.intro
  | dct _=>exact True.intro
  | exc _ _=>exact True.intro
  | lst es=>
   obtain⟨xs,h1,h2⟩:=rp.ats n _ a q1 (l.pre _ _ h);have hq:SqL K H2 a xs:=.inl (.inl h1);show bf K cl (Itl K a) i μ2 H2 S2 (some es[i]?);cases e:es[i]? with
   | none=>exact⟨xs,hq,by rw[<- h2.length];exact Lq.mp e⟩
   | some d=>
    obtain⟨v,e1,r1⟩:=h2.get e;exact⟨⟨xs,v,hq,e1⟩,λx H3 ⟨e3,q⟩=>by subst e3;have:=q xs hq;rw[e1]at this;ext this;exact⟨Lat.refl _ _,rp,r1⟩⟩
theorem tY{lo:Int}{n:Nat}:Yl K cl (Itr lo n) μ H (eV lo n):=λi μ2 d S2 l e=>by
 show bf K cl (Itr lo n) i μ2 d S2 (some (if i<n then some (.int (lo+i))else none));by_cases a:i<n
 ·rw[if_pos a];exact⟨a,λx f ⟨c,b⟩=>by subst c b;exact⟨Lat.refl _ _,e,.int _⟩⟩
 ·rw[if_neg a];exact LC a
end
def j4(d:D):M (Src×Nat):=match d with
 | .tup ds=>ret (A2 ds,ds.length+1)
 | .lst ds=>ret (A2 ds,ds.length+1)
 | .scr ds=>ret (A2 ds,ds.length+1)
 | .ref n=>λS=>match S[n]? with
  | some (.lst ds)=>.ok (bc n,ds.length+1) S
  | _=>.bad
 | _=>bad
def y4(ds:List D):M (Src×Nat):=match ds with
 | [.int j]=>if -(2 ^ 62)<=j/\j<2 ^ 62 then ret (eV 0 j.toNat,j.toNat+1)else bad
 | [.int i,.int j]=>if -(2 ^ 62)<=i/\i<2 ^ 62/\-(2 ^ 62)<=j/\j<2 ^ 62 then ret (eV i (j-i).toNat,(j-i).toNat+1)else bad
 | _=>bad
section
variable {X:Cx}{cl:ClW}{xe:Addr->Hp->Prop}{e:Expr}{tg:Expr}{pos:Pos}{f:Env->M D}
theorem lR{tg e:Expr}:PI X tg e (tIt X.K cl xe λ_=>bad):=λ_ _ _ _ _ _ ⟨_,_,_,_,_,p⟩=>p.elim
theorem vQ(h:PE X e (tD X.K cl xe f)):PI X tg e (tIt X.K cl xe λρ=>bind (f ρ) j4):=PI.imp (Bw h) λσ H R ⟨μ,S,ρ,eo,rp,p⟩=>
 ⟨μ,S,ρ,eo,rp,p.bind.imp λd S1 μ1 H1 l1 r1 p1 v rv=>by
  cases rv with
  | tup h r=>exact⟨_,rfl,.inr ⟨⟨_,h.sq⟩,p1.ret μ1 H1 (Lat.refl _ _) r1 _ (AN h r)⟩⟩
  | lst h r=>exact⟨_,rfl,.inl ⟨⟨_,h.sq⟩,p1.ret μ1 H1 (Lat.refl _ _) r1 _ (pK (.inl h) r)⟩⟩
  | scr h r=>exact⟨_,rfl,.inl ⟨⟨_,h.sq⟩,p1.ret μ1 H1 (Lat.refl _ _) r1 _ (pK (.inr h) r)⟩⟩
  | ref h=>
   rename_i n a;simp only[j4]at p1;cases q1:S1[n]? with
   | none=>rw[q1]at p1;exact p1.elim
   | some o=>
    rw[q1]at p1;cases o with
    | lst ds=>
     obtain⟨xs,h1,h2⟩:=r1.ats n _ a q1 h;exact⟨_,rfl,.inl ⟨⟨xs,.inl (.inl h1)⟩,p1 μ1 H1 (Lat.refl _ _) r1 _ (BY h)⟩⟩
    | dct _=>exact p1.elim
    | exc _ _=>exact p1.elim
    | dcT _=>exact p1.elim
  | _=>exact False.elim p1⟩
theorem iS(hg:Gl X "range") (hm:X.mg "range" = none) (ha:PA X [a] (tDs X.K cl xe fs)) (hs:noStar a=true):PI X tg (.Call (.Name "range" p) [a] [] pos) (tIt X.K cl xe λρ=>bind (fs ρ) λds=>if ds.length=1 then y4 ds else bad):=
 PI.imp (nG hg hm ha (g6 hs)) λσ H R ⟨μ,S,ρ,eo,rp,p⟩=>⟨μ,S,ρ,eo,rp,p.bind.imp λds S1 μ1 H1 l1 r1 p1 vs rvs=>by
  cases rvs with
  | nil=>exact False.elim p1
  | cons h t=>
   cases t with
   | cons _ t=>rw[if_neg (by simp)]at p1;exact p1.elim
   | nil=>
    rename_i d0 v0;rw[if_pos (show([d0]:List D).length=1 from rfl)]at p1;cases h with
    | int j=>
     obtain⟨⟨h1,h2⟩,p1⟩:=Post.guard p1;exact⟨j,rfl,h1,h2,p1 μ1 H1 (Lat.refl _ _) r1 _ tY⟩
    | _=>exact False.elim p1⟩
end
def u0(src:Src)(tg:D->Env->Option Env)(body:Env->M Fl):Nat->Nat->Env->M Fl
 | 0,_,_=>bad
 | m+1,i,ρ=>λS=>match src i S with
  | none=>.bad
  | some none=>.ok (.nx ρ) S
  | some (some d)=>match tg d ρ with
   | none=>.bad
   | some b=>bind (body b) (λc=>match c with
    | .nx a=>u0 src tg body m (i+1) a
    | .ct a=>u0 src tg body m (i+1) a
    | .bk a=>ret (.nx a)
    | .rt d=>ret (.rt d)) S
section
variable {X:Cx}{cl:ClW}{xe:Addr->Hp->Prop}{iter tgt:Expr}{pos:Pos}{fi:Env->M (Src×Nat)}{tg:D->Env->Option Env}{g:Env->M Fl}{body:List Stmt}
theorem wV(Y:PassesOwn (model X.prog X.w) X.A X.env X.xe)(hc:X.calm=true)(hi:PI X tgt iter (tIt X.K cl xe fi))(hg:PG X tgt (xF X.K cl tg))(hb:PSs X body (sD X.K cl xe g))(hn:i9 iter=true) :
  PS X (.For tgt iter body [] pos) (sD X.K cl xe λρ=>bind (fi ρ) λp=>u0 p.1 tg g p.2 0 ρ):=PS.imp (Ad Y hc hi hg hb (i4 hn)) λD σ H ⟨μ,S,ρ,T,rp,p⟩=>by
 refine⟨μ,S,ρ,T,rp,p.bind.imp λsm S1 f A l1 r1 p1 J yl=>?_⟩;obtain⟨src,m⟩:=sm;refine⟨λi m σ H=>∃μ2 S2 h,LatR f A μ2 H/\EnvOk X.K μ2 H h σ/\Rep X.K cl μ2 S2 H/\Post X.K cl xe μ2 H (u0 src tg g m i h S2) (λw _ μ' H'=>FlOk X.K D w μ' H'),⟨m,f,S1,ρ,(Lat.refl _ _).r,T.later l1,r1,p1⟩,?_⟩;rintro i m F I ⟨μ2,S2,h,s,u,U,j⟩;cases m with
 | zero=>exact j.elim
 | succ m=>
  have y:bf X.K cl J i μ2 I S2 (src i S2):=yl i μ2 I S2 s.u U;simp only[u0]at j;cases O:src i S2 with
  | none=>rw[O]at j;exact j.elim
  | some o=>
   rw[O]at j y;cases o with
   | none=>exact .inl ⟨y,j μ2 I (Lat.refl _ _) U F u⟩
   | some d=>
    obtain⟨y1,Z⟩:=y;cases L:tg d h with
    | none=>simp only[L]at j;exact j.elim
    | some t=>
     simp only[L]at j;refine .inr ⟨y1,λv H'=>∃l P b,LatR f A l H'/\EnvOk X.K l H' b v/\Rep X.K cl l P H'/\Post X.K cl xe l H' (u0 src tg g m (i+1) b P) (λw _ μ' H'=>FlOk X.K D w μ' H'),λv H' q=>⟨m,Kh _,q⟩,λx H3 hy=>?_⟩;obtain⟨M,V,E⟩:=Z x H3 hy;refine⟨μ2,S2,h,d,t,u.later M,V,E,L,λσ3 K=>?_⟩;refine⟨μ2,S2,t,K,V,(Post.later j M).bind.imp λw W c N l4 B C=>?_⟩;have R:LatR f A c N:=by
      have k:=M.trans l4;refine⟨λn a e=>k.pre n a (s.pre n a e),λa o e n=>k.oth a o (s.oth a o e n) (λz=>(s.new a z).elim n (λq=>by rw[e]at q;ext q)),λa m=>(k.new a m).elim (λz=>s.new a z) (λz=>?_),λa m=>s.rsw a (by rw[<- k.rsv];exact m)⟩;by_cases Q:a∈f.pl
      ·exact .inl Q
      ·right
       cases e:A a with
       | none=>rfl
       | some o=>rw[s.oth a o e Q]at z;ext z
     cases w with
     | nx b=>exact λG r=>⟨c,W,b,R,r,B,C⟩
     | ct b=>exact λG r=>⟨c,W,b,R,r,B,C⟩
     | bk b=>exact C.ret c N (Lat.refl _ _) B
     | rt d=>exact C.ret c N (Lat.refl _ _) B
end
structure HLat(μ:Mp)(H:Hp)(p:Addr)(μ2:Mp)(H2:Hp):Prop where
 r:LatR μ H μ2 H2
 rs:μ2.rs=p::μ.rs
theorem HLat.lat{H c H':Hp}{p:Addr}(h:HLat μ H p μ2 c)(l:Lat μ2 c μ' H'):Lat μ H μ'.free H':=by
 refine⟨λn a e=>l.pre n a (h.r.pre n a e),λa o e n=>?_,λa m=>?_,by show μ'.rs.tail=μ.rs;rw[l.rsv,h.rs];rfl⟩
 ·have d:=λz=>(h.r.new a z).elim n λq=>by rw[e]at q;ext q
  exact l.oth a o (h.r.oth a o e n) d
 ·rcases l.new a m with q | q
  ·exact h.r.new a q
  ·by_cases b:a∈μ.pl
   ·exact .inl b
   ·right
    cases e:H a with
    | none=>rfl
    | some o=>rw[h.r.oth a o e b]at q;ext q
theorem HLat.step{H c b:Hp}{p:Addr}(h:HLat μ H p μ2 c)(l:Lat μ2 c μ3 b):HLat μ H p μ3 b:=by
 have k:=h.lat l;refine⟨⟨k.pre,k.oth,k.new,λa m=>h.r.rsw a (by rw[<- l.rsv];exact m)⟩,by rw[l.rsv];exact h.rs⟩
section
variable {K:PySem.W.Frag}{cl:ClW}{xe:Addr->Hp->Prop}{α β:Type}{μ μ2:Mp}{H H2:Hp}{p:Addr}{S:Sto}
theorem Post.at{k:α->M β}{G:β->Sto->Mp->Hp->Prop}(h:Post K cl xe μ H (L3.bind m k S) G)(l:HLat μ H p μ2 H2):Post K cl xe μ2 H2 (m S) (λa S' _ _=>Post K cl xe μ H (k a S') G):=by
 unfold L3.bind at h;cases e:m S with
 | ok a S1=>rw[e]at h;exact λ_ _ _ _=>h
 | exn n S1=>rw[e]at h;exact λμ' H' a k r q=>h μ'.free H' a (l.lat k) (aX r) q
 | bad=>rw[e]at h;exact h
end
def G9(src:Src)(t:Env->M Bool)(f:Env->M D)(mk:D->Env):Nat->Nat->List D->M (List D)
 | 0,_,_=>bad
 | m+1,i,es=>λS=>match src i S with
  | none=>.bad
  | some none=>.ok es S
  | some (some d)=>bind (t (mk d)) (λb=>if b=true then bind (f (mk d)) (λy=>if es.length<sizeLine then G9 src t f mk m (i+1) (es++[y])else bad)else G9 src t f mk m (i+1) es) S
def A9(caps:List Nat)(ρ:Env):Env:=caps.map λi=>(ρ[i]?).join
theorem lG{K:PySem.W.Frag}{μ:Mp}{H:Hp}{ρ:Env}{σ:L2.St}{caps:List Nat}{d:D}{x:V}(eo:EnvOk K μ H ρ σ)(r:RD K μ H d x):EnvOk K μ H (some d::A9 caps ρ) (some x::A8 caps σ):=by
 refine⟨by simp[A9,A8],λi e he=>?_⟩;cases i with
 | zero=>simp at he;subst he;exact⟨x,rfl,r⟩
 | succ j=>
  have he:(A9 caps ρ)[j]?=some (some e):=he;unfold A9 at he;rw[JU]at he;cases q:caps[j]? with
  | none=>rw[q]at he;ext he
  | some i=>
   rw[q]at he;have h':(ρ[i]?).join=some e:=JZ he;have h2:ρ[i]?=some (some e):=by
    cases q2:ρ[i]? with
    | none=>rw[q2]at h';ext h'
    | some o=>rw[q2]at h';exact congrArg some h'
   obtain⟨v,e1,r1⟩:=eo.2 i e h2;refine⟨v,?_,r1⟩;show(A8 caps σ)[j]?=_;unfold A8;rw[JU,q];show some (σ[i]?).join=_;rw[e1];rfl
def km(caps:List Nat)(b:Env->M (Src×Nat))(t:Env->M Bool)(f:Env->M D)(ρ:Env):M (List D):=bind (b ρ) λa=>G9 a.1 t f (λd=>some d::A9 caps ρ) a.2 0 []
section
variable {X:Cx}{cl:ClW}{xe:Addr->Hp->Prop}{elt iter:Expr}{x:Str}{px pos:Pos}{ifs:List Expr}{scope:Scope}{N':List Str}{caps:List Nat}{fi:Env->M (Src×Nat)}{t:Env->M Bool}{f:Env->M D}
theorem mW{X:Cx}:PTL X [] (tBo X.K cl xe λ_=>ret true):=λπ s σ H Q I ⟨μ,S,ρ,b,a,p⟩=>vz π s σ H Q I (p μ H (Lat.refl _ _) a)
end
def ey(K:PySem.W.Frag)(cl:ClW)(xe:Addr->Hp->Prop)(fs:Env->M (List D)):TE:=λσ H Q=>∃μ S ρ,EnvOk K μ H ρ σ/\Rep K cl μ S H/\Post K cl xe μ H (fs ρ S) λds _ μ' H'=>∀acc ys,LstAt μ' H' acc ys->RDs K μ' H' ds ys->Q (.ref acc) H'
theorem N7(m:M α)(k:α->M β)(k2:β->M γ):bind (bind m k) k2=bind m λa=>bind (k a) k2:=by
 funext S;unfold bind;grind
theorem cD{k:α->M β}{S:Sto}(h:m S=m' S):bind m k S=bind m' k S:=by
 unfold bind;rw[h]
def P1(src:Src)(t:Env->M Bool)(c:Env->M (Src×Nat))(e:Env->M Bool)(f:Env->M D)(a:Env):Nat->Nat->List D->M (List D)
 | 0,_,_=>bad
 | m+1,i,es=>λS=>match src i S with
  | none=>.bad
  | some none=>.ok es S
  | some (some d)=>bind (t (some d::none::a)) (λb=>if b=true then bind (c (some d::none::a)) (λg=>bind (G9 g.1 e f (λh=>some d::some h::a) g.2 0 es) (λes'=>P1 src t c e f a m (i+1) es'))else P1 src t c e f a m (i+1) es) S
def dB(caps:List Nat)(c:Env->M (Src×Nat))(t:Env->M Bool)(a:Env->M (Src×Nat))(d:Env->M Bool)(f:Env->M D)(ρ:Env):M (List D):=bind (c ρ) λb=>P1 b.1 t a d f (A9 caps ρ) b.2 0 []
end L3
namespace L2
open PySem PySem.Spec PyProof.Rows
section
variable {prog:Program}{w:World}{A:Around}{E:Value->Shared->Prop}{s:Shared}
theorem Q8{items}{x:Value}{Q:Value->Shared->Prop}(a:s.heap.IsTupleIter it l i)
  (h:s.heap.IsTuple l items) (e:items[i]?=some x)
  (g:∀h',h'.IsTupleIter it l (i+1)->Heap.SameBut it s.heap h'->Q x { s with heap:=h' }) :
  wpAny (model prog w) A (Builtin.SmallTypes.nextOf (.ref it)) Q E s:=by
 obtain⟨o,b,f,hd⟩:=id a;obtain⟨j,c,_,k,d⟩:=h;refine Jn (Kw a.typeIs F.slot_tuple_iterator_next
  (KJ F.slot_tuple_iterator_next a.typeIs F.entry_tuple_iterator_next ?_ (F.args_tuple_iterator_next_1 _)))
 show wpAny _ _ (field (.ref it) 0 >>= _) _ _ s;refine Jn (KA b hd (x:=.ref l) rfl ?_);rw[if_neg (show ¬ ((Value.ref l==Value.none)=true) from Jt)];refine Jn (KA b hd rfl ?_);refine Jn (wpAny_seqItems c d ?_);simp only[LO,e];refine Jn (LD b hd (by simp) (Jo ⟨x,rfl,Jo (g _ ?_ (KZ ..))⟩));exact⟨_,Kj _ b (Obj.isFreed_of_fields (Obj.data_mapFields hd _)),(Obj.cls_mapFields ..).trans f,by
  rw[Obj.data_mapFields hd];simp[rawInt]⟩
theorem U2{items}{Q:Value->Shared->Prop}(f:A.handled=none)
  (a:s.heap.IsTupleIter it l i) (j:s.heap.IsTuple l items) (g:items[i]?=none)
  (h:∀h' e,Heap.ExtBut it s.heap h'->(∃o,h'.get? e=some o/\o.cls=.type "StopIteration")->E (.ref e) { s with heap:=h' }) :
  wpAny (model prog w) A (Builtin.SmallTypes.nextOf (.ref it)) Q E s:=by
 obtain⟨o,c,k,hd⟩:=id a;obtain⟨m,b,_,n,d⟩:=j;refine Jn (Kw a.typeIs F.slot_tuple_iterator_next
  (KJ F.slot_tuple_iterator_next a.typeIs F.entry_tuple_iterator_next ?_ (F.args_tuple_iterator_next_1 _)))
 show wpAny _ _ (field (.ref it) 0 >>= _) _ _ s;refine Jn (KA c hd (x:=.ref l) rfl ?_);rw[if_neg (show ¬ ((Value.ref l==Value.none)=true) from Jt)];refine Jn (KA c hd rfl ?_);refine Jn (wpAny_seqItems b d ?_);simp only[LO,g];refine Jn (Nz (Jn (LD c hd (by simp) ?_)));refine Jn ?_;refine Jn (JT ?_ (by size_fits));refine Jn (ML (by first | rfl | (simp;rfl)) ?_);refine JT ?_ (by size_fits);refine Jn (wpAny_handled ?_);first | rw[f] | rw[f]
 refine Jn (Jo (wpAny_throw ?_));exact h _ _ (((KZ ..).extBut.push _).push _) ⟨_,JG _ rfl,rfl⟩
end
theorem qA{h h':Heap}{a:Addr}{items:Array Value}(x:h.IsTuple a items)(k:∀o,h.get? a=some o->h'.get? a=some o):h'.IsTuple a items:=let ⟨o,b,r⟩:=x;⟨o,k o b,r⟩
theorem oY(k:A.handled=none)(it l:Addr)(c:l≠it)(items:Array Value) :
  Draws prog w A it [it,l] items.size (λi v=>items[i]?=some v) (λi h=>h.IsTupleIter it l i/\h.IsTuple l items) where
 live:=λ_ _ st=>let ⟨o,b,_⟩:=st.1;⟨o,b⟩
 frame:=λ_ _ _ st f=>⟨(let ⟨o,b,r⟩:=st.1;⟨o,f it (by simp) o b,r⟩),qA st.2 λo e=>f l (by simp) o e⟩
 item:=λi s Q E d st g=>by
  refine Q8 st.1 st.2 (x:=items[i]) (by simp[d]) λh' a hs'=>?_;exact g _ h' s.toks (by simp[d]) ⟨a,st.2.extBut hs'.extBut c⟩ hs'
 done:=λs Q E st j=>U2 k st.1 st.2 (by simp) j
theorem eS(l:Addr)(items:Array Value)(n:Nat)(b:Option Addr)(i:Array (Option Value)) :
  Meets (Builtin.«enumerate.__new__» ⟨[.type "enumerate",.ref l],[]⟩) (λ_ R s=>s.heap.get? l=some { cls:=.type "tuple",dict:=b,data:=.seq items n,slots:=i } /\
   R (.ok (.ret (.ref (s.heap.push { cls:=.type "tuple_iterator",data:=.fields #[.ref l,.int 0 0] }).objs.size)))
    { s with heap:=(s.heap.push { cls:=.type "tuple_iterator",data:=.fields #[.ref l,.int 0 0] }).push { cls:=.type "enumerate",data:=.fields #[.none,.bool false,.ref s.heap.objs.size,rawInt 0,.none,.none] } }):=
 .of_wp λprog w A R s h=>by
  obtain⟨j,g,d,k,m⟩:=s;obtain⟨a,h⟩:=h;have f:=sub_enumerate;have e:Heap.IsTuple (Shared.heap ⟨j,g,d,k,m⟩) l items:=⟨_,a,rfl,n,rfl⟩
  wp_walk using AutoSeq1.wpAny_loadPart' a
  refine wpAny_stack_any λst=>Jo ?_;split
  ·rename_i c _ _ _ _ _;cases (c==Value.type "enumerate")
   ·wp_walk using AutoSeq1.wpAny_loadPart' a,Ln e
    exact⟨_,rfl,h⟩
   ·wp_walk using AutoSeq1.wpAny_loadPart' a,Ln e
    exact⟨_,rfl,h⟩
  ·wp_walk using AutoSeq1.wpAny_loadPart' a,Ln e
   exact⟨_,rfl,h⟩
section
variable {prog:Program}{w:World}{A:Around}{E:Value->Shared->Prop}{s:Shared}
theorem ik(i:s.heap.IsTuple l items)
  (h:∀h',IsEnum h' (s.heap.objs.size+1) s.heap.objs.size 0 .none->h'.IsTupleIter s.heap.objs.size l 0->h'.objs.size=s.heap.objs.size+2 ->
   (∀b o,s.heap.get? b=some o->h'.get? b=some o)->Q (.ref (s.heap.objs.size+1)) { s with heap:=h' }) :
  wpAny (model prog w) A (call (.type "enumerate") [.ref l]) Q E s:=by
 obtain⟨⟨c,d,j,g⟩,k,a,n,hd⟩:=i
 replace a:c=.type "tuple":=a
 replace hd:j=.seq items n:=hd
 subst a hd;refine callType_new F.called_enumerate ⋯ (F.typeCall_enumerate_1 _) (F.newCall_enumerate_1 _) (λe=>F.args_object_init_2 e _) F.entry_enumerate_new
  (eS l items n d g) ⟨k,?_⟩
 have hz:(s.heap.push { cls:=.type "tuple_iterator",data:=.fields #[.ref l,.int 0 0] }).objs.size=s.heap.objs.size+1:=KG ..;rw[hz];have f:IsEnum ((s.heap.push { cls:=.type "tuple_iterator",data:=.fields #[.ref l,.int 0 0] }).push
   { cls:=.type "enumerate",data:=.fields #[.none,.bool false,.ref s.heap.objs.size,rawInt 0,.none,.none] }) (s.heap.objs.size+1) s.heap.objs.size 0 .none:=by
  have:=JG (s.heap.push { cls:=.type "tuple_iterator",data:=.fields #[.ref l,.int 0 0] })
   (o:={ cls:=.type "enumerate",data:=.fields #[.none,.bool false,.ref s.heap.objs.size,rawInt 0,.none,.none] }) rfl
  rw[hz]at this;exact this
 refine⟨⟨_,f,rfl⟩,h _ f ⟨_,Jq _ (JG _ rfl),rfl,rfl⟩ (by rw[KG,hz]) λb o x=>Jq _ (Jq _ x)⟩
end
section
variable {X:Cx}{π:List (Addr×Obj)}{σ:St}{H:Hp}{s:Shared}{h':Heap}
theorem Inv.turned2{t':Nat}{e it:Addr}(I:Inv X π σ H s)(k:∀b o,b≠e->b≠it->s.heap.get? b=some o->h'.get? b=some o)(f:D3 X π H e)(g:D3 X π H it):Inv X π σ H { s with heap:=h',toks:=t' }:=by
 obtain⟨a0,a1,a2,a3,a4,a5⟩:=f;obtain⟨b0,b1,b2,b3,b4,b5⟩:=g;have nit:∀b u,H b=some u->b≠e/\b≠it:=λb u q=>⟨λz=>(by rw[z,a0]at q;ext q),λz=>(by rw[z,b0]at q;ext q)⟩;have kk:∀b o,b∉[e,it]->s.heap.get? b=some o->h'.get? b=some o:=λb o hb q=>k b o (λz=>hb (by simp[z])) (λz=>hb (by simp[z])) q;refine I.step (g':=s.gens) (d':=s.drawn) (ch:=[e,it]) (λb hb=>?_) (λb o _ _ hc q _=>kk b o hc q) (λb o _ _ hc q _=>⟨o.slots,kk b o hc q⟩) (λ_ _ _ _ n=>n)
  (λb o hc q=>⟨o,kk b o hc q⟩) (λ_ _ q=>q) (λ_ _ _ q=>q) (λb ps q=>⟨#[],by rw[q];simp⟩) (λm hm=>?_) (λb u q=>?_) I.bare
 ·have z:b=e\/b=it:=by simpa using hb
  rcases z with rfl | rfl
  ·exact⟨a3,a1,a4,a5⟩
  ·exact⟨b3,b1,b4,b5⟩
 ·obtain⟨o,es,ep,ho,r⟩:=hm;exact⟨o,es,ep,k _ o (Ne.symm a1) (Ne.symm b1) ho,r⟩
 ·refine(I.hok b u q).stay (λc v hc r=>?_) (λ_ r=>r) λ_ _ r=>r;rcases hc with z | z
  ·rw[z]at r ⊢;exact k b v (nit b u q).1 (nit b u q).2 r
  ·exact k c v (nit c _ z).1 (nit c _ z).2 r
end
def N2(a:Hp->List V->Prop):It:=
 ⟨λi H=>∃xs x,a H xs/\xs[i]?=some x,λi H x H'=>∃p y,x=.ref p/\H p=none/\H'=upd H p (.tup [.int (i:Int),y])/\∀xs,a H xs->xs[i]?=some y,λi H=>∃xs,a H xs/\xs.length=i⟩
section
variable {P:Program}{w:World}{K:PySem.W.Frag}{elts:List Expr}{x1:Nat}{tp:Pos}
theorem bn{σ:St}{H:Hp}{s:Shared}{E:Value->Shared->Prop}{e it:Addr}{G:List Addr}{n i:Nat}{A:Nat->Value->Prop}{m:Nat->Heap->Prop}{j:Value}{y:V}{J:It}{tn:Nat->Heap->Prop}
  (I:Inv X π σ H s) (g:∀b∈[e,it],D3 X π H b) (D:Draws X.prog X.w X.A.in1 it G n A m) (B:IsEnum s.heap e it i j) (c:m i s.heap) (k:i<n) (v:e≠it) (f:e∉G)
  (R:∀u,A i u->RelV y u) (S:∀h',(∃o,IsEnum h' e it ((i:Int)+1) o)->m (i+1) h'->tn (i+1) h') (M:∀p,H p=none->J.yld i H (.ref p) (upd H p (.tup [.int (i:Int),y]))) :
  wpAny (model X.prog X.w) X.A (pyNext (.ref e)) (λr Z=>∃u,r=some u /\
   wpAny (model X.prog X.w) X.A (letOwnedTupleGo (.Tuple elts x1 tp) (.ref e) u) (λ_ F=>∃x H',Inv X π σ H' F/\RelV x u/\J.yld i H x H'/\tn (i+1) F.heap/\∀b∈[e,it],H' b=none) E Z) E s:=by
 refine wpAny_pyNext_enum_itemD D B c k v f λu h' d O T hs' Q hsz hk=>?_;have C:=Jx B;have w:it<s.heap.objs.size:=by obtain⟨_,z⟩:=D.live _ _ c;exact Jx z
 refine⟨_,rfl,wpAny_letOwnedTupleGo_enum T λh2 t a=>?_⟩;have fr:=I.hok.fresh (Ju _);have I1:Inv X π σ (upd H s.heap.objs.size (.tup [.int (i:Int),y])) { s with heap:=s.heap.push { cls:=.type "tuple",data:=.seq #[.int i d,u] },toks:=d }:=
  I.laid (λb q z=>Jq _ z) (Ju _) ⟨by rw[JS];show 2<=16777216;omega,[.int i d,u],.cons ⟨d,rfl⟩ (.cons (R u O) .nil),⟨_,JG _ rfl,rfl,_,rfl,rfl⟩⟩
 have K:∀b,D3 X π H b->b<s.heap.objs.size->D3 X π (upd H s.heap.objs.size (.tup [.int (i:Int),y])) b:=λb ⟨c0,Y,W,c3,U,c5⟩ N=>⟨by rw[a8 (JF N)];exact c0,Y,W,c3,U,c5⟩;have P:=I1.turned2 (t':=d+1) (λb o h L z=>by
  have:=Heap.get?_push_cases z;rcases this with ⟨rfl,rfl⟩ | z1
  ·exact(a.2 _ h).trans Q
  ·exact(a.2 b h).trans (hk b o h L z1)) (K e (g e (by simp)) C) (K it (g it (by simp)) w)
 refine⟨.ref s.heap.objs.size,_,P,rfl,M _ fr,S _ ⟨_,t⟩ (D.frame _ _ _ hs' λb l o z=>(a.2 b λq=>f (q▸l)).trans z),λb l=>?_⟩;have z:b=e\/b=it:=by simpa using l
 rcases z with rfl | rfl
 ·rw[a8 (JF C)];exact(g _ (by simp)).1
 ·rw[a8 (JF w)];exact(g _ (by simp)).1
end
section
variable {P:Program}{w:World}{K:PySem.W.Frag}{elts:List Expr}{x1:Nat}{tp:Pos}
theorem mZ{h:Heap}{e it:Addr}{i:Int}{a:Value}(z:IsEnum h e it i a):∃o,h.get? e=some o/\∀v,o.data≠.cell v:=by grind
theorem kX{H:Hp}{p:Addr}{y:V}(h:H p=none)(k:∀xs,Sq H xs->xs[i]?=some y):(N2 Sq).yld i H (.ref p) (upd H p (.tup [.int (i:Int),y])):=by
 show ∃a b,V.ref p=.ref a/\H a=none/\upd H p (.tup [.int (i:Int),y])=upd H a (.tup [.int (i:Int),b])/\∀xs,Sq H xs->xs[i]?=some b;grind
theorem ir(a e it:Addr)(hne:e≠it):Turn P w K (.Tuple elts x1 tp) (N2 λH xs=>SqL K H a xs) [e,it] e (λi h=>(∃old,IsEnum h e it ((i:Nat):Int) old)/\h.IsListIter it a i) where
 mem:=by simp
 obj:=λi h st b hb=>by
  have z:b=e\/b=it:=by simpa using hb
  rcases z with rfl | rfl
  ·obtain⟨old,q⟩:=st.1;exact mZ q
  ·obtain⟨o,q,c,d⟩:=st.2;exact⟨o,q,λv z=>by rw[d]at z;cases z⟩
 keep:=λi h h' st k=>⟨(let ⟨old,q⟩:=st.1;⟨old,k e (by simp) _ q⟩),st.2.at λo q=>k it (by simp) o q⟩
 item:=by
  intro X hP hw hK hc i π s σ H E I hf st hg;subst hP hw hK;obtain⟨xs,x,hq,hx⟩:=hg;obtain⟨its,rv,p,hz⟩:=I.list hq;obtain⟨u,hu,ru⟩:=rv.get hx;obtain⟨⟨old,he⟩,hit⟩:=st;have nit:a≠it:=λz=>by
   obtain⟨o,q,c,_⟩:=hit;obtain⟨o2,q2,c2,_⟩:=p.isList;rw[z,q]at q2;ext q2;rw[c]at c2;exact absurd c2 ⋯
  have nea:e≠a:=λz=>by
   obtain⟨o2,q2,c2,_⟩:=p.isList;rw[<- z,he]at q2;ext q2;exact absurd (show Value.type "enumerate" = Value.type "list" from c2) ⋯
  have hlt:i<its.toArray.size:=by
   have:=(Js.mp hu).1;simpa using this
  refine bn (y:=x) (J:=N2 λH xs=>SqL X.K H a xs) (tn:=λi h=>(∃old,IsEnum h e it ((i:Nat):Int) old)/\h.IsListIter it a i) I hf (Draws.list (show X.A.in1.handled=none from I.ok.hd hc) it a nit its.toArray) he ⟨hit,p.isList⟩ hlt hne (by simp[hne,nea]) (λv hv=>?_) (λh' ho hs=>⟨?_,hs.1⟩) λq hq2=>kX hq2 (λys hy=>by rw[I.list_inj hy hq];exact hx)
  ·have hv':its[i]?=some v:=by simpa using hv
   rw[hu]at hv';ext hv';exact ru
  ·obtain⟨o,q⟩:=ho;exact⟨o,by rw[show((i+1:Nat):Int)=(i:Int)+1 from rfl];exact q⟩
 done:=by
  intro X hP hw hK hc i π s σ H E I hf st hg;subst hP hw hK;obtain⟨xs,hq,hx⟩:=hg;obtain⟨its,rv,p,hz⟩:=I.list hq;obtain⟨⟨old,he⟩,hit⟩:=st;have hl:=rv.length;have nit:a≠it:=λz=>by
   obtain⟨o,q,c,_⟩:=hit;obtain⟨o2,q2,c2,_⟩:=p.isList;rw[z,q]at q2;ext q2;rw[c]at c2;exact absurd c2 ⋯
  have en:i=its.toArray.size:=by simp;omega
  obtain⟨f0,f1,f2,f3,f4,f5⟩:=hf it (by simp);exact wpAny_pyNext_enum_endD (Draws.list (show X.A.in1.handled=none from I.ok.hd hc) it a nit its.toArray) he ⟨en▸hit,p.isList⟩ λh' eb=>⟨rfl,I.turned (t':=s.toks) (λb o hb q=>eb b o hb q) f0 f1 f3 f4 f5⟩
 self:=λ_ _ _ _ _ st h=>by
  obtain⟨⟨old,he⟩,_⟩:=st;exact Mz he h
theorem gr(a e it:Addr)(t:e≠it):Turn P w K (.Tuple elts x1 tp) (N2 λH xs=>SqT K H a xs) [e,it] e (λi h=>(∃f,IsEnum h e it ((i:Nat):Int) f)/\h.IsTupleIter it a i) where
 mem:=by simp
 obj:=λi h st b J=>by
  have z:b=e\/b=it:=by simpa using J
  rcases z with rfl | rfl
  ·grind
  ·obtain⟨o,q,c,d⟩:=st.2;exact⟨o,q,λv z=>by rw[d]at z;cases z⟩
 keep:=λi h h' st k=>⟨(let ⟨f,q⟩:=st.1;⟨f,k e (by simp) _ q⟩),st.2.at λo q=>k it (by simp) o q⟩
 item:=by
  intro X L F O N i π s σ H E I C st B;subst L F O;obtain⟨xs,x,y,D⟩:=B;obtain⟨j,G,p,hz⟩:=I.tuple y;have pt:=p;obtain⟨u,Y,ru⟩:=G.get D;obtain⟨⟨f,r⟩,g⟩:=st;have n:a≠it:=λz=>by
   obtain⟨o,q,c,_⟩:=g;obtain⟨R,l,m,_⟩:=pt;rw[z,q]at l;ext l;rw[c]at m;exact absurd m ⋯
  have Q:e≠a:=λz=>by
   obtain⟨R,l,m,_⟩:=pt;rw[<- z,r]at l;ext l;exact absurd (show Value.type "enumerate" = Value.type "tuple" from m) ⋯
  have M:i<j.toArray.size:=by
   have:=(Js.mp Y).1;simpa using this
  refine bn (tn:=λi h=>(∃f,IsEnum h e it ((i:Nat):Int) f)/\h.IsTupleIter it a i) I C (oY (show X.A.in1.handled=none from I.ok.hd N) it a n j.toArray) r ⟨g,pt⟩ M t (by simp[t,Q]) (λv hv=>?_) (λh' ho hs=>⟨?_,hs.1⟩) λq A=>kX A (λys V=>by rw[I.tuple_inj V y];exact D)
  ·grind
  ·grind
 done:=by
  intro X L F O N i π s σ H E I C st B;subst L F O;obtain⟨xs,y,D⟩:=B;obtain⟨j,G,p,hz⟩:=I.tuple y;have pt:=p;obtain⟨⟨f,r⟩,g⟩:=st;have hl:=G.length;have n:a≠it:=λz=>by
   obtain⟨o,q,c,_⟩:=g;obtain⟨R,l,m,_⟩:=pt;rw[z,q]at l;ext l;rw[c]at m;exact absurd m ⋯
  have S:i=j.toArray.size:=by simp;omega
  obtain⟨T,U,f2,f3,f4,W⟩:=C it (by simp);exact wpAny_pyNext_enum_endD (oY (show X.A.in1.handled=none from I.ok.hd N) it a n j.toArray) r ⟨S▸g,pt⟩ λh' Z=>⟨rfl,I.turned (λb o J q=>Z b o J q) T U f3 f4 W⟩
 self:=λ_ _ _ _ _ st h=>by
  obtain⟨⟨f,r⟩,_⟩:=st;exact Mz r h
end
section
variable {X:Cx}{elts:List Expr}{x1:Nat}{tp:Pos}
theorem nM:bootBuiltins "enumerate" = some (.type "enumerate"):=by decide +kernel
theorem wZ(u:Gl X "enumerate") (x:X.mg "enumerate" = none) (w:PA X [l] ta) (hs:starEach [l] X.env=[(false,eval l X.env)]) :
  PI X (.Tuple elts x1 tp) (.Call (.Name "enumerate" p) [l] [] pos) (λσ H R=>ta σ H λvs f=>∃a,vs=[.ref a]/\(((∃xs,SqL X.K f a xs)/\R (N2 λH xs=>SqL X.K H a xs) f)\/((∃xs,SqT X.K f a xs)/\R (N2 λH xs=>SqT X.K H a xs) f))):=by
 intro π s σ H R I h;refine Call_ (C5 I u x nM (Ku (thn (w pos π s σ H _ I h) λus c ⟨vs,f,d,A,n⟩=>?_) hs rfl));obtain⟨a,e,n⟩:=n;subst e;cases A with
 | cons r y=>
  ext y;ext r;have o:∀h':Heap,h'.objs.size=c.heap.objs.size+2->∀b∈[c.heap.objs.size+1,c.heap.objs.size],D3 X π f b:=λh' _ b v=>by
   have z:b=c.heap.objs.size+1\/b=c.heap.objs.size:=by simpa using v
   rcases z with rfl | rfl
   ·exact d.fpOk (KM _) (d.hok.fresh (KM _))
   ·exact d.fpOk (Ju _) (d.hok.fresh (Ju _))
  rcases n with ⟨⟨xs,k⟩,q⟩ | ⟨⟨xs,k⟩,q⟩
  ·obtain⟨m,t,p,hz⟩:=d.list k;refine call_enumerate_list p.isList λh' g j hsz i=>?_;exact Mz g ⟨_,[c.heap.objs.size+1,c.heap.objs.size],_,_,f,rfl,d.kept i,ir a _ _ (MI _),⟨⟨_,g⟩,j⟩,o h' hsz,q⟩
  ·obtain⟨m,t,p,hz⟩:=d.tuple k;refine ik (p) λh' g j hsz i=>?_;exact Mz g ⟨_,[c.heap.objs.size+1,c.heap.objs.size],_,_,f,rfl,d.kept i,gr a _ _ (MI _),⟨⟨_,g⟩,j⟩,o h' hsz,q⟩
end
end L2
namespace L3
open PySem PySem.Spec PyProof.Rows L2
def C4(ds:List D):Src:=λi _=>match ds[i]? with
 | some d=>some (some (.tup [.int (i:Int),d]))
 | none=>if i=ds.length then some none else none
def aL(d:D):M (Src×Nat):=match d with
 | .tup ds=>ret (C4 ds,ds.length+1)
 | .lst ds=>ret (C4 ds,ds.length+1)
 | .scr ds=>ret (C4 ds,ds.length+1)
 | _=>bad
section
variable {K:PySem.W.Frag}{cl:ClW}{μ:Mp}{H:Hp}
theorem zW{ds:List D}(j:∀μ2 a S2,LatU μ H μ2 a->Rep K cl μ2 S2 a->Sq a xs)(r:RDs K μ H ds xs):Yl K cl (N2 Sq) μ H (C4 ds):=λi μ2 a S2 l f=>by
 have b:=j μ2 a S2 l f;have h:=r.laterU l;show bf K cl (N2 Sq) i μ2 a S2 (match ds[i]? with
  | some d=>some (some (.tup [.int (i:Int),d]))
  | none=>if i=ds.length then some none else none)
 cases e:ds[i]? with
 | none=>
  by_cases q:i=ds.length
  ·rw[if_pos q];exact⟨xs,b,by rw[<- r.length];exact q.symm⟩
  ·rw[if_neg q];exact trivial
 | some d=>
  obtain⟨v,c,k⟩:=h.get e;refine⟨⟨xs,v,b,c⟩,λx m z=>?_⟩;obtain⟨p,y,rfl,g,rfl,q⟩:=z;have:=q xs b;rw[c]at this;ext this;exact D9 f (.cons (.int _) (.cons k .nil)) g
theorem Bf(h:TupAt K μ H a xs)(r:RDs K μ H ds xs):Yl K cl (N2 λH xs=>SqT K H a xs) μ H (C4 ds):=zW (λμ2 i S2 l j=>by
 rcases h with ⟨q,n1,n2⟩ | q
 ·rcases q with q | ⟨o,q⟩
  ·exact .inl (.inl (l.oth _ _ q n1 n2))
  ·exact .inl (.inr ⟨o,l.oth _ _ q n1 n2⟩)
 ·obtain⟨o,b,n,f,g,c,d,e,_⟩:=q;exact .inr ⟨o,b,n,f,g,c,d,e⟩) r
theorem pg(h:LstAt μ H a xs\/ScrAt K μ H a xs)(r:RDs K μ H ds xs):Yl K cl (N2 λH xs=>SqL K H a xs) μ H (C4 ds):=zW (λμ2 c S2 l b=>by
 rcases h with ⟨q,n1,n2⟩ | ⟨q,n1,n2⟩ | q
 ·exact .inl (.inl (l.oth _ _ q n1 n2))
 ·rcases q with q | ⟨o,q⟩
  ·exact .inl (.inl (l.oth _ _ q n1 n2))
  ·exact .inl (.inr ⟨o,l.oth _ _ q n1 n2⟩)
 ·exact .inr q) r
end
section
variable {X:Cx}{cl:ClW}{xe:Addr->Hp->Prop}{elts:List Expr}{x1:Nat}{tp p pos:Pos}
theorem nu(hg:Gl X "enumerate") (hm:X.mg "enumerate" = none) (ha:PA X [a] (tDs X.K cl xe fs)) (hs:noStar a=true) :
  PI X (.Tuple elts x1 tp) (.Call (.Name "enumerate" p) [a] [] pos) (tIt X.K cl xe λρ=>bind (fs ρ) λds=>match ds with
   | [d]=>aL d
   | _=>bad):=
 PI.imp (wZ hg hm ha (g6 hs)) λσ H R ⟨μ,S,ρ,eo,rp,P⟩=>⟨μ,S,ρ,eo,rp,P.bind.imp λds S1 μ1 H1 l1 r1 p1 vs rvs=>by
  cases rvs with
  | nil=>exact False.elim p1
  | cons h t=>
   cases t with
   | cons _ _=>exact False.elim p1
   | nil=>
    cases h with
    | tup h r=>exact⟨_,rfl,.inr ⟨⟨_,h.sq⟩,p1.ret μ1 H1 (Lat.refl _ _) r1 _ (Bf h r)⟩⟩
    | lst h r=>exact⟨_,rfl,.inl ⟨⟨_,h.sq⟩,p1.ret μ1 H1 (Lat.refl _ _) r1 _ (pg (.inl h) r)⟩⟩
    | scr h r=>exact⟨_,rfl,.inl ⟨⟨_,h.sq⟩,p1.ret μ1 H1 (Lat.refl _ _) r1 _ (pg (.inr h) r)⟩⟩
    | _=>exact False.elim p1⟩
end
end L3
namespace L2
open PySem PySem.Spec PyProof.Rows
section
variable {prog:Program}{w:World}{A:Around}{s:Shared}{R:Result->Shared->Prop}
theorem cu{B b y:Expr}{ifs:List Expr}{p:Scope}{pos:Pos}{it C:Value}{a:PySem.Env}(I:Nat->Shared->Prop)
  (D:∀n s,I n s->wpAny (model prog w) A (pyNext it) (λr f=>match r with
   | none=>R (.ok .next) f
   | some v=>wpAny (model prog w) A (letOwnedTupleGo b it v) (λ_ g=>wpAny (model prog w) A (assign b a v) (λ_ j=>
     wpAny (model prog w) A (forIn ifs true λc r=>if r=true then do let t <- isTrue c a (eval c a);pure (ForInStep.yield t)else pure (ForInStep.yield r)) (λt d=>
      if t=true then wpAny (model prog w) A (eval B a) (λx i=>
       wpAny (model prog w) A (call (.builtin "list.append") [C,x]) (λ_ l=>∃m,m<n/\I m l) (notedBy (model prog w) A a λe s'=>R (.error e) s') i) (notedBy (model prog w) A a λe s'=>R (.error e) s') d
      else ∃m,m<n/\I m d) (notedBy (model prog w) A a λe s'=>R (.error e) s') j) (notedBy (model prog w) A a λe s'=>R (.error e) s') g) (notedBy (model prog w) A a λe s'=>R (.error e) s') f) (notedBy (model prog w) A a λe s'=>R (.error e) s') s)
  (n:Nat) (h:I n s):codeAny (model prog w) A (.compLoop (.ListComp B [⟨b,y,ifs,0⟩] p pos) 0 it C a) R s:=by
 refine NA rfl I (λn s E=>?_) n h;refine NO ?_;rw[compTurn_list];refine Jn (KF (Jn (JO (D n s E) (λr f o=>?_) λ_ _ h'=>h')));cases r with
 | none=>exact Jo o
 | some v=>
  refine Jn (JO o (λ_ g h₀=>?_) λ_ _ h'=>h');refine Jn (JO h₀ (λ_ j u=>Jn (JO u (λt d k=>?_) λ_ _ h'=>h')) λ_ _ h'=>h');cases t with
  | false=>exact Jo ⟨rfl,k⟩
  | true=>
   exact Jn (Jn (JO k (λx i q=>Jn (JO q (λ_ l z=>Jo (Jo ⟨rfl,z⟩)) λ_ _ h'=>h')) λ_ _ h'=>h'))
end
def pw(k:Nat)(caps:List Nat)(n:TI)(f:TG)(p:TT)(te:TE):TE:=λσ H Q=>n σ H λJ g=>∀a,g a=none->∃W:Nat->Nat->List V->Hp->Prop,(∃m,W 0 m [] (upd g a (.lst []))) /\
 ∀i m ys e,W i m ys e->e a=some (.lst ys)/\((J.stop i e/\Q (.ref a) e)\/(J.go i e/\∀x l,J.yld i e x l->f x (List.replicate k none++A8 caps σ) l λd o=>∃c:List (Option V),c.length=k/\d=c++A8 caps σ/\p d o λb h=>
  if b=true then te d h λy j=>j a=some (.lst ys)/\ys.length<sizeLine/\∃m',m'<m/\W (i+1) m' (ys++[y]) (upd j a (.lst (ys++[y])))
  else ∃m',m'<m/\W (i+1) m' ys h))
theorem sg{X:Cx}{elt iter tg:Expr}{k:Nat}{tgp:TG}{ifs:List Expr}{scope:Scope}{pos:Pos}{N':List Str}{caps:List Nat}{wi:TI}{tc:TT}{te:TE}
  (T:CompText X.N X.env N' k caps scope) (hc:X.calm=true) (hg:∀π C fp s H,PG (b6 X π N' scope C fp s H) tg tgp) (hi:PI X tg iter wi)
  (ht:∀π C fp s H,PTL (b6 X π N' scope C fp s H) ifs tc) (he:∀π C fp s H,PE (b6 X π N' scope C fp s H) elt te)
  (hs:∀x,foldedSetIterable iter X.env x=pure x:=by intro _;rfl):PE X (.ListComp elt [⟨tg,iter,ifs,0⟩] scope pos) (pw k caps wi tgp tc te):=by
 intro π s σ H Q I h;have fr:∀x∈scope.names,x.2=NameKind.free->∃c,X.env.cells.lookup x.1=some c:=λx hx hk=>I.ok.has x.1 (T.free x hx hk).2;rw[eval_ListComp];refine Lw (use:=none) rfl hs (v7 fr) T.kind T.loc ?_;refine thn (hi π s σ H _ I h) λv s1 h1=>thn h1 λitv s2 h2=>?_;obtain⟨it,fp,tn,J,H2,rfl,I2,Tn,st2,f2,h2⟩:=h2;obtain⟨W,⟨m0,w0⟩,turn⟩:=h2 s2.heap.objs.size (I2.hok.fresh (Ju _));have hlt:∀b∈fp,b<s2.heap.objs.size:=λb hb=>let ⟨o,e,_⟩:=Tn.obj _ _ st2 b hb;Jx e
 refine JT (LU T.cell (by intro y hy;simp at hy) (λh₁ hns₁ hsb₁=>?_) T.kind);dsimp only at hns₁ hsb₁ ⊢;have hC:(s2.heap.push { cls:=.type "list",dict:=none,data:=.seq ([]:List Value).toArray }).objs.size=s2.heap.objs.size+1:=KG ..;rw[hC]at hns₁ hsb₁;have old:∀b o,s2.heap.get? b=some o->h₁.get? b=some o:=λb o e=>hsb₁.extBut b o (JF (Ko (Jx e))) (Jq _ (Jq _ e));have hacc:h₁.get? s2.heap.objs.size=some { cls:=.type "list",data:=.seq #[] }:=hsb₁.extBut _ _ (JF (Kh _)) (Jq _ (JG _ rfl));have hst₁:tn 0 h₁:=Tn.keep _ _ _ st2 λb _ o e=>old b o e;have I3:=P2 (t:=s2.toks+([]:List (Str×Value)).length) T I2 f2 hlt hns₁ old hacc;have stat:∀{H':Hp},(∀b∈fp,H' b=none)->∀b∈fp,D3 (b6 X π N' scope (s2.heap.objs.size+1) fp s2 H2) [] H' b:=λhn b hb=>by
  refine⟨hn b hb,(I3.ok.exf b hb).1,I3.ok.exfs b hb,.inl hb,(I3.ok.exf b hb).2,λp hp=>?_⟩;have hp':p∈X.pn++π:=by
   have:p∈(X.pn++π)++[]:=hp;rwa [Kc]at this
  exact(f2 b hb).2.2.2.2.2 p hp'
 have loop:∀s3:Shared,s3={ s2 with heap:=h₁,toks:=s2.toks+([]:List (Str×Value)).length } ->
   codeAny (model X.prog X.w) X.A (.compLoop (.ListComp elt [⟨tg,iter,ifs,0⟩] scope pos) 0 (.ref it) (.ref s2.heap.objs.size) (compEnvC scope (O3 X.env.cells scope.names) (s2.heap.objs.size+1) X.env))
    (compPost (model X.prog X.w) X.A X.xe none (EP X π σ Q) (.ref s2.heap.objs.size) (s2.heap.objs.size+1)) s3:=by
  rintro s3 rfl;refine cu (λn s'=>∃i ys H',Inv (b6 X π N' scope (s2.heap.objs.size+1) fp s2 H2) [] (List.replicate k none++A8 caps σ) H' s'/\tn i s'.heap/\(∀b∈fp,H' b=none)/\W i n ys H') ?_ m0
   ⟨0,[],_,I3,hst₁,λb hb=>by rw[a8 (JF (hlt b hb))];exact(f2 b hb).1,w0⟩
  rintro n s4 ⟨i,ys,H4,I4,st4,fr4,w4⟩;obtain⟨hacc4,turn4⟩:=turn i n ys H4 w4;refine g9 ?_;rcases turn4 with ⟨stop,q⟩ | ⟨go,step⟩
  ·refine thn (Tn.done (b6 X π N' scope (s2.heap.objs.size+1) fp s2 H2) rfl rfl rfl hc i [] s4 _ H4 (λ_ _=>False) I4 (stat fr4) st4 stop) λr s5 ⟨hr,I5⟩=>?_;subst hr;obtain⟨m5,hn5,_⟩:=id I5.loc;refine⟨m5,hn5,λh' hs'=>?_⟩;refine⟨.ref s2.heap.objs.size,H4,?_,rfl,q⟩;refine I2.call' (ch:=fp) (s':={ s5 with heap:=h' }) I5.os (Un.sameBut I5.base hs' (KM _)) (I5.hok.sameBut I5.free hs') I5.bare λb hb=>?_;have:=f2 b hb;exact⟨this.2.2.2.1,this.2.1,this.2.2.2.2.1,this.2.2.2.2.2⟩
  ·refine thn (Tn.item (b6 X π N' scope (s2.heap.objs.size+1) fp s2 H2) rfl rfl rfl hc i [] s4 _ H4 (λ_ _=>False) I4 (stat fr4) st4 go) λr s5 ⟨u,hr,h5⟩=>?_;subst hr;dsimp only;refine g9 (thn h5 λ_ s6 ⟨xv,H6,I6,r6,y6,st6,fr6⟩=>?_);have I6':=I6.pinned (stat fr6) (Tn.obj _ _ st6);refine g9 (thn (hg π _ fp s2 H2 _ s6 _ H6 xv u _ I6' r6 (step xv _ y6)) λ_ s7 ⟨σ7,H7,I7,vals,hv,e7,q7⟩=>?_);subst e7;have back:∀{σ8:St}{H8:Hp}{s8:Shared},Inv (b6 X π N' scope (s2.heap.objs.size+1) fp s2 H2) ([]++G8 fp s6.heap) σ8 H8 s8->tn (i+1) s8.heap/\∀b∈fp,H8 b=none:=λ{σ8 H8 s8} I8=>by
    refine⟨Tn.keep _ _ _ st6 λb hb o e=>(I8.pin (b,o) (JV _ (JV _ (u8 hb e)))).1,λb hb=>?_⟩;obtain⟨o,e,d⟩:=Tn.obj _ _ st6 b hb;exact(I8.pin (b,o) (JV _ (JV _ (u8 hb e)))).2.1
   refine g9 (thn (ht π _ fp s2 H2 _ s7 _ _ _ I7 q7) λb s8 ⟨H8,I8,q8⟩=>?_);have wk:∀{H9:Hp}{s9:Shared},Inv (b6 X π N' scope (s2.heap.objs.size+1) fp s2 H2) ([]++G8 fp s6.heap) (vals++A8 caps σ) H9 s9->Inv (b6 X π N' scope (s2.heap.objs.size+1) fp s2 H2) [] (List.replicate k none++A8 caps σ) H9 s9:=λ{H9 s9} I9=>
    I9.unpinned.weak (by simp[hv]) λj v e=>by
     by_cases hj:j<k
     ·rw[Jz (by simpa using hj),Kv,if_pos hj]at e;ext e
     ·rw[Ka (by simpa using hj)]at e;rw[Ka ∅,hv];simpa using e
   cases b with
   | false=>
    obtain⟨m',hm,w'⟩:=q8;exact⟨m',hm,i+1,ys,H8,wk I8,(back I8).1,(back I8).2,w'⟩
   | true=>
    refine g9 (thn (he π _ fp s2 H2 _ s8 _ H8 _ I8 q8) λz s9 ⟨y,H9,I9,r9,hacc9,hl9,m',hm,w'⟩=>?_);refine g9 (thn (U8 (X:=b6 X π N' scope (s2.heap.objs.size+1) fp s2 H2) _ s9 _ H9 (.ref s2.heap.objs.size) [y] (.ref s2.heap.objs.size) [z] (λ_ H'=>H'=upd H9 s2.heap.objs.size (.lst (ys++[y]))) I9 rfl (.cons r9 .nil) ⟨_,ys,y,rfl,rfl,hacc9,hl9,rfl⟩) λ_ s10 ⟨_,H10,I10,_,e10⟩=>?_);subst e10;exact⟨m',hm,i+1,ys++[y],_,wk I10,(back I10).1,(back I10).2,w'⟩
 have fin:=MA (loop _ rfl) (Tn.self _ 0 _ _ _ hst₁ (loop _ rfl));rw[<- hC]at fin;exact fin
end L2
namespace L3
open PySem PySem.Spec PyProof.Rows L2
def mk2(c:Env)(d:D):Env:=match d with
 | .tup [a,b]=>some a::some b::c
 | _=>[]
def uX(t:Env->M Bool)(ρ:Env):M Bool:=match ρ with
 | []=>bad
 | o::ρ=>t (o::ρ)
def dy(caps:List Nat)(b:Env->M (Src×Nat))(t:Env->M Bool)(f:Env->M D)(ρ:Env):M (List D):=bind (b ρ) λa=>G9 a.1 (uX t) f (mk2 (A9 caps ρ)) a.2 0 []
theorem oH{K:PySem.W.Frag}{μ:Mp}{H:Hp}{ρ:Env}{σ:L2.St}{d:D}{x:V}(a:EnvOk K μ H ρ σ)(r:RD K μ H d x):EnvOk K μ H (some d::ρ) (some x::σ):=by
 refine⟨by simp[a.1],λi e b=>?_⟩;cases i with
 | zero=>grind
 | succ j=>exact a.2 j e b
def IU:TGs:=sf (Z5 0) (sf (Z5 1) gNil)
theorem fR{K:PySem.W.Frag}{cl:ClW}{xe:Addr->Hp->Prop}{caps:List Nat}{fi:Env->M (Src×Nat)}{t:Env->M Bool}{f:Env->M D}{σ:L2.St}{H:Hp}{μ:Mp}{S:Sto}{ρ:Env}{Q:VK}(eo:EnvOk K μ H ρ σ)(rp:Rep K cl μ S H)
  (p:Post K cl xe μ H (dy caps fi t f ρ S) λds _ μ' H'=>∀acc ys,LstAt μ' H' acc ys->RDs K μ' H' ds ys->Q (.ref acc) H'):pw 2 caps (tIt K cl xe fi) (Fz K 2 IU) (tBo K cl xe t) (tD K cl xe f) σ H Q:=by
 refine⟨μ,S,ρ,eo,rp,p.bind.imp λsm S1 μ1 H1 l1 r1 p1 J yl acc hacc=>?_⟩;obtain⟨src,m0⟩:=sm;have nrs:=r1.notrs hacc;refine⟨λi m ys H2=>∃μ2 S2 es,HLat μ1 H1 acc μ2 H2/\acc∉μ2.pl/\H2 acc=some (.lst ys)/\EnvOk K μ2 H2 ρ σ/\Rep K cl μ2 S2 H2/\RDs K μ2 H2 es ys/\Post K cl xe μ1 H1 (G9 src (uX t) f (mk2 (A9 caps ρ)) m i es S2) (λds _ μ' H'=>∀acc ys,LstAt μ' H' acc ys->RDs K μ' H' ds ys->Q (.ref acc) H'),⟨m0,μ1.hold acc,S1,[],?_,r1.notin hacc,b8,aO r1 hacc (eo.later l1),av r1 hacc,.nil,p1⟩,?_⟩
 ·refine⟨⟨λ_ _ e=>e,λa o e _=>by rw[a8 (b9 e hacc)];exact e,λa m=>.inl m,λa m=>?_⟩,rfl⟩;rcases JH.mp (m)with rfl | m
  ·exact .inr hacc
  ·exact .inl m
 rintro i m ys H2 ⟨μ2,S2,es,hl,npl,e2,eo2,r2,rds2,p2⟩;refine⟨e2,?_⟩;cases m with
 | zero=>exact p2.elim
 | succ m=>
  have y:bf K cl J i μ2 H2 S2 (src i S2):=yl i μ2 H2 S2 hl.r.u r2;simp only[G9]at p2;cases e1:src i S2 with
  | none=>rw[e1]at p2;exact p2.elim
  | some o=>
   rw[e1]at p2 y;cases o with
   | none=>
    refine .inl ⟨y,p2 μ2.free H2 (hl.lat (Lat.refl _ _)) (aX r2) acc ys ⟨e2,npl,?_⟩ (fb rds2)⟩;show acc∉μ2.rs.tail;rw[hl.rs];exact nrs
   | some d=>
    obtain⟨y1,y2⟩:=y;refine .inr ⟨y1,λx H3 hy=>?_⟩;obtain⟨l3,r3,rd3⟩:=y2 x H3 hy;have h3:=hl.step l3;cases rd3 with
    | tup ht rs=>
     cases rs with
     | nil=>exact False.elim p2
     | cons ra rs=>
      cases rs with
      | nil=>exact False.elim p2
      | cons rb rs=>
       cases rs with
       | cons _ _=>exact False.elim p2
       | nil=>
        rename_i da va db vb;refine⟨_,_,rfl,ht.sq,rfl,va,[vb],rfl,vb,[],rfl,rfl,[some va,some vb],rfl,rfl,?_⟩;have ev:=oH (lG (caps:=caps) (eo2.later l3) rb) ra;refine⟨μ2,S2,some da::some db::A9 caps ρ,ev,r3,(Post.at p2 h3).imp λb S5 μ5 H5 l5 r5 p5=>?_⟩;have h5:=h3.step l5;have l35:=l3.trans l5;have a5:=l35.oth _ _ e2 npl;have n5:=l35.out e2 npl;cases b with
        | false=>exact⟨m,Kh _,μ5,S5,es,h5,n5,a5,eo2.later l35,r5,rds2.later l35,p5⟩
        | true=>
         refine vy ?_;rw[if_pos rfl]at p5;refine⟨μ5,S5,some da::some db::A9 caps ρ,ev.later l5,r5,(Post.at p5 h5).imp λyv S6 μ6 H6 l6 r6 p6 v rv=>?_⟩;have h6:=h5.step l6;have l36:=l35.trans l6;have a6:=l6.oth _ _ a5 n5;have n6:=l6.out a5 n5;by_cases hz:es.length<sizeLine
         ·rw[if_pos hz]at p6;have er:=h6.rs;refine⟨a6,by rw[<- rds2.length];exact hz,m,Kh _,μ6,S6,es++[yv],?_,n6,b8,?_,cQ er a6 r6,cL er ((rds2.later l36).append (.cons rv .nil)),p6⟩
          ·refine⟨⟨h6.r.pre,λa o e n=>?_,h6.r.new,h6.r.rsw⟩,er⟩;rw[a8 (b9 e hacc)];exact h6.r.oth a o e n
          ·have eo6:=eo2.later l36;exact⟨eo6.1,λj e he=>let ⟨w,q,r⟩:=eo6.2 j e he;⟨w,q,qF er r⟩⟩
         ·rw[if_neg hz]at p6;exact p6.elim
    | _=>exact False.elim p2
section
variable {X:Cx}{cl:ClW}{xe:Addr->Hp->Prop}{elt iter:Expr}{x y:Str}{px py tp pos:Pos}{kk:Nat}{ifs:List Expr}{scope:Scope}{N':List Str}{caps:List Nat}{fi:Env->M (Src×Nat)}{t:Env->M Bool}{f:Env->M D}
theorem mS(T:CompText X.N X.env N' 2 caps scope)(h:X.calm=true)(g:N'.Nodup)(d:N'[0]?=some x)(e:N'[1]?=some y)(c:scope.names.lookup x=some .local)(a:scope.names.lookup y=some .local)(j:PI X (.Tuple [.Name x px,.Name y py] kk tp) iter (tIt X.K cl xe fi))
  (n:∀π C b s H,PTL (b6 X π N' scope C b s H) ifs (tBo X.K cl xe t)) (m:∀π C b s H,PE (b6 X π N' scope C b s H) elt (tD X.K cl xe f)) (i:i9 iter=true) :
  PE X (.ListComp elt [⟨.Tuple [.Name x px,.Name y py] kk tp,iter,ifs,0⟩] scope pos) (ey X.K cl xe (dy caps fi t f)):=
 PE.imp (sg T h (λπ C b s H=>ol (X:=b6 X π N' scope C b s H) h (ag (M0 g d (.inl (KQ c)) (.inr (KQ c))) (ag (M0 g e (.inl (KQ a)) (.inr (KQ a))) lQ))) j n m (i4 i)) λσ H Q ⟨μ,S,ρ,l,k,p⟩=>fR l k p
end
def i6(d:D):M Bool:=match d with
 | .non=>ret false
 | .bl b=>ret b
 | .int i=>ret (i != 0)
 | .str x=>if x.length<=sizeLine then ret ((x.length:Int) != 0)else bad
 | .ref n=>λS=>match S[n]? with
  | some (.lst ds)=>.ok (!ds.isEmpty) S
  | some (.dct a)=>.ok (!a.isEmpty) S
  | _=>.bad
 | d=>bind (M9 d) λds=>ret (!ds.isEmpty)
section
variable {K:PySem.W.Frag}{cl:ClW}{xe:Addr->Hp->Prop}{μ:Mp}{H:Hp}{S:Sto}
theorem L6(r:RDs K μ H ds vs):ds.isEmpty=vs.isEmpty:=by ext r <;> rfl
theorem Y5(rd:RD K μ H d v)(rp:Rep K cl μ S H)(p:Post K cl xe μ H (i6 d S) G):∃k,lX K v H k/\G k S μ H:=by
 cases rd with
 | non=>exact⟨_,rfl,p μ H (Lat.refl _ _) rp⟩
 | bl b=>exact⟨_,rfl,p μ H (Lat.refl _ _) rp⟩
 | int i=>exact⟨_,rfl,p μ H (Lat.refl _ _) rp⟩
 | str x=>
  obtain⟨hl,p⟩:=Post.guard p;exact⟨_,⟨hl,rfl⟩,p μ H (Lat.refl _ _) rp⟩
 | tup h r=>exact⟨_,.inr (.inl ⟨_,h.sq,by rw[<- L6 r]⟩),p μ H (Lat.refl _ _) rp⟩
 | lst h r=>exact⟨_,.inl ⟨_,h.sq,by rw[<- L6 r]⟩,p μ H (Lat.refl _ _) rp⟩
 | scr h r=>exact⟨_,.inl ⟨_,h.sq,by rw[<- L6 r]⟩,p μ H (Lat.refl _ _) rp⟩
 | ref h=>
  rename_i n a;simp only[i6]at p;cases q1:S[n]? with
  | none=>rw[q1]at p;exact p.elim
  | some o=>
   rw[q1]at p;cases o with
   | lst ds=>
    obtain⟨xs,h1,h2⟩:=rp.ats n _ a q1 h;exact⟨_,.inl ⟨xs,.inl (.inl h1),by rw[<- L6 h2]⟩,p μ H (Lat.refl _ _) rp⟩
   | dct kvs=>
    obtain⟨ks,h1,h2⟩:=rp.ats n _ a q1 h;refine⟨_,.inr (.inr ⟨ks,h1,rfl⟩),?_⟩;have e:kvs.isEmpty=ks.isEmpty:=by ext h2 <;> rfl
    rw[<- e];exact p μ H (Lat.refl _ _) rp
   | exc _ _=>exact p.elim
   | dcT _=>exact p.elim
end
section
variable {X:Cx}{cl:ClW}{xe:Addr->Hp->Prop}{a b e:Expr}{es rest:List Expr}{pos:Pos}{f g:Env->M D}
theorem uW(h:PE X a (tD X.K cl xe f))(i:C8 a=true):PT X a (tBo X.K cl xe λρ=>bind (f ρ) i6):=PT.imp (rY h (test_of i)) λσ H Q ⟨μ,S,ρ,b,k,p⟩=>
 ⟨μ,S,ρ,b,k,p.bind.imp λd S1 j l m e g v c=>Y5 c e g⟩
theorem Dd(h:PE X a (tD X.K cl xe f)):PE X (.UnaryOp .Not a pos) (tD X.K cl xe λρ=>bind (f ρ) λd=>bind (i6 d) λk=>ret (.bl (!k))):=by
 intro π s σ H Q I ⟨μ,S,ρ,j,t,p⟩;refine UnaryOp_ (thn (h π s σ H (λv b=>∃k,lX X.K v b k/\Q (.bl (!k)) b) I ⟨μ,S,ρ,j,t,p.bind.imp λd S1 e b B i r v m=>let ⟨k,g,q⟩:=Y5 m i r.bind;⟨k,g,q e b (Lat.refl _ _) i _ (.bl _)⟩⟩) λv z ⟨x,b,y,l,k,g,q⟩=>?_);exact not_of (thn (cc π z σ b x v (λo H'=>o=k/\H'=b) y l ⟨k,g,rfl,rfl⟩) λc C ⟨A,w,u,n⟩=>by
  subst u n;exact⟨.bl (!c),A,w,rfl,q⟩)
theorem rA(h:PE X a (tD X.K cl xe f)):PE X (.BoolOp op [a] pos) (tD X.K cl xe f):=CJ h
theorem Cq(h:PE X a (tD X.K cl xe f))(k:PE X (.BoolOp .And (b::rest) pos) (tD X.K cl xe g)):PE X (.BoolOp .And (a::b::rest) pos) (tD X.K cl xe λρ=>bind (f ρ) λd=>bind (i6 d) λq=>if q=true then g ρ else ret d):=by
 intro π s σ H Q I ⟨μ,S,ρ,m,A,p⟩;refine BoolOp_and (thn (h π s σ H (λv e=>∃c,lX X.K v e c/\if c=true then tD X.K cl xe g σ e Q else Q v e) I ⟨μ,S,ρ,m,A,p.bind.imp λd S1 i e F j w v n=>?_⟩) λv z ⟨x,e,E,t,c,l,q⟩=>?_)
 ·obtain⟨c,l,q⟩:=Y5 n j w.bind;refine⟨c,l,?_⟩;cases c with
  | true=>exact⟨i,S1,ρ,m.later F,j,q⟩
  | false=>exact q i e (Lat.refl _ _) j _ n
 ·refine thn (cc π z σ e x v (λB H'=>B=c/\H'=e) E t ⟨c,l,rfl,rfl⟩) λC D ⟨r,o,y,u⟩=>?_;subst y u;cases C with
  | true=>exact k π D σ r Q o q
  | false=>exact⟨x,r,o,t,q⟩
theorem Go(h:PE X a (tD X.K cl xe f))(k:PE X (.BoolOp .Or (b::rest) pos) (tD X.K cl xe g)):PE X (.BoolOp .Or (a::b::rest) pos) (tD X.K cl xe λρ=>bind (f ρ) λd=>bind (i6 d) λq=>if q=true then ret d else g ρ):=by
 intro π s σ H Q I ⟨μ,S,ρ,m,A,p⟩;refine BoolOp_or (thn (h π s σ H (λv e=>∃c,lX X.K v e c/\if c=true then Q v e else tD X.K cl xe g σ e Q) I ⟨μ,S,ρ,m,A,p.bind.imp λd S1 i e F j w v n=>?_⟩) λv z ⟨x,e,E,t,c,l,q⟩=>?_)
 ·obtain⟨c,l,q⟩:=Y5 n j w.bind;refine⟨c,l,?_⟩;cases c with
  | true=>exact q i e (Lat.refl _ _) j _ n
  | false=>exact⟨i,S1,ρ,m.later F,j,q⟩
 ·refine thn (cc π z σ e x v (λB H'=>B=c/\H'=e) E t ⟨c,l,rfl,rfl⟩) λC D ⟨r,o,y,u⟩=>?_;subst y u;cases C with
  | true=>exact⟨x,r,o,t,q⟩
  | false=>exact k π D σ r Q o q
def tPt(K:PySem.W.Frag)(cl:ClW)(xe:Addr->Hp->Prop)(fp:Env->M (Option Int)):TO:=λσ H Q=>∃μ S ρ,EnvOk K μ H ρ σ/\Rep K cl μ S H/\Post K cl xe μ H (fp ρ S) λo _ _ H'=>Q o H'
def gF(d:D):M (Option Int):=match d with
 | .int i=>ret (some i)
 | _=>bad
theorem PO.imp{e:Option Expr}{t t':TO}(h:PO X e t)(k:∀σ H Q,t' σ H Q->t σ H Q):PO X e t':=λπ s σ H Q I q=>h π s σ H Q I (k σ H Q q)
theorem vW:PO X none (tPt X.K cl xe λ_=>ret none):=PO.imp wc λσ H Q ⟨μ,S,ρ,b,a,p⟩=>p μ H (Lat.refl _ _) a
theorem xY(h:PE X e (tD X.K cl xe f)):PO X (some e) (tPt X.K cl xe λρ=>bind (f ρ) gF):=PO.imp (yP h) λσ H Q ⟨μ,S,ρ,eo,rp,p⟩=>
 ⟨μ,S,ρ,eo,rp,p.bind.imp λd S1 μ1 H1 l1 r1 p1 v rv=>by
  cases rv with
  | int i=>exact⟨i,rfl,p1 μ1 H1 (Lat.refl _ _) r1⟩
  | _=>exact False.elim p1⟩
theorem M3{s:Shared}{t e:Addr}{items:Array Value}{k i:Value}{lo c:Option Int}{Q:Value->Shared->Prop}(a:IsTup s.heap t items)(hs:s.heap.IsSliceOf e k i .none)(pl:IsPart k lo)(l:IsPart i c)
  (j:HT.sIx items.size 0 lo=0/\HT.sIx items.size items.size c=items.size) (h:Q (.ref t) s):wpAny (model prog w) A (getItem (.ref t) (.ref e)) Q E s:=by
 obtain⟨m,g,d,hds⟩:=id hs;have f:s.TypeIs (.ref e) "slice":=⟨m,g,d⟩;unfold getItem;try with_reducible refine Kf ?_
 first | refine Jn (Jo ?_) | skip
 refine Jn (Ng a.typeIs ⋯ ?_);refine Jn (Kw a.typeIs Km
  (KJ Km a.typeIs MQ ?_ (MW _ _)))
 show wpAny _ _ (Builtin.Tuple.tupleItemsOf (.ref t) >>= _) _ _ s;refine Jn (Nk a ?_);refine Jn (MR f ?_);rw[if_pos ⋯];refine Jn (HT.sliceApplied_gen hs pl l ?_);have b:(((HT.sIx items.size 0 lo:Nat):Int)==0&&(1:Int)==1&&(HT.sIx items.size items.size c-HT.sIx items.size 0 lo)==items.size)=true:=by
  rw[j.1,j.2];simp
 show wpAny _ _ (if (((HT.sIx items.size 0 lo:Nat):Int)==0&&(1:Int)==1&&(HT.sIx items.size items.size c-HT.sIx items.size 0 lo)==items.size)=true then _ else _) _ _ s;rw[if_pos b];refine Jn ?_;refine Jn (MR a.typeIs (Jo ?_));rw[if_pos ⋯];refine Jn (Nz ?_);exact Jo ⟨_,rfl,Jo h⟩
theorem xE:SlR X (λx lo e H Q=>∃a xs,x=.ref a/\SqT X.K H a xs/\(HT.sIx xs.length 0 lo=0/\HT.sIx xs.length xs.length e=xs.length)/\Q (.ref a) H):=by
 intro π s σ H x v m k lo e l Q I f hs pl j h;obtain⟨a,xs,rfl,g,i,q⟩:=h;ext f;obtain⟨c,r,d,hz⟩:=I.tuple g;have b:c.toArray.size=xs.length:=by rw[Jv];exact r.length.symm
 exact⟨"tuple",_,PyProof.Rows.slot_tuple_getitem.lookup,d.typeIs,M3 d hs pl j (by rw[b];exact i) ⟨.ref a,H,I,rfl,q⟩⟩
theorem Hw:SlR X (λx lo hi H Q=>∃μ S d,RD X.K μ H d x/\Rep X.K cl μ S H/\Post X.K cl xe μ H (slD d lo hi S) λr _ μ' H'=>∀v,RD X.K μ' H' r v->Q v H'):=by
 intro π s σ H x v vl vu lo hi sl Q I rx hs pl pu ⟨μ,S,d,rd,rp,p⟩;have sq:∀{a:Addr}{xs:List V}{ds:List D},SqL X.K H a xs->RDs X.K μ H ds xs->x=.ref a->(∀μ' H',Lat μ H μ' H'->Rep X.K cl μ' S H'->∀w,RD X.K μ' H' (.lst (G3 ds lo hi)) w->Q w H') ->
   ∃T id,typeLookup (.type T) "__getitem__" = pure (some (.builtin id))/\s.TypeIs v T/\wpAny (model X.prog X.w) X.A (getItem v (.ref sl)) (EP X π σ Q) X.xe s:=λ{a xs ds} hq r2 hv q=>by
  subst hv;refine wv π s σ H _ v vl vu lo hi sl Q I rx hs pl pu ⟨a,xs,rfl,hq,λz hz=>?_⟩;obtain⟨l,rp2,rd2⟩:=L8 rp (oS r2 lo hi) hz;exact q μ _ l rp2 _ rd2
 cases rd with
 | tup h r=>
  rename_i a xs ds;by_cases hw:HT.sIx xs.length 0 lo=0/\HT.sIx xs.length xs.length hi=xs.length
  ·refine xE π s σ H _ v vl vu lo hi sl Q I rx hs pl pu ⟨a,xs,rfl,h.sq,hw,?_⟩;have e:G3 ds lo hi=ds:=by
    unfold G3;rw[r.length,hw.1,hw.2,KH,Nat.sub_zero];exact Le (by rw[r.length];exact Ju _)
   exact p μ H (Lat.refl _ _) rp _ (by rw[e];exact .tup h r)
  ·refine Ar π s σ H _ v vl vu lo hi sl Q I rx hs pl pu ⟨a,xs,rfl,h.sq,hw,λz hz=>?_⟩;obtain⟨l,rp2,rd2⟩:=D9 rp (oS r lo hi) hz;exact p μ _ l rp2 _ rd2
 | lst h r=>exact sq h.sq r rfl p
 | scr h r=>exact sq h.sq r rfl p
 | ref h=>
  rename_i n a0;have p2:=p;obtain⟨a,xs,ds,e1,h1,h2,e2⟩:=j0 (.ref h) rp p2.bind;exact sq (.inl (.inl h1)) h2 e1 (p2.ok_bind e2)
 | _=>exact False.elim p
theorem HM{lo k:Option Expr}{c:Pos}{j m:Env->M (Option Int)}(h:PE X e (tD X.K cl xe f))(t:PO X lo (tPt X.K cl xe j))(B:PO X k (tPt X.K cl xe m)) :
  PE X (.Subscript e (.Slice lo k none c) pos) (tD X.K cl xe λρ=>bind (f ρ) λd=>bind (j ρ) λl=>bind (m ρ) λu=>slD d l u):=PE.imp (nn Hw h t B) λσ H Q ⟨μ,S,ρ,a,s,p⟩=>
 ⟨μ,S,ρ,a,s,p.bind.imp λd S1 g C n o q v x=>⟨g,S1,ρ,a.later n,o,q.bind.imp λl S2 μ2 E i A c=>⟨μ2,S2,ρ,(a.later n).later i,A,c.bind.imp λu z b D y r w=>⟨b,z,d,(x.later i).later y,r,w⟩⟩⟩⟩
end
def Q3(x k v:D):M D:=match x with
 | .ref n=>λS=>match S[n]? with
  | some (.lst ds)=>match k with
   | .int i=>match ixN ds.length i with
    | some j=>.ok .non (S.set n (.lst (ds.set j v)))
    | none=>.bad
   | _=>.bad
  | some (.dct a)=>match N5 k with
   | some b=>if a.length<sizeLine then .ok .non (S.set n (.dct (mq a b v)))else .bad
   | none=>.bad
  | _=>.bad
 | _=>bad
theorem jo{K:PySem.W.Frag}{μ:Mp}{H:Hp}{k:Key}:∀{a:List (Key×D)} {c:List (Key×V)},KvsAt K μ H a c->(a.any λb=>decide (b.1=k))=c.any λb=>decide (b.1=k)
 | _,_,.nil=>rfl
 | _,_,.cons ⟨d,e⟩ t=>by simp only[Lv,d,jo t]
theorem lN{K:PySem.W.Frag}{μ:Mp}{H:Hp}{k:Key}{d:D}{v:V}(r:RD K μ H d v):∀{c:List (Key×D)} {e:List (Key×V)},KvsAt K μ H c e->KvsAt K μ H (c.map λa=>if a.1=k then (a.1,d)else a) (e.map λa=>if a.1=k then (a.1,v)else a)
 | _,_,.nil=>.nil
 | _,_,.cons (b:=b) ⟨h1,h2⟩ t=>by
  refine .cons ?_ (lN r t);by_cases f:b.1=k
  ·grind
  ·grind
theorem Paired.app:∀{xs a:List α}{ys b:List β},Paired P xs ys->Paired P a b->Paired P (xs++a) (ys++b)
 | _,_,_,_,.nil,s=>s
 | _,_,_,_,.cons r t,s=>.cons r (Paired.app t s)
theorem jX{K:PySem.W.Frag}{μ:Mp}{H:Hp}{k:Key}{d:D}{v:V}{a:List (Key×D)}{b:List (Key×V)}(h:KvsAt K μ H a b)(r:RD K μ H d v):KvsAt K μ H (mq a k d) (v9 b k v):=by
 unfold mq v9;rw[jo h];split
 ·exact lN r h
 ·exact Paired.app h (.cons ⟨rfl,r⟩ .nil)
theorem KvsAt.later{K:PySem.W.Frag}{μ μ':Mp}{H H':Hp}{a:List (Key×D)}{b:List (Key×V)}(h:KvsAt K μ H a b)(l:Lat μ H μ' H'):KvsAt K μ' H' a b:=Paired.mono (λ_ _ ⟨z,w⟩=>⟨z,w.later l⟩) h
section
variable {X:Cx}{cl:ClW}{xe:Addr->Hp->Prop}{a b e:Expr}{es rest:List Expr}{pos:Pos}{f g k:Env->M D}
theorem GT(hu:X.A.units+1<cLine):AS X (λo i v H Q=>∃μ S x y z,RD X.K μ H x o/\RD X.K μ H y i/\RD X.K μ H z v/\Rep X.K cl μ S H/\Post X.K cl xe μ H (Q3 x y z S) λ_ _ _ H'=>Q H'):=by
 intro π s σ H o i v ov iv u Q I ro ri rv ⟨μ,S,x,y,z,rx,ry,rz,rp,p⟩;cases rx with
 | ref h=>
  rename_i n a;have m:=JL h;simp only[Q3]at p;cases q1:S[n]? with
  | none=>rw[q1]at p;exact p.elim
  | some ob=>
   rw[q1]at p;cases ob with
   | lst ds=>
    obtain⟨xs,h1,h2⟩:=rp.ats n _ a q1 h;cases ry with
    | int j=>
     simp only at p;cases q2:ixN ds.length j with
     | none=>rw[q2]at p;exact p.elim
     | some t=>
      rw[q2]at p;refine rG π s σ H _ _ v ov iv u Q I ro ri rv ⟨a,xs,j,t,rfl,rfl,h1,by rw[<- h2.length];exact q2,?_⟩;exact p μ _ (Lat.wrote m) (rp.wrote h ⟨_,b8,(h2.set rz t).later (Lat.wrote m)⟩)
    | _=>exact False.elim p
   | dct kvs=>
    obtain⟨ks,h1,h2⟩:=rp.ats n _ a q1 h;cases q2:N5 y with
    | none=>rw[q2]at p;exact p.elim
    | some key=>
     rw[q2]at p;by_cases hl:kvs.length<sizeLine
     ·simp only[if_pos hl]at p;have hy:=aT ry q2;subst hy;ext ro;have hl2:ks.length<sizeLine:=by rw[<- Paired.length h2];exact hl
      refine mC hu I (DPut.k h1 hl2) ri rv λs' I'=>⟨_,I',?_⟩;exact p μ _ (Lat.wrote m) (rp.wrote h ⟨_,b8,(jX h2 rz).later (Lat.wrote m)⟩)
     ·simp only[if_neg hl]at p;exact p.elim
   | exc _ _=>exact p.elim
   | dcT _=>exact p.elim
 | _=>exact False.elim p
theorem mh(h:t8 b=true):∀v,assign (.Subscript a b p2) env v=(do
   let c <- holding [v] (eval a env)
   let d <- holding [v,c] (eval b env)
   standAt p2
   holding [v,c,d] (setItem c d v)
   release [v,c,d] []):=by
 intro v;ext b <;> first | rfl | (exact absurd h (by simp[t8]))
theorem si(o:X.A.units+1<cLine)(L:PE X e (tD X.K cl xe f))(J:PE X a (tD X.K cl xe g))(I:PE X b (tD X.K cl xe k))(s:k9 e=true)(u:t8 b=true) :
  PS X (.Assign [.Subscript a b n] e pos) (sD X.K cl xe λρ=>bind (f ρ) λv=>bind (g ρ) λx=>bind (k ρ) λy=>bind (Q3 x y v) λ_=>ret (.nx ρ)):=
 PS.imp (hF L (Cy J I (GT o) (mh u)) (by unfold swapsWithSole;exact C9 s) rfl rfl) λD σ H ⟨μ,S,ρ,c,z,p⟩=>
  ⟨μ,S,ρ,c,z,p.bind.imp λv S1 j P m r t vv F=>⟨j,S1,ρ,c.later m,r,t.bind.imp λx S2 μ2 T d N n R K=>⟨μ2,S2,ρ,(c.later m).later d,N,n.bind.imp λy M i Q l w E O q=>
   ⟨i,M,x,y,v,K.later l,q,(F.later d).later l,w,E.bind.imp λ_ U h B G C A=>A.ret h B (Lat.refl _ _) C σ ((((c.later m).later d).later l).later G)⟩⟩⟩⟩
def bb(x:D)(ds:List D):M D:=match x,ds with
 | .ref n,[d]=>λS=>match S[n]? with
  | some (.lst es)=>if es.length<sizeLine then .ok .non (S.set n (.lst (es++[d])))else .bad
  | _=>.bad
 | _,_=>bad
def E1(es:List Expr):Bool:=decide (es.length<30)
theorem iq(b:es.all noStar=true)(a:E1 es=true):((backTo cpos (starEach es X.env)).all (λx=>!x.1)&&(backToKw cpos (keywordEach [] X.env)).all (λx=>x.1.isSome)&&decide (es.length+([]:List Keyword).length+(if ([]:List Keyword).isEmpty then 0 else 1)<30))=true:=by
 rw[ar b];simpa [keywordEach,backToKw] using Kb a
theorem mY(ho:PE X a (tD X.K cl xe f))(ha:PA X (e::es) (tDs X.K cl xe fs))(hb:v8 a=true)(hs:(e::es).all noStar=true)(hf:E1 (e::es)=true)(hl:(apos.endLine==cpos.line)=true) :
  PE X (.Call (.Attribute a "append" apos) (e::es) [] cpos) (tD X.K cl xe λρ=>bind (f ρ) λx=>bind (lstOf x) λ_=>bind (fs ρ) λds=>bb x ds):=by
 have hs2:=hs;rw[Kt,Jp]at hs2;refine PE.imp (zc Ms PySem.F.slot_list_append PySem.F.type_list_append U8 ho ha (D7 hb) (iq hs hf) hl (g6 hs2.1) (k7 hs2.2)) λσ H Q ⟨μ,S,ρ,eo,rp,p⟩=>?_;refine⟨μ,S,ρ,eo,rp,p.bind.imp λx S1 μ1 H1 l1 r1 p1 xv rx=>?_⟩;obtain⟨a0,xs0,ds0,e0,h0,r0,q0⟩:=j0 rx r1 p1.bind;have p1:=p1.ok_bind q0;subst e0;refine⟨.inl ⟨rfl,_,.inl (.inl h0)⟩,μ1,S1,ρ,eo.later l1,r1,p1.bind.imp λds S2 μ2 H2 l2 r2 p2 vs rvs=>?_⟩;have rx2:=rx.later l2;clear p1;cases rx2 with
 | ref h=>
  rename_i n
  match ds,rvs with
  | [],_=>exact False.elim p2
  | _::_::_,_=>exact False.elim p2
  | [d],rvs=>
   obtain⟨v,rfl,rv⟩:=pj rvs;simp only[bb]at p2;cases q1:S2[n]? with
   | none=>rw[q1]at p2;exact p2.elim
   | some o=>
    rw[q1]at p2;cases o with
    | lst es=>
     obtain⟨xs,h1,h2⟩:=r2.ats n _ _ q1 h;by_cases hl:es.length<sizeLine
     ·simp only[if_pos hl]at p2;have m:=JL h;refine⟨_,xs,v,rfl,rfl,h1,by rw[<- h2.length];exact hl,?_⟩;exact p2 μ2 _ (Lat.wrote m) (r2.wrote h ⟨_,b8,(h2.append (.cons rv .nil)).later (Lat.wrote m)⟩) _ .non
     ·simp only[if_neg hl]at p2;exact p2.elim
    | dct _=>exact p2.elim
    | exc _ _=>exact p2.elim
    | dcT _=>exact p2.elim
 | _=>exact False.elim p2
end
def B7:List ((Env->M D)×(Env->M D))->Env->M (List (D×D))
 | [],_=>ret []
 | (f,g)::r,ρ=>bind (f ρ) λx=>bind (g ρ) λy=>bind (B7 r ρ) λps=>ret ((x,y)::ps)
def iu(c a:List (Key×D)):List (Key×D):=a.foldl (λb d=>mq b d.1 d.2) c
def bq(p:D×D):Option (Key×D):=(N5 p.1).map λk=>(k,p.2)
def oU(ps:List (D×D)):M D:=λS=>match e9 bq ps with
 | some a=>if a.length<=15 then .ok (.ref S.length) (S++[.dct (iu [] a)])else .bad
 | none=>.bad
section
variable {K:PySem.W.Frag}{cl:ClW}{xe:Addr->Hp->Prop}{μ:Mp}{H:Hp}{S:Sto}{β:Type}
theorem cW:∀{d:List (Key×D)} {ms:List (Key×V)} {c:List (Key×D)} {e:List (Key×V)},KvsAt K μ H d ms->KvsAt K μ H c e->KvsAt K μ H (iu c d) (O1 e ms)
 | _,_,_,_,.nil,h=>h
 | _,_,c,e,.cons (a:=a) (b:=b) ⟨h1,h2⟩ t,h=>by
  show KvsAt K μ H (iu (mq c a.1 a.2) _) (O1 (v9 e b.1 b.2) _);rw[h1];exact cW t (jX h h2)
abbrev RPs(K:PySem.W.Frag)(μ:Mp)(H:Hp):List (D×D)->List (V×V)->Prop:=Paired λx y=>RD K μ H x.1 y.1/\RD K μ H x.2 y.2
theorem bind_assoc(m:M α)(k:α->M β)(j:β->M γ):bind (bind m k) j=bind m λa=>bind (k a) j:=by
 funext S;unfold bind;grind
theorem g8(a:α)(k:α->M β):bind (ret a) k=k a:=rfl
theorem W9{ρ:Env}{σ:L2.St}:∀{fks:List ((Env->M D)×(Env->M D))} {k:List (D×D)->M β} {G:β->Sto->Mp->Hp->Prop} {R:List (V×V)->Hp->Prop} {μ2:Mp} {c:Hp} {S2:Sto},Post K cl xe μ H (bind (B7 fks ρ) k S2) G->HLat μ H p μ2 c->p∉μ2.pl->c p=some o->EnvOk K μ2 c ρ σ->Rep K cl μ2 S2 c ->
  (∀ps d a j ds,HLat μ H p a d->p∉a.pl->d p=some o->Rep K cl a j d->Lat μ2 c a d->RPs K a d ds ps->Post K cl xe μ H (k ds j) G->R ps d)->dP (fks.map λz=>(tD K cl xe z.1,tD K cl xe z.2)) σ c R
 | [],k,G,R,μ2,c,S2,h,l,n,e,i,s,q=>q [] c μ2 S2 [] l n e s (Lat.refl _ _) .nil h
 | (f,g)::r,k,G,R,μ2,c,S2,h,l,n,e,i,s,q=>by
  have S:Post K cl xe μ H (bind (f ρ) (λx=>bind (g ρ) λy=>bind (B7 r ρ) λps=>k ((x,y)::ps)) S2) G:=by
   have:bind (B7 ((f,g)::r) ρ) k=bind (f ρ) (λx=>bind (g ρ) λy=>bind (B7 r ρ) λps=>k ((x,y)::ps)):=by
    show bind (bind (f ρ) λx=>bind (g ρ) λy=>bind (B7 r ρ) λps=>ret ((x,y)::ps)) k=_;simp only[bind_assoc,g8]
   rw[<- this];exact h
  refine⟨μ2,S2,ρ,i,s,(S.at l).imp λx j a d t T C N I=>?_⟩;refine⟨a,j,ρ,i.later t,T,(C.at (l.step t)).imp λy S4 Y Z A P L U F=>?_⟩;have b:=t.trans A;have O:=b.oth _ _ e n;refine W9 L (l.step b) (b.out e n) O (i.later b) P λps E m B ds w W X J u v Q=>?_;exact q ((N,U)::ps) E m B ((x,y)::ds) w W X J (b.trans u) (.cons ⟨(I.later A).later u,F.later u⟩ v) Q
theorem ii{p:Addr}{u:HO}{ob:O}{rs:List Addr}{kz:List (Key×V)}(er:μ.rs=p::rs)(nr:p∉rs)(hp:H p=some (.dK kz))(rp:Rep K cl μ S H)(ho:OAt K cl ⟨μ.pl++[p],rs⟩ (upd H p u) p ob):Rep K cl ⟨μ.pl++[p],rs⟩ (S++[ob]) (upd H p u):=by
 have np:p∉μ.pl:=(rp.res p (by rw[er];exact Jy)).1;have hp':∀(n:Nat)(a:Addr),μ.pl[n]?=some a->(μ.pl++[p])[n]?=some a:=λn a e=>by rw[Jz (Js.mp e).1];exact e
 have ho':∀a w,H a=some w->a∉μ.pl->a∉μ.rs->upd H p u a=some w/\a∉(⟨μ.pl++[p],rs⟩:Mp).pl/\a∉(⟨μ.pl++[p],rs⟩:Mp).rs:=λa w e n1 n2=>by
  have ne:a≠p:=λz=>n2 (by rw[er,z];exact Jy);refine⟨by rw[a8 ne];exact e,λz=>?_,λz=>n2 (by rw[er];exact JE _ z)⟩;rcases JY.mp z with z | z
  ·exact n1 z
  ·exact ne (JK.mp z)
 refine⟨by simp[rp.len],?_,λn o a e1 e2=>?_,λa m=>?_⟩
 ·show(μ.pl++[p]).Nodup;rw[Mx];exact⟨rp.nd,by simp,λa m b m2=>by rw[JK.mp m2];rintro rfl;exact np m⟩
 ·have e2:(μ.pl++[p])[n]?=some a:=e2;by_cases hn:n<S.length
  ·rw[Jz hn]at e1;rw[Jz (by rw[rp.len];exact hn)]at e2;have h:=rp.ats n o a e1 e2;have ka:upd H p u a=H a:=a8 λz=>np (z▸JL e2);cases o with
   | lst ds=>obtain⟨xs,e,q⟩:=h;exact⟨xs,by rw[ka];exact e,q.move hp' ho'⟩
   | dct kvs=>obtain⟨xs,e,q⟩:=h;exact⟨xs,by rw[ka];exact e,Paired.mono (λ_ _ ⟨z,w⟩=>⟨z,w.move hp' ho'⟩) q⟩
   | dcT kvs=>obtain⟨es,e,h1,h2,q⟩:=h;exact⟨es,by rw[ka];exact e,h1,h2,Paired.mono (λ_ _ ⟨b,v,z,a1,a2,a3,a4,a5,a6⟩=>⟨b,v,z,a1,a2.move hp' ho',a3,a4,a5,a6.move hp' ho'⟩) q⟩
   | exc c fs=>
    obtain⟨xc,gs,q,fr,h⟩:=h;refine⟨xc,gs,Paired.mono (λ_ _ ⟨z,w⟩=>⟨z,w.move hp' ho'⟩) q,fr,?_⟩;rcases h with ⟨z,e⟩ | ⟨d,h1,h2,e,e3⟩
    ·exact .inl ⟨z,by rw[ka];exact e⟩
    ·have ne:d≠p:=lL e3 hp (by intro z;ext z);refine .inr ⟨d,h1,λz=>?_,by rw[ka];exact e,by rw[a8 ne];exact e3⟩;rcases JY.mp z with z | z
     ·exact h2 z
     ·exact ne (JK.mp z)
  ·have hn2:n=S.length:=by
    have:=(Js.mp e1).1;simp at this;omega
   subst hn2;rw[<- rp.len]at e2;simp at e1 e2;subst e1;subst e2;exact ho
 ·have m:a∈rs:=m;obtain⟨h1,w,h2⟩:=rp.res a (by rw[er];exact JE _ m);have ne:a≠p:=λz=>nr (z▸m);refine⟨λz=>?_,w,by rw[a8 ne];exact h2⟩;rcases JY.mp z with z | z
  ·exact h1 z
  ·exact ne (JK.mp z)
theorem aJ:∀{ds:List (D×D)} {ps:List (V×V)} {c:List (Key×D)},RPs K μ H ds ps->e9 bq ds=some c->∃f:List (Key×V),KvsAt K μ H c f/\ps=f.map (λg=>(kV g.1,g.2))
 | _,_,c,.nil,e=>by ext e;exact⟨[],.nil,rfl⟩
 | _,_,c,.cons (a:=a) (b:=b) ⟨h1,h2⟩ t,e=>by
  simp only[e9]at e;cases d:bq a with
  | none=>rw[d]at e;ext e
  | some g=>
   rename_i m q;cases h:e9 bq m with
   | none=>rw[d,h]at e;ext e
   | some j=>
    rw[d,h]at e;ext e;obtain⟨f,o,n⟩:=aJ t h;unfold bq at d;cases i:N5 a.1 with
    | none=>grind
    | some k=>
     rw[i]at d;ext d;have:=aT h1 i;obtain⟨p,l⟩:=b;subst this;exact⟨(k,l)::f,.cons ⟨rfl,h2⟩ o,by rw[n];rfl⟩
end
section
variable {X:Cx}{cl:ClW}{xe:Addr->Hp->Prop}{pos:Pos}
theorem vH(h:PPs X pos keys values (fks.map λy=>(tD X.K cl xe y.1,tD X.K cl xe y.2)))(j:keys.all (·.isSome)=true)(I:keys.length=values.length)(O:keys≠[])(f:keys.length<=15) :
  PE X (.Dict keys values pos) (tD X.K cl xe λρ=>bind (B7 fks ρ) oU):=PE.imp (ye h j I O f) λσ H Q ⟨μ,S,ρ,M,l,P⟩=>by
 intro p i;have q:=l.notrs i;refine W9 (μ2:=μ.hold p) P ?_ (l.notin i) b8 (aO l i M) (av l i) λps A c R ds b L C E U t g=>?_
 ·refine⟨⟨λ_ _ e=>e,λa o e _=>by rw[a8 (b9 e i)];exact e,λa m=>.inl m,λa m=>?_⟩,rfl⟩;rcases JH.mp (m)with rfl | m
  ·exact .inr i
  ·exact .inl m
 ·simp only[oU]at g;cases s:e9 bq ds with
  | none=>rw[s]at g;exact g.elim
  | some x=>
   rw[s]at g;by_cases f:x.length<=15
   ·simp only[if_pos f]at g;obtain⟨K,B,G⟩:=aJ t s;refine⟨C,K,G,by rw[<- Paired.length B];exact f,?_⟩;have W:=L;have k:∀(n:Nat)(a:Addr),c.pl[n]?=some a->(c.pl++[p])[n]?=some a:=λn a e=>by rw[Jz (Js.mp e).1];exact e
    have N:∀{u:HO}{d:D}{v:V},RD X.K c A d v->RD X.K ⟨c.pl++[p],μ.rs⟩ (upd A p u) d v:=λr=>r.move k λa w e J F=>by
     have T:a≠p:=λz=>F (by rw[b.rs,z];exact Jy);refine⟨by rw[a8 T];exact e,λz=>?_,λz=>F (by rw[b.rs];exact JE _ z)⟩;rcases JY.mp z with z | z
     ·exact J z
     ·grind
    refine g ⟨c.pl++[p],μ.rs⟩ _ ?_ (ii b.rs q C E ⟨_,b8,cW (Paired.mono (λ_ _ ⟨z,w⟩=>⟨z,N w⟩) B) .nil⟩) _ (.ref ?_)
    ·refine⟨λn a e=>k n a (b.r.pre n a e),λa o e n=>?_,λa m=>?_,rfl⟩
     ·rw[a8 (b9 e i)];exact b.r.oth a o e n
     ·rcases JY.mp (m)with m | m
      ·exact b.r.new a m
      ·grind
    ·show(c.pl++[p])[R.length]?=some p;rw[<- E.len];simp
   ·simp only[if_neg f]at g;exact g.elim
end
def w5(S:Sto)(d:D):Bool:=match i8 64 S d with
 | some p=>decide (Shows p)&&decide (p.shown.length<=4000)&&(match d with
  | .str x=>decide (x.length<=4000)
  | _=>true)
 | none=>false
def D5(c:Nat)(fs:List Str)(ds:List D):M D:=λS=>if ds.length=fs.length/\ds.all (w5 S)=true then .ok (.ref S.length) (S++[.exc c (fs.zip ds)])else .bad
def rf(c:Nat)(ds:List D):M D:=λS=>match ds with
 | [_]=>.ok (.ref S.length) (S++[.exc c []])
 | _=>.bad
theorem jH{K:PySem.W.Frag}{cl:ClW}{μ:Mp}{H:Hp}{S:Sto}{d:D}{v:V}(rp:Rep K cl μ S H)(r:RD K μ H d v)(h:w5 S d=true):∃p,Hn.Fmt K H v p:=by
 unfold w5 at h;cases e:i8 64 S d with
 | none=>rw[e]at h;ext h
 | some p=>
  rw[e]at h;simp at h;refine⟨p,B3 rp 64 e r,h.1.1,h.1.2,λx ex=>?_⟩;subst ex;cases r with
  | str _=>grind
def Es(K:PySem.W.Frag)(H:Hp)(v:V):Prop:=∃x C d,v=.ref x/\XC K C/\H x=some (O9 x C d)
def tDf(K:PySem.W.Frag)(cl:ClW)(xe:Addr->Hp->Prop)(f:Env->M D):TE:=λσ H Q=>∃μ S ρ,EnvOk K μ H ρ σ/\Rep K cl μ S H/\Post K cl xe μ H (f ρ S) λd _ μ' H'=>∀v,RD K μ' H' d v->Es K H' v->Q v H'
theorem PE.unf{X:Cx}{cl:ClW}{xe:Addr->Hp->Prop}{e:Expr}{f:Env->M D}(h:PE X e (tDf X.K cl xe f)):PE X e (tD X.K cl xe f):=PE.imp h λσ H Q ⟨μ,S,ρ,eo,rp,P⟩=>⟨μ,S,ρ,eo,rp,P.imp λd S1 μ1 H1 l1 r1 p1 v rv _=>p1 v rv⟩
section
variable {X:Cx}{cl:ClW}{xe:Addr->Hp->Prop}{e:Expr}{es:List Expr}{pos:Pos}{fs:Env->M (List D)}
theorem jp{K:PySem.W.Frag}{μ:Mp}{H H':Hp}{S:Sto}{c:Nat}{x:Addr}{gs:List (Str×V)}{ds:List (Str×D)}(b:Rep K cl μ S H)(f:H x=none)(M:XC K (cl c))(g:Hn.Got (upd H x (O9 x (cl c) none)) x (cl c) gs H')(r:∀{μ':Mp}{H':Hp},Lat μ H μ' H'->pF K μ' H' ds gs) :
  Lat μ H (μ.push x) H'/\Rep K cl (μ.push x) (S++[.exc c ds]) H'/\RD K (μ.push x) H' (.ref S.length) (.ref x):=by
 obtain⟨d,hd,h,n,j,m⟩:=g;rw[a8 h]at hd;have k:∀a u,H a=some u->H' a=some u:=λa u e=>by
  have i:=b9 e f;have o:=b9 e hd;rw[m a i o,a8 i];exact e
 have l:=Lat.pushed (μ:=μ) f k;refine⟨l,b.pushed f k ⟨M,gs,r l,none,.inr ⟨d,h,λz=>?_,n,j⟩⟩,.ref ?_⟩
 ·rcases JY.mp (z)with z | z
  ·exact b.notin hd z
  ·grind
 ·show(μ.pl++[x])[S.length]?=some x;rw[<- b.len];simp
theorem oX{k:Nat}{f:Addr}{fd:FuncData}{ps:List Str}{E:XK}{CX:CXT}{nm g:Str}{p:Pos}{c:Nat}(M:XC X.K (cl c))(na:z9 X.K (cl c) g)(hi:PySem.W.findIn X.K (.ref (cl c)) "__init__" = some (some (.ref f))) (hf:PySem.W.isFn X.K (.ref f)=true) (F:FnOk X.prog X.w X.K X.mg X.base CX k f fd ps (Hn.sp1 X.K g)) (hr:Room CX.q (k+1) X.A) (hg:Gl X nm) (hm:X.mg nm=some (.ref (cl c))) (hb:Binds X.K fd ps []) (hx:B9 CX X E)
  (ha:PA X (e::es) (tDs X.K cl xe fs)) (hdb:(nm==("__debug__" : Str))=false) (hs:(e::es).all noStar=true):PE X (.Call (.Name nm p) (e::es) [] pos) (tDf X.K cl xe λρ=>bind (fs ρ) (D5 c [g])):=by
 rw[Kt,Jp]at hs;refine PE.imp (bJ M hi hf F hr hg hm hb hx ha hdb (g6 hs.1) (k7 hs.2)) λσ H Q ⟨μ,S,ρ,eo,rp,P⟩=>?_;refine⟨μ,S,ρ,eo,rp,P.bind.imp λds S1 μ1 H1 l1 r1 p1 vs rvs=>?_⟩;unfold D5 at p1;by_cases hc:ds.length=[g].length/\ds.all (w5 S1)=true
 ·rw[if_pos hc]at p1
  match ds,hc,rvs,p1 with
  | [d],hc,rvs,p1=>
   obtain⟨v,rfl,rv⟩:=pj rvs;obtain⟨q,ft⟩:=jH r1 rv (by simpa using hc.2);refine⟨by show 1<=1000;decide,λx hx=>⟨x,v,cl c,q,rfl,M,na,b8,ft.laid hx,λH' got=>⟨rfl,?_⟩⟩⟩;obtain⟨l2,r2,rd2⟩:=jp (c:=c) (ds:=[(g,d)]) r1 hx M got λl=>.cons ⟨rfl,rv.later l⟩ .nil;obtain⟨d0,_,_,g1,_⟩:=id got;exact p1 _ _ l2 r2 _ rd2 ⟨x,cl c,_,rfl,M,g1⟩
  | [],hc,_,_=>exact absurd hc.1 (by simp)
  | _::_::_,hc,_,_=>exact absurd hc.1 (by simp)
 ·rw[if_neg hc]at p1;exact p1.elim
theorem pE{k:Nat}{f:Addr}{fd:FuncData}{ps:List Str}{E:XK}{CX:CXT}{nm g g2:Str}{p:Pos}{c:Nat}(M:XC X.K (cl c))(na:z9 X.K (cl c) g)(nb:z9 X.K (cl c) g2)(hi:PySem.W.findIn X.K (.ref (cl c)) "__init__" = some (some (.ref f))) (hf:PySem.W.isFn X.K (.ref f)=true) (F:FnOk X.prog X.w X.K X.mg X.base CX k f fd ps (Hn.sp2 X.K g g2)) (hr:Room CX.q (k+1) X.A) (hg:Gl X nm) (hm:X.mg nm=some (.ref (cl c))) (hb:Binds X.K fd ps []) (hx:B9 CX X E)
  (ha:PA X (e::es) (tDs X.K cl xe fs)) (hdb:(nm==("__debug__" : Str))=false) (hs:(e::es).all noStar=true):PE X (.Call (.Name nm p) (e::es) [] pos) (tDf X.K cl xe λρ=>bind (fs ρ) (D5 c [g,g2])):=by
 rw[Kt,Jp]at hs;refine PE.imp (bJ M hi hf F hr hg hm hb hx ha hdb (g6 hs.1) (k7 hs.2)) λσ H Q ⟨μ,S,ρ,eo,rp,P⟩=>?_;refine⟨μ,S,ρ,eo,rp,P.bind.imp λds S1 μ1 H1 l1 r1 p1 vs rvs=>?_⟩;unfold D5 at p1;by_cases hc:ds.length=[g,g2].length/\ds.all (w5 S1)=true
 ·rw[if_pos hc]at p1
  match ds,hc,rvs,p1 with
  | [d,d2],hc,rvs,p1=>
   cases rvs with
   | cons rv t=>
    obtain⟨v2,rfl,rv2⟩:=pj t;rename_i v;have hc2:w5 S1 d=true/\w5 S1 d2=true:=by simpa using hc.2
    obtain⟨q,ft⟩:=jH r1 rv hc2.1;obtain⟨q2,ft2⟩:=jH r1 rv2 hc2.2;refine⟨by show 2<=1000;decide,λx hx=>⟨x,v,v2,cl c,q,q2,rfl,M,na,nb,b8,ft.laid hx,ft2.laid hx,λH' got=>⟨rfl,?_⟩⟩⟩;obtain⟨l2,r2,rd2⟩:=jp (c:=c) (ds:=[(g,d),(g2,d2)]) r1 hx M got λl=>.cons ⟨rfl,rv.later l⟩ (.cons ⟨rfl,rv2.later l⟩ .nil);obtain⟨d0,_,_,g1,_⟩:=id got;exact p1 _ _ l2 r2 _ rd2 ⟨x,cl c,_,rfl,M,g1⟩
  | [],hc,_,_=>exact absurd hc.1 (by simp)
  | [_],hc,_,_=>exact absurd hc.1 (by simp)
  | _::_::_::_,hc,_,_=>exact absurd hc.1 (by simp)
 ·rw[if_neg hc]at p1;exact p1.elim
theorem oQ{f:Addr}{fd:FuncData}{ps:List Str}{E:XK}{CX:CXT}{j:Str}{p:Pos}{c:Nat}(M:XC X.K (cl c))(B:PySem.W.findIn X.K (.ref (cl c)) "__init__" = some (some (.ref f))) (A:PySem.W.isFn X.K (.ref f)=true) (F:FnOk X.prog X.w X.K X.mg X.base CX k f fd ps (Hn.spHE X.K)) (y:Room CX.q (k+1) X.A) (w:Gl X j) (s:X.mg j=some (.ref (cl c))) (t:Binds X.K fd ps []) (i:B9 CX X E)
  (r:PA X (e::es) (tDs X.K cl xe fs)) (m:(j==("__debug__" : Str))=false) (hs:(e::es).all noStar=true):PE X (.Call (.Name j p) (e::es) [] pos) (tDf X.K cl xe λρ=>bind (fs ρ) (rf c)):=by
 rw[Kt,Jp]at hs;refine PE.imp (bJ M B A F y w s t i r m (g6 hs.1) (k7 hs.2)) λσ H Q ⟨μ,S,ρ,z,q,P⟩=>?_;refine⟨μ,S,ρ,z,q,P.bind.imp λds S1 h o D n b vs g=>?_⟩
 match ds,g,b with
 | [d],g,b=>
  obtain⟨v,rfl,C⟩:=pj g;refine⟨by show 1<=1000;decide,λx i=>⟨x,v,cl c,none,rfl,M,b8,rfl,?_⟩⟩;have k:∀a u,o a=some u->upd o x (O9 x (cl c) none) a=some u:=λa u e=>by rw[a8 (b9 e i)];exact e
  have l:=Lat.pushed (μ:=h) i k;refine b _ _ l (n.pushed i k ⟨M,[],.nil,none,.inl ⟨rfl,b8⟩⟩) _ (.ref ?_) ⟨x,cl c,_,rfl,M,b8⟩;show(h.pl++[x])[S1.length]?=some x;rw[<- n.len];simp
 | [],_,b=>exact b.elim
 | _::_::_,_,b=>exact b.elim
end
def tys:List String:=["NoneType","bool","int","str","tuple","list","dict"]
def subT(t T:String):Bool:=t==T||(t == "bool" && T == "int")
theorem wp(K:PySem.W.Frag):∀t∈tys,∀T∈tys,PySem.W.kitOne K (.type t) (.type T)=some (subT t T):=by
 intro t a T b;simp only[tys,JH,LF,NP]at a b;rcases a with rfl | rfl | rfl | rfl | rfl | rfl | rfl <;> rcases b with rfl | rfl | rfl | rfl | rfl | rfl | rfl <;> kernel_rfl
def tyD(S:Sto)(d:D):Option String:=match d with
 | .non=>some "NoneType"
 | .bl _=>some "bool"
 | .int _=>some "int"
 | .str _=>some "str"
 | .tup _=>some "tuple"
 | .lst _=>some "list"
 | .scr _=>some "list"
 | .ref n=>match S[n]? with
  | some (.lst _)=>some "list"
  | some (.dct _)=>some "dict"
  | _=>none
def P5(T:String)(sx:Nat->Bool)(d:D):M D:=λS=>match tyD S d with
 | some t=>.ok (.bl (subT t T)) S
 | none=>match d with
  | .ref n=>match S[n]? with
   | some (.exc c _)=>.ok (.bl (sx c)) S
   | _=>.bad
  | _=>.bad
def ln(sx:Nat->Bool)(d:D):M D:=λS=>match d with
 | .ref n=>match S[n]? with
  | some (.exc c _)=>.ok (.bl (sx c)) S
  | _=>.bad
 | _=>.bad
section
variable {X:Cx}{cl:ClW}{xe:Addr->Hp->Prop}{a:Expr}{pos p q:Pos}{f:Env->M D}
theorem vY{sx:Nat->Bool}(j:EV T=some c0)(g:∀c,XC X.K (cl c)->PySem.W.kitOne X.K (.ref (cl c)) c0=some (sx c)){π:List (Addr×Obj)}{s:Shared}{σ:L2.St}{H:Hp}{us:List Value}{Q:VK}{μ:Mp}{S:Sto}{n:Nat}{b:Addr}{c:Nat}{fs:List (Str×D)}(I:L2.Inv X π σ H s)(r:Vals [.ref b,T] us)
  (l:Rep X.K cl μ S H) (e:S[n]?=some (.exc c fs)) (h:μ.pl[n]?=some b) (q:Q (.bl (sx c)) H):wpAny (model X.prog X.w) X.A (call (.builtin "isinstance") us) (EP X π σ Q) X.xe s:=by
 obtain⟨a,gs,p,i,k⟩:=l.ats n _ b e h;rcases k with ⟨z,f⟩ | ⟨d,o,t,f,m⟩
 ·exact cb π s σ H _ us Q I r ⟨i,b,cl c,none,T,c0,sx c,rfl,a,f,λ_ z=>(nomatch z),j,g c a,q⟩
 ·exact cb π s σ H _ us Q I r ⟨i,b,cl c,some d,T,c0,sx c,rfl,a,f,λd' z=>by ext z;exact⟨gs,m⟩,j,g c a,q⟩
theorem mf(hT:T∈tys){π:List (Addr×Obj)}{s:Shared}{σ:L2.St}{H:Hp}{us:List Value}{Q:VK}{μ:Mp}{S:Sto}{d:D}{v:V}{t:String}(I:L2.Inv X π σ H s)(r:Vals [v,.ty T] us)(rd:RD X.K μ H d v)(rp:Rep X.K cl μ S H)(e:tyD S d=some t)
  (q:Q (.bl (subT t T)) H):wpAny (model X.prog X.w) X.A (call (.builtin "isinstance") us) (EP X π σ Q) X.xe s:=by
 obtain⟨u,u2,rfl,ru,ru2⟩:=kY r;cases (ru2);have ht:t∈tys:=by
  ext d <;> simp only[tyD]at e <;> first
   | (ext e;decide)
   | (split at e <;> first | (ext e;decide) | ext e)
 have hk:=wp X.K t ht T hT;have fin:∀tk,EP X π σ Q (.bool (subT t T)) { s with toks:=tk }:=λtk=>⟨.bl _,H,I.tok _,rfl,q⟩;have tupT:∀{b:Addr}{xs:List V},SqT X.K H b xs->u=.ref b->t = "tuple"->wpAny (model X.prog X.w) X.A (call (.builtin "isinstance") [u,.type T]) (EP X π σ Q) X.xe s:=λ{b xs} h eu et=>by
  subst eu et;obtain⟨its,_,⟨o,h1,h2,_⟩,_⟩:=I.tuple h;exact KU PySem.W.kitx_tuple I.kIn ⟨o,h1,h2⟩ hk (λz=>nomatch z) fin
 have lstT:∀{b:Addr}{xs:List V},SqL X.K H b xs->u=.ref b->t = "list"->wpAny (model X.prog X.w) X.A (call (.builtin "isinstance") [u,.type T]) (EP X π σ Q) X.xe s:=λ{b xs} h eu et=>by
  subst eu et;obtain⟨its,_,⟨o,n,h1,h2,_⟩,_⟩:=I.list h;exact KU PySem.W.kitx_list I.kIn ⟨o,h1,h2⟩ hk (λz=>nomatch z) fin
 cases rd with
 | non=>cases (ru);ext e;exact KU PySem.W.kitx_none I.kIn True.intro hk (λz=>nomatch z) fin
 | bl b=>cases (ru);ext e;exact KU PySem.W.kitx_bool I.kIn True.intro hk (λz=>nomatch z) fin
 | int i=>obtain⟨tk,q⟩:=(ru);ext q;ext e;exact KU PySem.W.kitx_int I.kIn True.intro hk (λz=>nomatch z) fin
 | str x=>obtain⟨tk,q⟩:=(ru);ext q;ext e;exact KU PySem.W.kitx_str I.kIn True.intro hk (λz=>nomatch z) fin
 | tup h r=>ext e;exact tupT h.sq ru rfl
 | lst h r=>ext e;exact lstT h.sq ru rfl
 | scr h r=>ext e;exact lstT h.sq ru rfl
 | ref h=>
  rename_i n b;simp only[tyD]at e;cases q1:S[n]? with
  | none=>rw[q1]at e;ext e
  | some o=>
   rw[q1]at e;cases o with
   | lst ds=>
    ext e;obtain⟨xs,h1,h2⟩:=rp.ats n _ b q1 h;exact lstT (.inl (.inl h1)) ru rfl
   | dct kvs=>
    ext e;obtain⟨ks,h1,h2⟩:=rp.ats n _ b q1 h;cases (ru);obtain⟨_,_,vs,_,pp⟩:=(I.hok b _ h1);obtain⟨o,es,ep,g1,g2,_⟩:=pp;exact KU PySem.W.kitx_dict I.kIn ⟨o,g1,g2.1⟩ hk (λz=>nomatch z) fin
   | exc _ _=>ext e
   | dcT _=>ext e
theorem jY{T:String}{sx:Nat->Bool}(hT:T∈tys\/T = "ValueError") (hk:∀c,XC X.K (cl c)->PySem.W.kitOne X.K (.ref (cl c)) (.type T)=some (sx c)) (h:PE X a (tD X.K cl xe f)) (hg:Gl X "isinstance") (hm:X.mg "isinstance" = none) (hg2:Gl X x) (hm2:X.mg x=none) (hv:bootBuiltins x=some (.type T)) (hn:x ≠ "__name__") (hd:(x==("__debug__" : Str))=false) (hs:noStar a=true) :
  PE X (.Call (.Name "isinstance" p) [a,.Name x q] [] pos) (tD X.K cl xe λρ=>bind (f ρ) λd=>if T∈tys then P5 T sx d else ln sx d):=by
 have key:k5 X (.builtin "isinstance") (λvs H Q=>∃μ S d v,vs=[v,.ty T]/\RD X.K μ H d v/\Rep X.K cl μ S H/\Post X.K cl xe μ H ((if T∈tys then P5 T sx d else ln sx d) S) λr _ μ' H'=>∀v,RD X.K μ' H' r v->Q v H'):=by
  intro π s σ H xs us Q I r ⟨μ,S,d,v,ev,rd,rp,P⟩;subst ev;have ex:∀{n:Nat} {b:Addr} {c:Nat} {fs:List (Str×D)},v=.ref b->S[n]?=some (.exc c fs)->μ.pl[n]?=some b->Q (.bl (sx c)) H->wpAny (model X.prog X.w) X.A (call (.builtin "isinstance") us) (EP X π σ Q) X.xe s:=λ{n b c fs} ev e h q=>by
   subst ev;exact vY rfl hk I r rp e h q
  by_cases ht:T∈tys
  ·rw[if_pos ht]at P;unfold P5 at P;cases e:tyD S d with
   | some t=>rw[e]at P;exact mf ht I r rd rp e (P μ H (Lat.refl _ _) rp _ (.bl _))
   | none=>
    rw[e]at P;cases rd with
    | ref h=>
     rename_i n b;simp only at P;cases q1:S[n]? with
     | none=>rw[q1]at P;exact P.elim
     | some o=>
      rw[q1]at P;cases o with
      | dcT _=>exact P.elim
      | exc c fs=>exact ex rfl q1 h (P μ H (Lat.refl _ _) rp _ (.bl _))
      | lst _=>exact P.elim
      | dct _=>exact P.elim
    | _=>exact False.elim P
  ·rw[if_neg ht]at P;unfold ln at P;cases rd with
   | ref h=>
    rename_i n b;simp only at P;cases q1:S[n]? with
    | none=>rw[q1]at P;exact P.elim
    | some o=>
     rw[q1]at P;cases o with
     | dcT _=>exact P.elim
     | exc c fs=>exact ex rfl q1 h (P μ H (Lat.refl _ _) rp _ (.bl _))
     | lst _=>exact P.elim
     | dct _=>exact P.elim
   | _=>exact False.elim P
 have hb:PE X (.Name x q) (tC (.ty T)):=xW hg2 hm2 hv rfl hn hd;refine PE.imp (gh key hg hm (by rfl) (y8 h (y8 hb bL (g6 rfl)) (g6 hs)) ⋯ ⋯ (g6 hs) (k7 rfl)) λσ H Q ⟨μ,S,ρ,eo,rp,P⟩=>?_;exact⟨μ,S,ρ,eo,rp,P.bind.imp λd S1 μ1 H1 l1 r1 p1 v rv=>⟨μ1,S1,d,v,rfl,rv,r1,p1⟩⟩
end
theorem ay(a:List Bool):(List.range a.length).map (λi=>a.getD i false)=a:=by
 apply List.ext_getElem
 ·simp
 ·grind
theorem mJ(a:List Bool):(List.range a.length).any (λi=>a.getD i false)=a.any id:=by
 conv=>rhs;rw[<- ay a,NB]
 rfl
theorem ll(a:List Bool):(List.range a.length).all (λi=>a.getD i false)=a.all id:=by
 conv=>rhs;rw[<- ay a,MS]
 rfl
section
variable {X:Cx}
theorem W5{c:List Bool}{d:List Value}(r:Vals (c.map V.bl) d):TruthOf X.prog X.w A (λi v=>d.toArray[i]?=some v) (λi=>c.getD i false):=by
 intro i v s Q E e h;rw[MF]at e;have g:i<c.length:=by
  have a:=r.length;rw[Jr]at a;have b:=(Js.mp e).1;omega
 obtain⟨u,f,j⟩:=Vals.get r (by rw[JU,Jw g];rfl);rw[e]at f;ext f;ext j;have:c.getD i false=c[i]:=by simp[g]
 exact Nf (this▸h)
theorem ee(g:X.calm=true):k5 X (.builtin "any") (λxs H Q=>∃(p:Addr) (a:List Bool),xs=[.ref p]/\SqL X.K H p (a.map V.bl)/\Q (.bl (a.any id)) H):=by
 intro π s σ H xs us Q I r h;obtain⟨p,a,rfl,w,q⟩:=h;obtain⟨u,rfl,l⟩:=X0 r;ext l;obtain⟨c,d,pl,hz⟩:=I.list w;have t:=I.ok.hd g;have m:p<s.heap.objs.size:=by
  obtain⟨o,v,_⟩:=pl.isList;exact Jx v
 have j:c.length=a.length:=by rw[<- d.length,Jr]
 refine call_any_walk (My pl.isList ⟨s.heap.objs.size,[s.heap.objs.size,p],[s.heap.objs.size],c.toArray.size,_,_,λi=>a.getD i false,rfl,Walks.list (A:=X.A.in1) (t) _ _ (JF m) c.toArray,⟨?_,?_⟩,W5 d,λh' x k=>?_⟩)
 ·exact⟨_,JG _ rfl,rfl,rfl⟩
 ·exact pl.isList.push _
 ·have e:(List.range c.toArray.size).any (λi=>a.getD i false)=a.any id:=by
   rw[Jv,j];exact mJ a
  rw[e];refine⟨.bl (a.any id),H,I.kept λb o f=>?_,rfl,q⟩;have n:=Jx f;exact k b o (by simp;exact JF n) (Jq _ f)
theorem gM(g:X.calm=true):k5 X (.builtin "all") (λxs H Q=>∃(p:Addr) (a:List Bool),xs=[.ref p]/\SqL X.K H p (a.map V.bl)/\Q (.bl (a.all id)) H):=by
 intro π s σ H xs us Q I r h;obtain⟨p,a,rfl,w,q⟩:=h;obtain⟨u,rfl,l⟩:=X0 r;ext l;obtain⟨c,d,pl,hz⟩:=I.list w;have t:=I.ok.hd g;have m:p<s.heap.objs.size:=by
  obtain⟨o,v,_⟩:=pl.isList;exact Jx v
 have j:c.length=a.length:=by rw[<- d.length,Jr]
 refine call_all_walk (My pl.isList ⟨s.heap.objs.size,[s.heap.objs.size,p],[s.heap.objs.size],c.toArray.size,_,_,λi=>a.getD i false,rfl,Walks.list (A:=X.A.in1) (t) _ _ (JF m) c.toArray,⟨?_,?_⟩,W5 d,λh' x k=>?_⟩)
 ·exact⟨_,JG _ rfl,rfl,rfl⟩
 ·exact pl.isList.push _
 ·have e:(List.range c.toArray.size).all (λi=>a.getD i false)=a.all id:=by
   rw[Jv,j];exact ll a
  rw[e];refine⟨.bl (a.all id),H,I.kept λb o f=>?_,rfl,q⟩;have n:=Jx f;exact k b o (by simp;exact JF n) (Jq _ f)
variable {cl:ClW}{xe:Addr->Hp->Prop}
def K0:List D->Option (List Bool)
 | []=>some []
 | .bl b::ds=>(K0 ds).map (b::·)
 | _=>none
theorem iV{K:PySem.W.Frag}{μ:Mp}{H:Hp}:∀{ds:List D}{vs:List V}{a:List Bool},K0 ds=some a->RDs K μ H ds vs->vs=a.map V.bl
 | [],_,a,e,r=>by ext r;ext e;rfl
 | d::ds,_,a,e,r=>by
  cases r with
  | cons h t=>
   ext d <;> try (simp[K0]at e;done)
   case bl b=>
    simp only[K0]at e;cases c:K0 ds with
    | none=>rw[c]at e;ext e
    | some f=>
     rw[c]at e;ext e;ext h;rw[iV c t];rfl
def yw(d:D):M D:=bind (lstOf d) λds=>match K0 ds with
 | some a=>ret (.bl (a.any id))
 | none=>bad
def qL(d:D):M D:=bind (lstOf d) λds=>match K0 ds with
 | some a=>ret (.bl (a.all id))
 | none=>bad
theorem HV(c:X.calm=true):k5 X (.builtin "any") (rPs X.K cl xe (one yw)):=ai λπ s σ H μ S d v us Q I r j b p=>by
 obtain⟨a,xs,ds,rfl,f,g,i⟩:=j0 j b p.bind;have p:=p.ok_bind i;cases e:K0 ds with
 | none=>rw[e]at p;exact p.elim
 | some h=>
  rw[e]at p;have:=iV e g;subst this;exact ee c π s σ H _ us Q I r ⟨a,h,rfl,.inl (.inl f),p μ H (Lat.refl _ _) b _ (.bl _)⟩
theorem Fj(c:X.calm=true):k5 X (.builtin "all") (rPs X.K cl xe (one qL)):=ai λπ s σ H μ S d v us Q I r j b p=>by
 obtain⟨a,xs,ds,rfl,f,g,i⟩:=j0 j b p.bind;have p:=p.ok_bind i;cases e:K0 ds with
 | none=>rw[e]at p;exact p.elim
 | some h=>
  rw[e]at p;have:=iV e g;subst this;exact gM c π s σ H _ us Q I r ⟨a,h,rfl,.inl (.inl f),p μ H (Lat.refl _ _) b _ (.bl _)⟩
def w9:List D->Option (List Int)
 | []=>some []
 | .int i::ds=>(w9 ds).map (i::·)
 | _=>none
theorem dq{K:PySem.W.Frag}{μ:Mp}{H:Hp}:∀{ds:List D}{vs:List V}{ns:List Int},w9 ds=some ns->RDs K μ H ds vs->vs=ns.map V.int
 | [],_,ns,e,r=>by ext r;ext e;rfl
 | d::ds,_,ns,e,r=>by
  cases r with
  | cons h t=>
   ext d <;> try (simp[w9]at e;done)
   case int i=>
    simp only[w9]at e;cases a:w9 ds with
    | none=>rw[a]at e;ext e
    | some b=>
     rw[a]at e;ext e;ext h;rw[dq a t];rfl
def az:List Int->Option Int
 | []=>none
 | n::ns=>some (match az ns with
  | none=>n
  | some m=>if n<m then m else n)
theorem xP:∀{ns:List Int}{M:Int},M∈ns->(∀a∈ns,a<=M)->az ns=some M
 | [],_,h,_=>by ext h
 | [n],M,h,_=>by simp at h;subst h;rfl
 | n::k::ns,M,h,q=>by
  obtain⟨t,e⟩:∃t,az (k::ns)=some t:=⟨_,rfl⟩;have he:az (n::k::ns)=some (if n<t then t else n):=by rw[az,e]
  rw[he];have top:∀{l:List Int}{t:Int},az l=some t->t∈l/\∀a∈l,a<=t:=by
   intro l;induction l with
   | nil=>intro t e;ext e
   | cons x l ih=>
    intro t e;cases h2:az l with
    | none=>
     cases l with
     | nil=>simp only[az]at e;ext e;exact⟨Jy ..,λa ha=>by simp at ha;omega⟩
     | cons y l=>simp[az]at h2
    | some m=>
     obtain⟨m1,m2⟩:=ih h2;simp only[az,h2]at e;ext e;by_cases hx:x<m
     ·rw[if_pos hx];exact⟨JE _ m1,λa ha=>by
       rcases JH.mp ha with z | z
       ·omega
       ·exact m2 a z⟩
     ·rw[if_neg hx];exact⟨Jy ..,λa ha=>by
       rcases JH.mp ha with z | z
       ·omega
       ·have:=m2 a z;omega⟩
  obtain⟨t1,t2⟩:=top e;congr 1;by_cases hx:n<t
  ·rw[if_pos hx];have a1:=q t (JE _ t1);rcases JH.mp h with z | z
   ·omega
   ·have:=t2 M z;omega
  ·rw[if_neg hx];have a1:=q n (Jy ..);rcases JH.mp h with z | z
   ·omega
   ·have:=t2 M z;omega
theorem D1:∀{ns:List Int}{us:List Value},Vals (ns.map V.int) us->∃xs:List (Int×Tok),us=xs.map (λp=>Value.int p.1 p.2)/\xs.map (·.1)=ns
 | [],_,r=>by ext r;exact⟨[],rfl,rfl⟩
 | n::ns,_,r=>by
  cases r with
  | cons h t=>
   obtain⟨k,rfl⟩:=(h);obtain⟨xs,a,b⟩:=D1 t;exact⟨(n,k)::xs,by rw[a];rfl,by rw[JI,b]⟩
def pY(d:D):M D:=match d with
 | .int i=>ret (.int (-i))
 | _=>bad
theorem sv:UnR X (unaryOp .USub) (λx H Q=>∃μ S d,RD X.K μ H d x/\Rep X.K cl μ S H/\Post X.K cl xe μ H (pY d S) λr _ μ' H'=>∀v,RD X.K μ' H' r v->Q v H'):=by
 intro π s σ H x v Q I rx ⟨μ,S,d,rd,rp,p⟩;cases rd with
 | int i=>exact AQ π s σ H _ v Q I rx ⟨i,rfl,p μ H (Lat.refl _ _) rp _ (.int _)⟩
 | _=>exact False.elim p
theorem DS(h:PE X a (tD X.K cl xe f)):PE X (.UnaryOp .USub a pos) (tD X.K cl xe λρ=>bind (f ρ) pY):=
 PE.imp (GX sv h) λσ H Q ⟨μ,S,ρ,c,e,p⟩=>⟨μ,S,ρ,c,e,p.bind.imp λd S1 b k l i g v j=>⟨b,S1,d,j,i,g⟩⟩
end
theorem aw:∀{xs:List V}{us:List Value},Vals xs us->Vals xs.reverse us.reverse
 | _,_,.nil=>.nil
 | _,_,.cons r t=>by
  rw[MB,MB];exact(aw t).append (.cons r .nil)
theorem dY{K:PySem.W.Frag}{μ:Mp}{H:Hp}:∀{ds:List D}{vs:List V},RDs K μ H ds vs->RDs K μ H ds.reverse vs.reverse
 | _,_,.nil=>.nil
 | _,_,.cons r t=>by
  rw[MB,MB];exact(dY t).append (.cons r .nil)
theorem fm_congr{a c:Type}{f g:a->Option c}:∀{l:List a},(∀x∈l,f x=g x)->l.filterMap f=l.filterMap g
 | [],_=>rfl
 | x::l,h=>by
  rw[Ly,Ly,h x (Jy ..),fm_congr λy b=>h y (JE _ b)]
theorem oK(a:List Value):slicePick a.toArray none none (some (-1))=a.reverse.toArray:=by
 have f:sliceBounds none none (some (-1)) a.toArray.size=((a.length:Int)-1,-1,-1):=by
  simp[sliceBounds]
 unfold slicePick;rw[f];have g:sliceRange ((a.length:Int)-1) (-1) (-1)=(List.range a.length).map λk=>a.length-1-k:=by
  have e:(if (-1:Int) > 0 then (if (a.length:Int)-1 < -1 then (-1-((a.length:Int)-1) + -1-1) / -1 else 0)else (if (a.length:Int)-1 > -1 then ((a.length:Int)-1 - -1 - -1-1) / (- -1)else 0)).toNat=a.length:=by
   rw[if_neg ⋯];by_cases h:(a.length:Int)-1 > -1
   ·rw[if_pos h];simp
   ·rw[if_neg h];omega
  show(List.range (if (-1:Int) > 0 then (if (a.length:Int)-1 < -1 then (-1-((a.length:Int)-1) + -1-1) / -1 else 0)else (if (a.length:Int)-1 > -1 then ((a.length:Int)-1 - -1 - -1-1) / (- -1)else 0)).toNat).map (λ(k:Nat)=>((a.length:Int)-1 + -1 * (k:Int)).toNat)=_;rw[e];apply List.map_congr_left;intro k b;omega
 simp only[g];congr 1;rw[Mo];have c:(List.range a.length).filterMap ((λx=>a.toArray[x]?) ∘ λk=>a.length-1-k)=(List.range a.length).filterMap (λk=>a.reverse.toArray[0+k]?):=by
  apply fm_congr;intro k b;have b:=KE.mp b;simp;rw[List.getElem?_reverse b]
 rw[c];have:=pick_run a.reverse.toArray 0 a.length;rw[Mo]at this;have d:((λx=>a.reverse.toArray[x]?) ∘ λx=>0+x)=λm=>a.reverse.toArray[0+m]?:=rfl;rw[d]at this;rw[this];simp;rw[Le (by simp)]
end L3
namespace HT
open PySem PySem.Spec PyProof.Rows
section
variable {prog:Program}{w:World}{A:Around}{E:Value->Shared->Prop}{s:Shared}
theorem T3{n:Nat}{Q:Int×Int×Nat->Shared->Prop}(hs:s.heap.IsSliceOf sl .none .none (.int (-1) t))
  (h:Q ((n:Int)-1,-1,n) s):wpAny (model prog w) A (Builtin.Slice.sliceApplied (.ref sl) (pure (n:Int))) Q E s:=by
 obtain⟨d,a,c,hds⟩:=id hs;refine Jn (Jn (KA a hds rfl (Jn (KA a hds rfl (Jn (KA a hds rfl (Jo ?_)))))));refine Jn (slicePart_int ?_);rw[if_neg ⋯];refine Jn (MV (Jn (MV (Jn (Jo ?_)))));show wpAny _ _ (pure ((n:Int)-1,(-1:Int),Builtin.Slice.slicePlaces ((n:Int)-1) (-1) (-1))) _ _ s;have e:Builtin.Slice.slicePlaces ((n:Int)-1) (-1) (-1)=n:=by
  unfold Builtin.Slice.slicePlaces;rw[if_neg ⋯];by_cases b:(n:Int)-1 > -1
  ·rw[if_pos b];simp
  ·rw[if_neg b];omega
 rw[e];exact Jo h
theorem mx(xs:List Value):((List.range xs.length).filterMap λ(m:Nat)=>xs.toArray[((xs.length:Int)-1+(m:Int) * -1).toNat]?).toArray=xs.reverse.toArray:=by
 congr 1;have c:(List.range xs.length).filterMap (λ(m:Nat)=>xs.toArray[((xs.length:Int)-1+(m:Int) * -1).toNat]?)=(List.range xs.length).filterMap (λk=>xs.reverse.toArray[0+k]?):=by
  apply L3.fm_congr;intro k a;have a:=KE.mp a;have e:((xs.length:Int)-1+(k:Int) * -1).toNat=xs.length-1-k:=by omega
  rw[e];simp;rw[List.getElem?_reverse a]
 rw[c];have:=pick_run xs.reverse.toArray 0 xs.length;rw[Mo]at this;have b:((λx=>xs.reverse.toArray[x]?) ∘ λx=>0+x)=λm=>xs.reverse.toArray[0+m]?:=rfl;rw[b]at this;rw[this];simp;rw[Le (by simp)]
theorem getItem_tuple_rev{a:List Value}{i:Tok}{Q:Value->Shared->Prop}(c:IsTup s.heap t a.toArray)(hs:s.heap.IsSliceOf sl .none .none (.int (-1) i))
  (h:Q (.ref s.heap.objs.size) { s with heap:=s.heap.push { cls:=.type "tuple",data:=.seq a.reverse.toArray } })
  (hsz:a.length<=sizeLine):wpAny (model prog w) A (getItem (.ref t) (.ref sl)) Q E s:=by
 have b:sizeOk (.seq a.reverse.toArray):=by
  show a.reverse.toArray.size<=sizeLine;rw[Jv,Mf];exact hsz
 obtain⟨j,g,d,hds⟩:=id hs;have e:s.TypeIs (.ref sl) "slice":=⟨j,g,d⟩;unfold getItem;try with_reducible refine Kf ?_
 first | refine Jn (Jo ?_) | skip
 refine Jn (Ng c.typeIs ⋯ ?_);refine Jn (Kw c.typeIs Km
  (KJ Km c.typeIs MQ ?_ (MW _ _)))
 show wpAny _ _ (Builtin.Tuple.tupleItemsOf (.ref t) >>= _) _ _ s;refine Jn (Nk c ?_);refine Jn (MR e ?_);rw[if_pos ⋯];refine Jn (T3 (n:=a.length) hs ?_);have f:¬ ((((a.length:Int)-1)==0&&(-1:Int)==1&&a.length==a.toArray.size)=true):=by
  intro q;rw[Jp,Jp]at q;exact absurd q.1.2 ⋯
 show wpAny _ _ (if (((a.length:Int)-1)==0&&(-1:Int)==1&&a.length==a.toArray.size)=true then _ else _) _ _ s;rw[if_neg f,mx];first
  | exact Jn (JT (Jo ⟨_,rfl,Jo h⟩) b)
  | exact Jn (JT (Jn (Jo (Jo ⟨_,rfl,Jo h⟩))) b)
  | exact Jn (Jn (JT (Jo (Jo ⟨_,rfl,Jo h⟩)) b))
  | exact Jn (Jn (JT (Jo ⟨_,rfl,Jo h⟩) b))
end
end HT
namespace L3
open PySem PySem.Spec PyProof.Rows L2
section
variable {X:Cx}{e st:Expr}{te ts:TE}{pos p2:Pos}{cl:ClW}{xe:Addr->Hp->Prop}
def Dw(K:PySem.W.Frag)(te d:TE):TE:=λσ H Q=>te σ H λx c=>d σ c λy b=>y=.int (-1)/\∃a xs,x=.ref a/\((SqL K b a xs/\∀p,b p=none->Q (.ref p) (upd b p (.lst xs.reverse)))\/(SqT K b a xs/\∀p,b p=none->Q (.ref p) (upd b p (.tup xs.reverse))))
theorem vk(p:PE X e te)(hs:PE X st ts):PE X (.Subscript e (.Slice none none (some st) p2) pos) (Dw X.K te ts):=by
 intro π s σ H Q I h;refine Subscript_ (thn (p π s σ H _ I h) λv l ⟨x,z,w,A,C⟩=>?_);refine wpAny_Slice ?_;rw[NS];refine Jo (Jo ?_);rw[evalPart_some];refine thn (hs π l σ z _ w C) λu d ⟨y,B,n,m,o,a,xs,D,i⟩=>?_;subst o D;obtain⟨t,rfl⟩:=m;ext A;have f:Inv X π σ B { d with heap:=d.heap.push { cls:=.type "slice",data:=.fields #[.none,.none,.int (-1) t] } }:=n.kept λb ob q=>Jq _ q;rcases i with ⟨i,q⟩ | ⟨i,q⟩
 ·obtain⟨j,r,g,hz⟩:=f.list i;have c:=r.length;have k:wpAny (model X.prog X.w) X.A (getItem (.ref a) (.ref d.heap.objs.size)) (EP X π σ Q) X.xe { d with heap:=d.heap.push { cls:=.type "slice",data:=.fields #[.none,.none,.int (-1) t] } }:=by
   refine Nl g.isList (MX ..) .none .none (.int (-1) t) (by simp) ?_ (by rw[Jv] <;> omega);rw[oK];refine⟨.ref _,_,f.laid (λb ob q=>Jq _ q) (Ju _) ?_,rfl,q _ (f.hok.fresh (Ju _))⟩;exact⟨by rw[Mf];exact hz,_,0,aw r,JG _ rfl⟩
  exact tail_any g.isList.typeIs slot_list_getitem.lookup k (by with_unfolding_all rfl)
 ·obtain⟨j,r,g,hz⟩:=f.tuple i;have c:=r.length;have k:wpAny (model X.prog X.w) X.A (getItem (.ref a) (.ref d.heap.objs.size)) (EP X π σ Q) X.xe { d with heap:=d.heap.push { cls:=.type "slice",data:=.fields #[.none,.none,.int (-1) t] } }:=by
   refine HT.getItem_tuple_rev g (MX ..) ?_ (by rw[<- c];exact hz);refine⟨.ref _,_,f.laid (λb ob q=>Jq _ q) (Ju _) ?_,rfl,q _ (f.hok.fresh (Ju _))⟩;exact⟨by rw[Mf];exact hz,_,aw r,TupN.new _ _⟩
  exact tail_any g.typeIs PyProof.Rows.slot_tuple_getitem.lookup k (by with_unfolding_all rfl)
def qB(d s:D):M D:=match s with
 | .int (-1)=>(match d with
  | .tup ds=>ret (.tup ds.reverse)
  | d=>bind (lstOf d) λds=>ret (.lst ds.reverse))
 | _=>bad
theorem Bs(he:PE X e (tD X.K cl xe f))(hs:PE X st (tD X.K cl xe g)):PE X (.Subscript e (.Slice none none (some st) p2) pos) (tD X.K cl xe λρ=>bind (f ρ) λx=>bind (g ρ) λy=>qB x y):=
 PE.imp (vk he hs) λσ H Q ⟨μ,S,ρ,eo,rp,p⟩=>⟨μ,S,ρ,eo,rp,p.bind.imp λx S1 μ1 H1 l1 r1 p1 v rv=>⟨μ1,S1,ρ,eo.later l1,r1,p1.bind.imp λy S2 μ2 H2 l2 r2 p2 u ru=>by
  unfold qB at p2;split at p2
  ·ext ru;refine⟨rfl,?_⟩;have L:Post X.K cl xe μ2 H2 (bind (lstOf x) (λds=>ret (.lst ds.reverse)) S2) (λd _ μ' H'=>∀v,RD X.K μ' H' d v->Q v H')->∃a xs,v=.ref a/\((SqL X.K H2 a xs/\∀p,H2 p=none->Q (.ref p) (upd H2 p (.lst xs.reverse)))\/(SqT X.K H2 a xs/\∀p,H2 p=none->Q (.ref p) (upd H2 p (.tup xs.reverse)))):=λp2=>by
    obtain⟨a,xs,ds,rfl,h1,h2,e2⟩:=j0 (rv.later l2) r2 p2.bind;refine⟨a,xs,rfl,.inl ⟨.inl (.inl h1),λz hz=>?_⟩⟩;obtain⟨l,rp2,rd2⟩:=L8 r2 (dY h2) hz;exact(p2.ok_bind e2) μ2 _ l rp2 _ rd2
   cases rv.later l2 with
   | tup h1 h2=>
    rename_i a xs ds;refine⟨a,xs,rfl,.inr ⟨h1.sq,λz hz=>?_⟩⟩;obtain⟨l,rp2,rd2⟩:=D9 r2 (dY h2) hz;exact p2 μ2 _ l rp2 _ rd2
   | _=>exact L p2
  ·exact p2.elim⟩⟩
end
section
variable {X:Cx}{cl:ClW}{xe:Addr->Hp->Prop}{o e:Expr}{es:List Expr}{f:Env->M D}{fs:Env->M (List D)}{apos cpos:Pos}
def tupOf(x:D):M (List D):=match x with
 | .tup ds=>ret ds
 | _=>bad
end
section
variable {X:Cx}{cl:ClW}{xe:Addr->Hp->Prop}{o e:Expr}{es:List Expr}{f:Env->M D}{fs:Env->M (List D)}{apos cpos:Pos}{name:Str}{T T2 id id2:String}{r r2:V->List V->Hp->VK->Prop}{α:Type}
def Looks(K:PySem.W.Frag)(cl:ClW)(xe:Addr->Hp->Prop)(T:String)(g:D->M α):Prop:=∀(μ:Mp)(S:Sto)(H:Hp)(x:D)(v:V)(G:α->Sto->Mp->Hp->Prop),RD K μ H x v->Rep K cl μ S H->Post K cl xe μ H (g x S) G->tyV K T v H/\∃a,g x S=.ok a S
def Ac(K:PySem.W.Frag)(cl:ClW)(xe:Addr->Hp->Prop)(r:V->List V->Hp->VK->Prop)(op:D->List D->M D):Prop:=∀(μ:Mp)(S:Sto)(H:Hp)(x:D)(v:V)(ds:List D)(vs:List V)(Q:VK),RD K μ H x v->RDs K μ H ds vs->Rep K cl μ S H->Post K cl xe μ H (op x ds S) (λd _ μ' H'=>∀w,RD K μ' H' d w->Q w H')->r v vs H Q
theorem ko(B:PlainAttrs T)(c:Slot T name id)(i:typeOf (.builtin id)=pure (.type "method_descriptor")) (s:MtR X id r) (t:Looks X.K cl xe T g) (hd:Ac X.K cl xe r op) (F:PE X o (tD X.K cl xe f)) (v:PA X (e::es) (tDs X.K cl xe fs))
  (G:v8 o=true) (hs:(e::es).all noStar=true) (C:E1 (e::es)=true) (E:(apos.endLine==cpos.line)=true) :
  PE X (.Call (.Attribute o name apos) (e::es) [] cpos) (tD X.K cl xe λρ=>bind (f ρ) λx=>bind (g x) λ_=>bind (fs ρ) λds=>op x ds):=by
 have b:=hs;rw[Kt,Jp]at b;refine PE.imp (zc B c i s F v (D7 G) (iq hs C) E (g6 b.1) (k7 b.2)) λσ H Q ⟨μ,S,ρ,l,w,p⟩=>?_;refine⟨μ,S,ρ,l,w,p.bind.imp λx S1 d J u m h n k=>?_⟩;obtain⟨I,a,D⟩:=t d S1 J x n _ k m h.bind;have h:=h.ok_bind D;exact⟨I,d,S1,ρ,l.later u,m,h.bind.imp λds S2 μ2 A q y z vs j=>hd μ2 S2 A x n ds vs Q (k.later q) j y z⟩
theorem aa:Looks X.K cl xe "list" lstOf:=λμ S H x v G b c p=>by
 obtain⟨a,xs,ds,rfl,d,f,e⟩:=j0 b c p;exact⟨.inl ⟨rfl,_,.inl (.inl d)⟩,ds,e⟩
end
section
variable {X:Cx}{cl:ClW}{xe:Addr->Hp->Prop}{o e:Expr}{es:List Expr}{f:Env->M D}{p p2 pos pos2:Pos}{te:TE}
def rgL(n:Nat):List Int:=(List.range n).map λ(k:Nat)=>(k:Int)
theorem xS{n:Nat}(a:acc.length=n)(h:∀(i:Nat)(v:Value),acc[i]?=some v->∃t,v=Value.int (i:Int) t):Vals ((rgL n).map V.int) acc:=by
 have d:∀(k:Nat)(l:List Value)(b:Nat),l.length=k->(∀(i:Nat)(v:Value),l[i]?=some v->∃t,v=Value.int ((b+i:Nat):Int) t)->Vals ((List.range' b k).map λ(j:Nat)=>V.int (j:Int)) l:=by
  intro k;induction k with
  | zero=>intro l b a _;cases l with
   | nil=>exact .nil
   | cons _ _=>simp at a
  | succ k f=>
   intro l b a c;cases l with
   | nil=>simp at a
   | cons v l=>
    rw[List.range'_succ,JI];refine .cons ?_ (f l (b+1) (by simpa using a) λi w g=>?_)
    ·obtain⟨t,e⟩:=c 0 v rfl;exact⟨t,by rw[e];simp⟩
    ·obtain⟨t,e⟩:=c (i+1) w (by simpa using g);exact⟨t,by rw[e];congr 2;omega⟩
 have:=d n acc 0 a λi v c=>by
  obtain⟨t,e⟩:=h i v c;exact⟨t,by rw[e];simp⟩
 unfold rgL;rw[Lf,List.range_eq_range'];exact this
def wE(te:TE):TE:=λσ H Q=>te σ H λx a=>∃n:Nat,x=.int (n:Int)/\n<100000/\∀q,a q=none->Q (.ref q) (upd a q (.lst ((rgL n).map V.int)))
theorem lm(A:X.calm=true)(C:Gl X "list") (w:X.mg "list" = none) (o:Gl X "range") (l:X.mg "range" = none) (y:PE X e te) (j:noStar e=true):PE X (.Call (.Name "list" p) [.Call (.Name "range" p2) [e] [] pos2] [] pos) (wE te):=by
 intro π s σ H Q I h;have k:=I.ok.hd A;refine Kr (C5 I C w (by rfl) ?_ ⋯ ⋯);refine Ku ?_ rfl rfl;refine Ll ?_;refine Kr (C5 I o l boot_range ?_ ⋯ ⋯);refine Ku ?_ (g6 j) rfl;rw[g6 j];refine Ll (thn (y π s σ H _ I h) λu d ⟨x,G,z,B,n,m,hz,q⟩=>?_);subst m;obtain⟨t,rfl⟩:=B;refine Ls (call_range_1 (Ls ?_));have rs:Builtin.Range.rangeSize 0 (n:Int) 1=(n:Int):=by rw[rangeSize_one];split <;> omega
 refine call_list_range k (IsRange.new ..) (small_one ∅ ∅ ∅ ∅) rs ∅ λh' F f c r E a=>?_;have g:=z.kept (t':=d.toks+1+1) (h':=d.heap.push { cls:=.type "range",data:=.fields #[.int 0 d.toks,.int (n:Int) t,.int 1 (d.toks+1)] }) λb ob q=>Jq _ q;refine⟨.ref _,_,Inv.laid g r (Ju _) ?_,rfl,q _ (g.hok.fresh (Ju _))⟩;refine⟨by rw[Jr];show(rgL n).length<=_;unfold rgL;rw[Jr,MC,JS];omega,f.toList,c,xS (by rw[Mc];exact a.1) (λi v D=>?_),?_⟩
 ·obtain⟨t',e⟩:=a.2 i v (by rw[<- ME];exact D);exact⟨t',by rw[e];simp⟩
 ·simp_all
def L5(d:D):M D:=match d with
 | .int i=>if 0<=i/\i<100000 then ret (.lst ((rgL i.toNat).map D.int))else bad
 | _=>bad
theorem lj(hc:X.calm=true)(hl:Gl X "list") (ml:X.mg "list" = none) (hr:Gl X "range") (mr:X.mg "range" = none) (he:PE X e (tD X.K cl xe f)) (hn:noStar e=true):PE X (.Call (.Name "list" p) [.Call (.Name "range" p2) [e] [] pos2] [] pos) (tD X.K cl xe λρ=>bind (f ρ) L5):=
 PE.imp (lm hc hl ml hr mr he hn) λσ H Q ⟨μ,S,ρ,eo,rp,p⟩=>⟨μ,S,ρ,eo,rp,p.bind.imp λd S1 μ1 H1 l1 r1 p1 v rv=>by
  cases rv with
  | int i=>
   obtain⟨hi,p1⟩:=Post.guard p1;refine⟨i.toNat,by rw[Int.toNat_of_nonneg hi.1],by omega,λz hz=>?_⟩;obtain⟨l,rp2,rd2⟩:=L8 r1 (RDs.ints (rgL i.toNat)) hz;exact p1 μ1 _ l rp2 _ rd2
  | _=>exact False.elim p1⟩
theorem hZ:MtR X "list.extend" (λx vs H Q=>∃l b xs j,x=.ref l/\vs=[.ref b]/\H l=some (.lst xs)/\(SqL X.K H b j\/SqT X.K H b j)/\xs.length+j.length<=sizeLine/\Q .non (upd H l (.lst (xs++j)))):=by
 intro π s σ H x vs v us Q I A C h;obtain⟨l,b,xs,j,rfl,rfl,y,m,hz,q⟩:=h;ext A;obtain⟨u,rfl,B⟩:=C.one;ext B;obtain⟨z,g,n,r,L,e⟩:=I.lstM y;have p:∀(ob:Obj)(k:Nat)(T:String)(a:List Value),(T = "list"\/T = "tuple")->s.heap.get? b=some ob->ob.cls=.type T->ob.data=.seq a.toArray k->Vals j a->wpAny (model X.prog X.w) X.A (call (.builtin "list.extend") [.ref l,.ref b]) (EP X π σ Q) X.xe s:=λob k T a J w G E f=>by
  have hsz:g.toArray.size+a.toArray.size<=sizeLine:=by rw[Jv,Jv,<- f.length];omega
  have i:¬ (!g.toArray.isEmpty&&Builtin.List.listTooLong (g.toArray.size+a.toArray.size))=true:=by
   rw[eP hsz,Bool.and_false];exact Jt
  have D:s.TypeIs (.ref l) "list":=⟨_,e,rfl⟩;refine KJ F.slot_list_extend D F.entry_list_extend ?_ (F.args_list_extend_2 _ _);show wpAny _ _ (Builtin.List.listExtendWith (.ref l) (.ref b) .none) _ _ s;refine Jn (MR ⟨ob,w,G⟩ ?_);rw[if_pos (by rcases J with rfl | rfl <;> simp)];refine Jn (Nc w E (Jn (Nc e rfl ?_)));rw[if_neg i];refine Jn (PyProof.Rows.listUpdate_at e rfl (Jo ?_) (by rw[Jv];omega) (by rw[Array.size_append];omega));refine⟨_,rfl,.non,_,I.lset y e (by simp) (r.append f) ?_,rfl,q⟩;rw[JP];omega
 rcases m with m | m
 ·obtain⟨a,f,⟨o,k,t,c,K,d⟩,_⟩:=I.list m;exact p o k "list" a (.inl rfl) t c d f
 ·obtain⟨a,f,⟨o,t,c,k,d⟩,_⟩:=I.tuple m;exact p o k "tuple" a (.inr rfl) t c d f
def extD(x:D)(ds:List D):M D:=match x,ds with
 | .ref n,[.tup ys]=>λS=>match S[n]? with
  | some (.lst es)=>if es.length+ys.length<=sizeLine then .ok .non (S.set n (.lst (es++ys)))else .bad
  | _=>.bad
 | .ref n,[.lst ys]=>λS=>match S[n]? with
  | some (.lst es)=>if es.length+ys.length<=sizeLine then .ok .non (S.set n (.lst (es++ys)))else .bad
  | _=>.bad
 | _,_=>bad
theorem sC:Ac X.K cl xe (λx vs H Q=>∃l b xs zs,x=.ref l/\vs=[.ref b]/\H l=some (.lst xs)/\(SqL X.K H b zs\/SqT X.K H b zs)/\xs.length+zs.length<=sizeLine/\Q .non (upd H l (.lst (xs++zs)))) extD:=λμ S H x v ds vs Q rx rvs rp p=>by
 have gen:∀(n:Nat)(a b:Addr)(ys:List D)(zs:List V),μ.pl[n]?=some a->(SqL X.K H b zs\/SqT X.K H b zs)->RDs X.K μ H ys zs->Post X.K cl xe μ H (match S[n]? with
   | some (.lst es)=>if es.length+ys.length<=sizeLine then R.ok D.non (S.set n (.lst (es++ys)))else .bad
   | _=>.bad) (λd _ μ' H'=>∀w,RD X.K μ' H' d w->Q w H')->∃l b' xs zs',V.ref a=.ref l/\[V.ref b]=[.ref b']/\H l=some (.lst xs)/\(SqL X.K H b' zs'\/SqT X.K H b' zs')/\xs.length+zs'.length<=sizeLine/\Q .non (upd H l (.lst (xs++zs'))):=λn a b ys zs e hs hr p=>by
  cases q1:S[n]? with
  | none=>rw[q1]at p;exact p.elim
  | some o=>
   rw[q1]at p;cases o with
   | lst es=>
    obtain⟨xs,h1,h2⟩:=rp.ats n _ a q1 e;dsimp only at p;by_cases hz:es.length+ys.length<=sizeLine
    ·rw[if_pos hz]at p;have ml:=JL e;refine⟨a,b,xs,zs,rfl,rfl,h1,hs,by rw[<- h2.length,<- hr.length];exact hz,?_⟩;have la:Lat μ H μ (upd H a (.lst (xs++zs))):=Lat.wrote ml;exact p μ _ la (rp.wrote e ⟨_,b8,(h2.append hr).later la⟩) _ .non
    ·rw[if_neg hz]at p;exact p.elim
   | dct _=>exact p.elim
   | exc _ _=>exact p.elim
   | dcT _=>exact p.elim
 unfold extD at p;split at p
 ·rename_i n ys;cases rvs with
  | cons h t=>
   ext t;cases rx with
   | ref e=>
    cases h with
    | tup h1 h2=>
     rename_i a b zs;exact gen n a b ys zs e (.inr h1.sq) h2 p
 ·rename_i n ys;cases rvs with
  | cons h t=>
   ext t;cases rx with
   | ref e=>
    cases h with
    | lst h1 h2=>
     rename_i a b zs;exact gen n a b ys zs e (.inl h1.sq) h2 p
 ·exact p.elim
end
end L3
namespace HT
open PySem PySem.Spec PyProof.Rows
def cT(a:Bool):Obj:={ cls:=.type "set",dict:=none,data:=.set #[] 0 (.fresh 0 0 a) }
section
variable {K:Type}[DecidableEq K]
def metKHt(f:Nat->K):Nat->List K
 | 0=>[]
 | i+1=>if f i∈metKHt f i then metKHt f i else metKHt f i++[f i]
theorem metK_s(f:Nat->K)(i:Nat):metKHt f (i+1)=if f i∈metKHt f i then metKHt f i else metKHt f i++[f i]:=rfl
theorem metK_le(f:Nat->K):∀i,(metKHt f i).length<=i
 | 0=>Ju _
 | i+1=>by
  have:=metK_le f i;unfold metKHt;split
  ·omega
  ·grind
theorem metK_mem(f:Nat->K)(k:K):∀i,k∈metKHt f i↔∃j,j<i/\f j=k
 | 0=>by simp[metKHt]
 | i+1=>by
  have a:=metK_mem f k i;have e:k∈metKHt f (i+1)↔(k∈metKHt f i\/k=f i):=by
   rw[metK_s];split
   ·grind
   ·grind
  rw[e,a];constructor
  ·grind
  ·grind
end
end HT
namespace L3
open PySem PySem.Spec PyProof.Rows L2
def j3:List D->Option (List Str)
 | []=>some []
 | .str x::ds=>(j3 ds).map (x::·)
 | _=>none
theorem cn{K:PySem.W.Frag}{μ:Mp}{H:Hp}:∀{es:List D}{xs:List V}{ys:List Str},j3 es=some ys->RDs K μ H es xs->xs=ys.map V.str
 | [],_,_,e,r=>by ext e;ext r;rfl
 | d::es,_,ys,e,r=>by
  cases d with
  | str x=>
   simp only[j3]at e;cases q:j3 es with
   | none=>rw[q]at e;ext e
   | some zs=>
    rw[q]at e;ext e;cases r with
    | cons h t=>ext h;rw[cn q t];rfl
  | _=>simp only[j3]at e;ext e
theorem S9:∀{ys:List Str}{us:List Value},Vals (ys.map V.str) us->StrsAre us ys
 | [],_,h=>by ext h;exact .nil
 | y::ys,_,h=>by
  cases h with
  | cons r t=>
   obtain⟨tk,rfl⟩:=r;exact .cons _ _ (S9 t)
def M2:List Int->Int
 | []=>0
 | x::xs=>x+M2 xs
theorem fC:∀(xs ys:List Int),M2 (xs++ys)=M2 xs+M2 ys
 | [],ys=>by show M2 ys=0+M2 ys;omega
 | x::xs,ys=>by show x+M2 (xs++ys)=x+M2 xs+M2 ys;rw[fC xs ys];omega
theorem kD(ns:List Int):∀j,j<=ns.length->preSum (λi=>ns.getD i 0) j=M2 (ns.take j)
 | 0,_=>by simp[preSum,M2]
 | j+1,h=>by
  have a:j<ns.length:=by omega
  rw[KN a,fC,<- kD ns j ∅];show preSum _ j+ns.getD j 0=preSum _ j+(ns[j]+0);simp[a]
section
variable {X:Cx}{cl:ClW}{xe:Addr->Hp->Prop}
theorem lA{σ:L2.St}{H:Hp}{Q:VK}{ns:List Int}{t':Nat}{o:Obj}(I:L2.Inv X π σ H s)(q:Q (.int (M2 ns)) H){m:Nat}(d:m=ns.length)
  (h:Moved [s.heap.objs.size] (λa b=>b=a) { s with heap:=s.heap.push o } s'):EP X π σ Q (.int (preSum (λi=>ns.getD i 0) m) t') s':=by
 have e:preSum (λi=>ns.getD i 0) m=M2 ns:=by rw[d,kD ns ns.length (Ju _),MJ]
 rw[e];obtain⟨k,g,f,j,n⟩:=h;have es:s'={ s with heap:=s'.heap,toks:=s'.toks }:=by
  ext s';ext s;subst g f j;rfl
 rw[es];refine⟨.int (M2 ns),H,I.kept λb o c=>?_,⟨_,rfl⟩,q⟩;have l:=Jx c;exact k b o (by simp;exact JF l) (Jq _ c)
theorem gY{ns:List Int}{a:List Value}(d:Vals (ns.map V.int) a):∀(i:Nat)(v:Value),a.toArray[i]?=some v->∃t,v=Value.int (ns.getD i 0) t:=by
 intro i v c;rw[MF]at c;have h:a.length=ns.length:=by rw[<- d.length,Jr]
 have g:i<ns.length:=by
  have b:=(Js.mp c).1;omega
 obtain⟨u,f,e⟩:=Vals.get d (by rw[JU,Jw g];rfl);rw[f]at c;ext c;obtain⟨t,rfl⟩:=e;grind
theorem pG{s:Shared}{p:Addr}{o:Obj}(d:p<s.heap.objs.size)(c:o.isFreed=false:=by rfl):∀b∈[s.heap.objs.size,p],b<(s.heap.push o).objs.size:=by
 intro b a;rcases JH.mp a with rfl | a
 ·simp_all
 ·rw[JK.mp a];exact Nat.lt_trans d (Jx (JG _ c))
theorem eh(l:X.calm=true):k5 X (.builtin "sum") (λxs H Q=>∃(p:Addr) (ns:List Int),xs=[.ref p]/\(SqL X.K H p (ns.map V.int)\/SqT X.K H p (ns.map V.int))/\Q (.int (M2 ns)) H):=by
 intro π s σ H xs us Q I r h;obtain⟨p,ns,rfl,d,q⟩:=h;obtain⟨u,rfl,k⟩:=X0 r;ext k;have j:=I.ok.hd l;rcases d with d | d
 ·obtain⟨a,b,pl,hz⟩:=I.list d;have c:p<s.heap.objs.size:=by
   obtain⟨o,e,_⟩:=pl.isList;exact Jx e
  have f:a.toArray.size=ns.length:=by rw[Jv,<- b.length,Jr]
  exact call_sum_walkAnyS (My pl.isList ⟨s.heap.objs.size,[s.heap.objs.size,p],[s.heap.objs.size],_,a.toArray.size,_,_,λi=>ns.getD i 0,rfl,(Walks.list (A:=X.A.in1) (j) _ _ (JF c) a.toArray).toS,⟨⟨_,JG _ rfl,rfl,rfl⟩,pl.isList.push _⟩,pG c,gY b,λs' t' m=>lA I q f m⟩)
 ·obtain⟨a,b,⟨o,e,g,n,hd⟩,hz⟩:=I.tuple d;have pl:s.heap.IsTuple p a.toArray:=⟨o,e,g,n,hd⟩;have c:=Jx e;have f:a.toArray.size=ns.length:=by rw[Jv,<- b.length,Jr]
  exact call_sum_walkAnyS (Ln pl ⟨s.heap.objs.size,[s.heap.objs.size,p],[s.heap.objs.size],_,a.toArray.size,_,_,λi=>ns.getD i 0,rfl,(Walks.tuple (A:=X.A.in1) (j) _ _ (JF c) a.toArray).toS,⟨⟨_,JG _ rfl,rfl,rfl⟩,pl.push _⟩,pG c,gY b,λs' t' m=>lA I q f m⟩)
def xV(d:D):M D:=bind (M9 d) λds=>match w9 ds with
 | some ns=>ret (.int (M2 ns))
 | none=>bad
theorem Gj(g:X.calm=true):k5 X (.builtin "sum") (rPs X.K cl xe (one xV)):=ai λπ s σ H μ S d v us Q I r h b p=>by
 obtain⟨a,xs,ds,rfl,i,f,c⟩:=pi h b p.bind;have p:=p.ok_bind c;cases e:w9 ds with
 | none=>rw[e]at p;exact p.elim
 | some ns=>
  rw[e]at p;have:=dq e f;subst this;exact eh g π s σ H _ us Q I r ⟨a,ns,rfl,i,p μ H (Lat.refl _ _) b _ (.int _)⟩
end
def countT(x:D)(ds:List D):M D:=match x,ds with
 | .tup es,[.str w]=>(match j3 es with
  | some ys=>ret (.int (countIn (.str w) (ys.map PyData.str)))
  | none=>bad)
 | _,_=>bad
section
variable {X:Cx}{cl:ClW}{xe:Addr->Hp->Prop}
theorem lg:Looks X.K cl xe "tuple" tupOf:=λμ S H x v G rx rp p=>by
 cases rx with
 | tup h0 r0=>
  refine⟨?_,_,rfl⟩;rcases h0 with ⟨q,_,_⟩ | ⟨o,its,n,c1,c2,c3,c4,c5,c6⟩
  ·exact .inr (.inr (.inr (.inr ⟨rfl,_,q⟩)))
  ·exact .inr (.inl ⟨rfl,o,c1,c2,c6⟩)
 | _=>exact False.elim p
theorem mM:MtR X "tuple.count" (λx vs H Q=>∃(p:Addr) (ys:List Str) (w:Str),x=.ref p/\vs=[.str w]/\SqT X.K H p (ys.map V.str)/\Q (.int (countIn (.str w) (ys.map PyData.str))) H):=by
 intro π s σ H x vs v us Q I e j h;obtain⟨p,ys,w,rfl,rfl,l,q⟩:=h;ext e;obtain⟨u,rfl,o⟩:=j.one;obtain⟨t,rfl⟩:=o;obtain⟨a,d,⟨⟨f,g,c,i⟩,b,k,n,hd⟩,hz⟩:=I.tuple l;subst k hd;refine LQ No ⟨_,b,rfl⟩ PySem.F.entry_tuple_count (PySem.F.args_tuple_count_2 _ _) (PySem.SeqAt.tuple_countAt p a.toArray n g i (.str w t) (isStrOf w)) ⟨b,λy m=>(eq_isStrOf w t (S9 d) y (by simpa using m)).at _ _,?_⟩;rw[show a.toArray.toList=a from rfl,countP_isStrOf_map w (S9 d)];exact⟨.int _,H,I.tok _,⟨_,rfl⟩,q⟩
theorem eN:Ac X.K cl xe (λx vs H Q=>∃(p:Addr) (ys:List Str) (w:Str),x=.ref p/\vs=[.str w]/\SqT X.K H p (ys.map V.str)/\Q (.int (countIn (.str w) (ys.map PyData.str))) H) countT:=λμ S H x v ds vs Q rx rvs rp p=>by
 unfold countT at p;split at p
 ·rename_i es w;cases rx with
  | tup h0 r0=>
   cases rvs with
   | cons h t=>
    ext t;ext h;cases q:j3 es with
    | none=>rw[q]at p;exact p.elim
    | some ys=>
     rw[q]at p;have ex:=cn q r0;subst ex;exact⟨_,ys,w,rfl,rfl,h0.sq,p μ H (Lat.refl _ _) rp _ (.int _)⟩
 ·exact p.elim
end
def CXr(P:Program)(w:World)(K:PySem.W.Frag):List PySem.Env->Hp->Shared->XK->Value->Shared->Prop:=λb H s E e s'=>
 ∃a C d c H',e=.ref a/\s'.os=s.os/\AllBare s'.gens/\Un (frs b) [] H H' s.heap s'.heap/\HOk P w H' s'.heap/\Fx K H' a C d c/\E e none H'
abbrev CXd(P:Program)(w:World)(K:PySem.W.Frag):CXT:=⟨CXr P w K,false⟩
section
variable {K:PySem.W.Frag}{cl:ClW}{xe xe':Addr->Hp->Prop}{α β:Type}{μ:Mp}{H H':Hp}{S:Sto}{a C:Addr}{d tb:Option Addr}{P:Program}{w:World}{h:Heap}
theorem Post.ximp{G:α->Sto->Mp->Hp->Prop}(p:Post K cl xe μ H r G)(k:∀n S μ' H' a,r=.exn n S->Lat μ H μ' H'->Rep K cl μ' S H'->μ'.pl[n]?=some a->xe a H'->xe' a H'):Post K cl xe' μ H r G:=by
 cases r with
 | ok a S=>exact p
 | exn n S=>exact λμ' H' a l r e=>k n S μ' H' a rfl l r e (p μ' H' a l r e)
 | bad=>exact p
def nx(m:M α):M α:=λS=>match m S with
 | .exn _ _=>.bad
 | r=>r
theorem Post.nx{G:α->Sto->Mp->Hp->Prop}(p:Post K cl xe μ H (nx m S) G):Post K cl xe' μ H (m S) G:=by
 unfold L3.nx at p;cases e:m S with
 | ok a S1=>rw[e]at p;exact p
 | exn n S1=>rw[e]at p;exact p.elim
 | bad=>rw[e]at p;exact p
theorem uL(f:HOk P w H h)(o:OAt K cl μ H a (.exc c fs))(e:H a=some (Q7 tb a C d))(j:∀T,tb=some T->T≠a/\H T=some (TbO T)):C=cl c/\Fx K H a C d tb:=by
 obtain⟨k,gs,q,p,o⟩:=o;obtain⟨vs,l,_⟩:=(f a _ e).1;rcases o with ⟨z,g⟩ | ⟨d',n,r,g,m⟩
 ·obtain⟨i,b,_⟩:=(f a _ g).1;rw[l]at b;ext b;exact⟨rfl,k,e,λd' z=>(nomatch z),j⟩
 ·obtain⟨i,b,_⟩:=(f a _ g).1;rw[l]at b;ext b;exact⟨rfl,k,e,λs z=>by ext z;exact⟨n,gs,m⟩,j⟩
theorem Rep.mv{n:Nat}(r:Rep K cl μ S H)(hk:HOk P w H h)(e:μ.pl[n]?=some a)(fx:H a=some (Q7 tb a C d))(m:Mv H a C d H'):Lat μ H μ H'/\Rep K cl μ S H':=by
 have am:=JL e;have l:Lat μ H μ H':=⟨λ_ _ h=>h,λb o q nb=>m.1 b o (λz=>nb (z▸am)) q,λ_ h=>.inl h,rfl⟩;refine⟨l,r.len,r.nd,λi o b e1 e2=>?_,λb mb=>let ⟨h1,u,h2⟩:=r.res b mb;⟨h1,u,l.oth _ _ h2 h1⟩⟩;have ho:=r.ats i o b e1 e2;by_cases hb:b=a
 ·subst hb;cases o with
  | lst ds=>obtain⟨xs,q,_⟩:=ho;rw[fx]at q;simp[Q7]at q
  | dct kvs=>obtain⟨xs,q,_⟩:=ho;rw[fx]at q;simp[Q7]at q
  | dcT kvs=>
   obtain⟨es,q,_⟩:=ho;obtain⟨vs,q1,_⟩:=(hk b _ fx).1;obtain⟨o,ep,q2,q3,_⟩:=(hk b _ q).1;rw[q1]at q2;ext q2;cases q3.1
  | exc c fs=>
   obtain⟨xc,gs,q,fr,o⟩:=ho;obtain⟨tb',m2⟩:=m.2;obtain⟨vs,q1,_⟩:=(hk b _ fx).1;rcases o with ⟨z,e2⟩ | ⟨d',h1,h2,e2,e3⟩
   ·obtain⟨vs2,q2,_⟩:=(hk b _ e2).1;rw[q1]at q2;ext q2;exact⟨xc,gs,Paired.mono (λ_ _ ⟨z,w⟩=>⟨z,w.later l⟩) q,tb',.inl ⟨z,m2⟩⟩
   ·obtain⟨vs2,q2,_⟩:=(hk b _ e2).1;rw[q1]at q2;ext q2;exact⟨xc,gs,Paired.mono (λ_ _ ⟨z,w⟩=>⟨z,w.later l⟩) q,tb',.inr ⟨d',h1,h2,m2,m.1 d' _ h1 e3⟩⟩
 ·obtain⟨u,q⟩:=ho.some;exact ho.later l (by rw[q];exact m.1 b u hb q)
end
def xOf(X:Cx)(a:Addr)(H:Hp):Prop:=∀(π:List (Addr×Obj)) (σ:L2.St) (s:Shared) (C:Addr) (d b:Option Addr),L2.Inv X π σ H s->Fx X.K H a C d b->X.xe (.ref a) s
def yz(X:Cx)(π:List (Addr×Obj))(σ:L2.St)(F:Addr->Hp->Prop)(c:Value)(s:Shared):Prop:=∃a H C d b,c=.ref a/\L2.Inv X π σ H s/\Fx X.K H a C d b/\F a H
def PX(X:Cx)(cl:ClW)(e:Expr)(f:Env->M D):Prop:=∀(π:List (Addr×Obj)) (s:Shared) (σ:L2.St) (H:Hp) (Q:VK) (F:Addr->Hp->Prop),L2.Inv X π σ H s->tD X.K cl F f σ H Q ->
 wpAny (model X.prog X.w) X.A (eval e X.env) (EP X π σ Q) (yz X π σ F) s
def spX(K:PySem.W.Frag)(cl:ClW)(n:Nat)(run:List D->M D):Sp:=λvs H Q E=>vs.length=n/\∃μ S ds,RDs K μ H ds vs/\Rep K cl μ S H/\Post K cl (nk E) μ H (run ds S) λd _ μ' H'=>∀v,RD K μ' H' d v->Q v H'
section
variable {X:Cx}{cl:ClW}{e:Expr}{es:List Expr}{f:Env->M D}{pos p:Pos}
theorem PX.of(h:PE X.nox e (tD X.K cl x0 f)):PX X cl e λρ=>nx (f ρ):=λπ s σ H Q F I ⟨μ,S,ρ,a,b,p⟩=>
 JO (h π s σ H Q (I.wish _) ⟨μ,S,ρ,a,b,p.nx⟩) (λ_ _ ⟨v,H',c,r,q⟩=>⟨v,H',c.unwish,r,q⟩) λ_ _ z=>False.elim z
theorem yM{k n:Nat}{a:Addr}{fd:FuncData}{ps:List Str}{x:Str}{fs:Env->M (List D)}{run:List D->M D}(hn:ps.length=n)(F:FnOk X.prog X.w X.K X.mg X.base (CXd X.prog X.w X.K) k a fd ps (spX X.K cl n run))(hr:Room false k X.A)(hg:Gl X x)(hm:X.mg x=some (.ref a))(hk:PySem.W.keepIn X.K (.ref a)=true)(hb:Binds X.K fd ps [])
  (ha:PA X.nox (e::es) (tDs X.K cl x0 fs)) (hdb:(x==("__debug__" : Str))=false) (hs:(e::es).all noStar=true) :
  PX X cl (.Call (.Name x p) (e::es) [] pos) λρ=>bind (nx (fs ρ)) λds=>if ds.length=n then run ds else bad:=by
 rw[Kt,Jp]at hs;intro π s σ H Q F0 I ⟨μ,S,ρ,eo,rp,p⟩;refine Kr (E2 I hg hm ?_ hdb);refine Mn I.ok.mod.kin hk (JO (ha pos π s σ H (λvs H1=>∃μ1 S1 ds,RDs X.K μ1 H1 ds vs/\Rep X.K cl μ1 S1 H1/\Post X.K cl F0 μ1 H1 ((if ds.length=n then run ds else bad) S1) λd _ μ' H'=>∀v,RD X.K μ' H' d v->Q v H') (I.wish _) ⟨μ,S,ρ,eo,rp,p.bind.nx.imp λds S1 μ1 H1 l1 r1 p1 vs rvs=>⟨μ1,S1,ds,rvs,r1,p1⟩⟩)
  (λus s1 ⟨vs,H1,I1,r,μ1,S1,ds,rvs,r1,p1⟩=>⟨I1.unwish.kIn,?_⟩) λ_ _ z=>False.elim z) (g6 hs.1) (k7 hs.2)
 have I1:=I1.unwish;by_cases hd:ds.length=n
 ·rw[if_pos hd]at p1;have hl:us.length=ps.length:=by rw[<- r.length,<- rvs.length,hd,hn]
  have hb2:=hb s1 us I1.kIn (by rw[Kc];exact hl);rw[Kc]at hb2;refine LP (Ld (F.run X.A X.stack s1 H1 ⟨us,[]⟩ us vs Q (λev _ H=>∀a,ev=.ref a->F0 a H) hr I1.env0 hb2 r ⟨by rw[<- rvs.length];exact hd,μ1,S1,ds,rvs,r1,p1.ximp λ_ _ _ _ a _ _ _ _ h a' z=>by ext z;exact h⟩) λres s' hq=>?_);cases res with
  | error ev=>
   obtain⟨a',C,d,tb,H',he,os,bare,un,hok,fx,q⟩:=hq;exact⟨a',H',C,d,tb,he,I1.call' os un hok bare (λb z=>absurd z (by simp)),fx,q a' he⟩
  | ok fl=>
   cases fl with
   | ret u=>exact I1.after hq
   | next=>exact False.elim hq
   | brk=>exact False.elim hq
   | cont=>exact False.elim hq
 ·rw[if_neg hd]at p1;exact p1.elim
def t7(d:D):M Fl:=match d with
 | .ref n=>λS=>match S[n]? with
  | some (.exc _ _)=>.exn n S
  | _=>.bad
 | _=>bad
theorem td(hc:X.calm=true)(h:PE X e (tDf X.K cl (xOf X) f)):PS X (.Raise (some e) none pos) (sD X.K cl (xOf X) λρ=>bind (f ρ) t7):=by
 intro π s σ H D I ⟨μ,S,ρ,eo,rp,p⟩;refine Jn (KF (cf (K:=X.K) (I.ok.hd hc) (Jn (JO (h π s σ H (λv H1=>∃(x C:Addr) (d:Option Addr) (μ1:Mp) (S1:Sto) (n c:Nat) (fs:List (Str×L3.D)),v=.ref x/\XC X.K C/\H1 x=some (O9 x C d)/\Rep X.K cl μ1 S1 H1/\S1[n]?=some (O.exc c fs)/\μ1.pl[n]?=some x/\xOf X x H1) I ⟨μ,S,ρ,eo,rp,p.bind.imp λd S1 μ1 H1 l1 r1 p1 v rv fr=>?_⟩)
  (λu s1 ⟨v,H1,I1,ru,x,C,d,μ1,S1,n,c,fs,ev,xc,ex,r1,e1,e2,xo⟩=>Jn (KF (Jo ?_))) λ_ _ z=>z))))
 ·cases rv with
  | ref hp=>
   rename_i n a;obtain⟨x,C,d,ev,xc,ex⟩:=fr;ext ev;simp only[t7]at p1;cases q:S1[n]? with
   | none=>rw[q]at p1;exact p1.elim
   | some o=>
    rw[q]at p1;cases o with
    | exc c fs=>exact⟨_,C,d,μ1,S1,n,c,fs,rfl,xc,ex,r1,q,hp,p1 μ1 H1 _ (Lat.refl _ _) r1 hp⟩
    | lst _=>exact p1.elim
    | dct _=>exact p1.elim
    | dcT _=>exact p1.elim
  | _=>exact False.elim p1
 ·subst ev;obtain rfl:u=Value.ref x:=ru;have fx:=(uL I1.hok (r1.ats n _ x e1 e2) ex λT z=>(nomatch z)).2;exact⟨x,C,d,rfl,I1.kIn,xc,I1.isX ex,xo π σ s1 C d none I1 fx⟩
end
section
variable {K:PySem.W.Frag}{cl:ClW}{xe xe':Addr->Hp->Prop}{α:Type}{μ:Mp}{H:Hp}
theorem Post.up{G:α->Sto->Mp->Hp->Prop}(p:Post K cl xe μ H r G)(k:∀a H',xe a H'->xe' a H'):Post K cl xe' μ H r G:=p.ximp λ_ _ _ H' a _ _ _ _ h=>k a H' h
theorem Post.x0{G:α->Sto->Mp->Hp->Prop}(p:Post K cl (nk E0) μ H r G):Post K cl xe μ H r G:=p.up λ_ _ z=>False.elim z
end
abbrev x0:Addr->Hp->Prop:=nk E0
section
variable {X:Cx}{cl:ClW}{xe:Addr->Hp->Prop}{e tg:Expr}{es:List Expr}
theorem PE.x0(h:PE X e (tD X.K cl xe f)):PE X e (tD X.K cl x0 f):=PE.imp h λσ H Q ⟨μ,S,ρ,a,b,p⟩=>⟨μ,S,ρ,a,b,p.x0⟩
theorem PTL.x0(h:PTL X es (tBo X.K cl xe f)):PTL X es (tBo X.K cl x0 f):=λπ s σ H Q I ⟨μ,S,ρ,a,b,p⟩=>h π s σ H Q I ⟨μ,S,ρ,a,b,p.x0⟩
theorem PA.x0(h:PA X es (tDs X.K cl xe f)):PA X es (tDs X.K cl x0 f):=PA.imp h λσ H Q ⟨μ,S,ρ,a,b,p⟩=>⟨μ,S,ρ,a,b,p.x0⟩
theorem PI.x0(h:PI X tg e (tIt X.K cl xe f)):PI X tg e (tIt X.K cl x0 f):=PI.imp h λσ H Q ⟨μ,S,ρ,a,b,p⟩=>⟨μ,S,ρ,a,b,p.x0⟩
theorem PSs.x0(h:PSs X sts (sD X.K cl xe f)):PSs X sts (sD X.K cl x0 f):=PSs.imp h λD σ H ⟨μ,S,ρ,a,b,p⟩=>⟨μ,S,ρ,a,b,p.x0⟩
theorem eE(h:PE X e (ey X.K cl x0 fs)):PE X e (tD X.K cl xe λρ=>bind (nx (fs ρ)) λds=>ret (.lst ds)):=PE.imp h λσ H Q ⟨μ,S,ρ,f,j,p⟩=>
 ⟨μ,S,ρ,f,j,p.bind.nx.imp λds S1 b d l g i c ys k a=>i.ret b d (Lat.refl _ _) g _ (.lst k a)⟩
theorem zI:B9 (CXd X.prog X.w X.K) X (λl _ H=>∀a,l=.ref a->xOf X a H):=λπ σ H s e s' I ⟨a,C,d,i,H',k,g,c,j,f,h,q⟩=>by
 subst k;exact q a rfl π σ s' C d i (I.call' g j f c λb z=>absurd z (by simp)) h
theorem pX{a:Addr}{fd:FuncData}{ps:List Str}{x:Str}{p pos:Pos}{fs:Env->M (List D)}{b:List D->M D}(F:FnOk X.prog X.w X.K X.mg X.base (CXd X.prog X.w X.K) k a fd ps (spX X.K cl n b))(l:Room false k X.A)(j:Gl X x)(o:X.mg x=some (.ref a))(i:PySem.W.keepIn X.K (.ref a)=true)(t:Binds X.K fd ps [])
  (s:PA X (e::es) (tDs X.K cl (xOf X) fs)) (g:(x==("__debug__" : Str))=false) (hs:(e::es).all noStar=true) :
  PE X (.Call (.Name x p) (e::es) [] pos) (tD X.K cl (xOf X) λρ=>bind (fs ρ) λds=>if ds.length=n then b ds else bad):=by
 rw[Kt,Jp]at hs;exact PE.imp (xi F l j o i t .nil zI s g (g6 hs.1) (k7 hs.2)) λσ H Q ⟨μ,S,ρ,m,r,p⟩=>
  ⟨μ,S,ρ,m,r,p.bind.imp λds S1 f u w q d vs c=>by
   by_cases hd:ds.length=n
   ·rw[if_pos hd]at d;exact⟨by rw[Kc,<- c.length];exact hd,f,S1,ds,by rw[Kc];exact c,q,d.up λa H' h v z=>by ext z;exact h⟩
   ·rw[if_neg hd]at d;exact d.elim⟩
theorem mL{b:List D->M D}(F:FnOk X.prog X.w X.K X.mg X.base (CXd X.prog X.w X.K) k a fd ps (spX X.K cl 0 b))(f:Room false k X.A)(e:Gl X x)(g:X.mg x=some (.ref a))(d:PySem.W.keepIn X.K (.ref a)=true)(j:Binds X.K fd ps [])
  (c:(x==("__debug__" : Str))=false):PE X (.Call (.Name x p) [] [] pos) (tD X.K cl (xOf X) λρ=>b []):=PE.imp (pS F f e g d j .nil zI c) λσ H Q ⟨μ,S,ρ,l,i,p⟩=>⟨rfl,μ,S,[],.nil,i,p.up λa H' h m z=>by ext z;exact h⟩
end
inductive G where
 | val (d:D) | fn (i n:Nat) | err (c:Nat) (fs:List Str) | dct (kvs:List (Str×D))
structure Gm where
 gl:List (Str×G)
 sub:Nat->Nat->Bool
 flds:List Str
 qs:List Nat:=[]
structure Lc where
 N:List Str
 sc:Scope
 fr:Bool
 mu:List Str
def quiet(a:Lc):Bool:=a.mu.contains ("~" : Str)
structure Ev where
 e:Lc->Expr->Env->M D
 t:Lc->Expr->Env->M Bool
 s:Lc->Stmt->Env->M Fl
 i:Lc->Expr->Expr->Env->M (Src×Nat)
structure EvK where
 e:Lc->Expr->Env->∀{α:Type},(D->M α)->M α
 t:Lc->Expr->Env->∀{α:Type},(Bool->M α)->M α
 s:Lc->Stmt->Env->∀{α:Type},(Fl->M α)->M α
 i:Lc->Expr->Expr->Env->∀{α:Type},(Src×Nat->M α)->M α
structure EqK(r:Ev)(q:EvK):Prop where
 e:∀lc e ρ {α:Type} (k:D->M α),q.e lc e ρ k=bind (r.e lc e ρ) k
 t:∀lc e ρ {α:Type} (k:Bool->M α),q.t lc e ρ k=bind (r.t lc e ρ) k
 s:∀lc e ρ {α:Type} (k:Fl->M α),q.s lc e ρ k=bind (r.s lc e ρ) k
 i:∀lc g e ρ {α:Type} (k:Src×Nat->M α),q.i lc g e ρ k=bind (r.i lc g e ρ) k
theorem gi(k:α->M β):bind bad k=bad:=rfl
theorem t6{c:Prop}[Decidable c](a b:M α)(k:α->M β):bind (if c then a else b) k=if c then bind a k else bind b k:=by split <;> rfl
theorem k6(m:M α):bind m ret=m:=by
 funext S;unfold bind ret;cases m S <;> rfl
def e8:List Str->Str->Option Nat
 | [],_=>none
 | y::ys,x=>if y=x then some 0 else (e8 ys x).map (· + 1)
theorem k0:∀{N:List Str}{x:Str}{i:Nat},e8 N x=some i->N[i]?=some x
 | [],_,_,e=>by ext e
 | y::ys,x,i,e=>by
  unfold e8 at e;split at e
  ·rename_i h;ext e;simp[h]
  ·cases q:e8 ys x with
   | none=>rw[q]at e;ext e
   | some j=>rw[q]at e;ext e;simpa using k0 q
def oj(a:Scope)(x:Str):Bool:=decide (a.names.lookup x=some .local)||decide (a.names.lookup x=some .cell)||decide (a.names.lookup x=some .free)
def bg(a:Scope)(x:Str):Bool:=decide (a.names.lookup x=some .local)||decide (a.names.lookup x=some .cell)
def glB(a:Scope)(x:Str):Bool:=decide (a.names.lookup x=some .globalImplicit)
def m9(x:Str):Bool:=!(x==("__debug__" : Str))&&!(x==("__classdict__" : Str))&&!(x==("__name__" : Str))
theorem vi(h:oj sc x=true):Vis sc x:=by
 simpa [oj,Vis,or_assoc] using h
theorem y7(h:bg sc x=true):L2.Loc sc x:=by
 simpa [bg,L2.Loc] using h
theorem n9(h:m9 x=true):(x==("__debug__" : Str))=false/\(x==("__classdict__" : Str))=false/\x ≠ "__name__":=by
 simpa [m9,and_assoc] using h
structure Tx where
 P:Program
 w:World
 K:PySem.W.Frag
 mg:Str->Option Value
 base:Heap
 clf:Nat->Addr
def Tx.cl(T:Tx):ClW:=⟨T.clf,T.w⟩
def bnames:List Str:=["len","tuple","list","repr","isinstance","range","int","bool","str","dict","ValueError","all","any","sum","max","min","sorted","set","enumerate","abs","zip"]
abbrev CXq(q:Bool):CXT:=⟨λ_ _ _ _ _ _=>False,q⟩
structure FnX(T:Tx)(k i n:Nat)(x:Str)(run:List D->M D):Prop where
 ex:∃(a:Addr) (fd:FuncData) (ps:List Str),ps.length=n/\FnOk T.P T.w T.K T.mg T.base (CXd T.P T.w T.K) k a fd ps (spX T.K T.cl n run)/\T.mg x=some (.ref a)/\PySem.W.keepIn T.K (.ref a)=true/\Binds T.K fd ps []
structure FnAt(T:Tx)(k i n:Nat)(x:Str)(run:List D->M D):Prop where
 ex:∃(a:Addr) (fd:FuncData) (ps:List Str),ps.length=n/\FnOk T.P T.w T.K T.mg T.base (CXq true) k a fd ps (spD T.K T.cl n run)/\T.mg x=some (.ref a)/\PySem.W.keepIn T.K (.ref a)=true/\Binds T.K fd ps []
structure ErrAt(T:Tx)(x:Str)(c:Nat)(fs:List Str):Prop where
 xc:XC T.K (T.cl c)
 mg_:T.mg x=some (.ref (T.cl c))
 ex:∃(f:Addr) (fd:FuncData) (ps:List Str),PySem.W.findIn T.K (.ref (T.cl c)) "__init__" = some (some (.ref f))/\PySem.W.isFn T.K (.ref f)=true/\Binds T.K fd ps [] /\
  match fs with
  | []=>FnOk T.P T.w T.K T.mg T.base CX0 2 f fd ps (Hn.spHE T.K)
  | [g]=>FnOk T.P T.w T.K T.mg T.base CX0 2 f fd ps (Hn.sp1 T.K g)
  | [g,g2]=>FnOk T.P T.w T.K T.mg T.base CX0 2 f fd ps (Hn.sp2 T.K g g2)
  | _=>False
def sJ(T:Tx)(x:Str)(kvs:List (Str×D)):Prop:=∃(a:Addr) (es:Array DictEntry) (n:Nat),T.mg x=some (.ref a)/\T.K.lookup a=some ⟨.type "dict",none,.dict es n,#[]⟩/\PySem.W.KeysLit T.w.params es.toList/\(a==sysModules)=false/\(∀k,kvs.lookup k=none->PySem.W.nsIn T.K a k=some none)/\∀k d,kvs.lookup k=some d->∃u v,PySem.W.nsIn T.K a k=some (some u)/\RelV v u/\∀μ H,RD T.K μ H d v
structure TxOk(T:Tx)(Γ:Gm)(k:Nat)(C:Nat->List D->M D):Prop where
 blt:∀x∈bnames,Γ.gl.lookup x=none->T.mg x=none
 val:∀x d,Γ.gl.lookup x=some (.val d)->∃u v,T.mg x=some u/\RelV v u/\∀μ H,RD T.K μ H d v
 fn:∀x i n,Γ.gl.lookup x=some (.fn i n)->i∉Γ.qs->FnX T k i n x (C i)
 fnq:∀x i n,Γ.gl.lookup x=some (.fn i n)->i∈Γ.qs->FnAt T k i n x (C i)
 err:∀x c fs,Γ.gl.lookup x=some (.err c fs)->ErrAt T x c fs/\(∀g∈fs,z9 T.K (T.cl c) g)
 sub:∀x c c0 fs,Γ.gl.lookup x=some (.err c0 fs)->XC T.K (T.cl c)->PySem.W.kitOne T.K (.ref (T.cl c)) (.ref (T.cl c0))=some (Γ.sub c c0)
 subV:∀c,XC T.K (T.cl c)->PySem.W.kitOne T.K (.ref (T.cl c)) (.type "ValueError")=some true
 subT:∀c,XC T.K (T.cl c)->∀t∈tys,PySem.W.kitOne T.K (.ref (T.cl c)) (.type t)=some false
 fld:∀g∈Γ.flds,∀c,XC T.K (T.cl c)->z9 T.K (T.cl c) g
 dct:∀x kvs,Γ.gl.lookup x=some (.dct kvs)->sJ T x kvs
 k3:3<=k
structure CxOk(T:Tx)(k:Nat)(lc:Lc)(X:Cx):Prop where
 prog:X.prog=T.P
 w:X.w=T.w
 K:X.K=T.K
 mg:X.mg=T.mg
 base:X.base=T.base
 N:X.N=lc.N
 nd:lc.N.Nodup
 sc:X.env.scope=lc.sc
 calm:quiet lc=false->X.calm=true
 room:Room (quiet lc) k X.A
 po:PassesOwn (model X.prog X.w) X.A X.env X.xe
 fn:X.fn=λ_=>lc.fr
 kd:lc.sc.kind=.function
 own:lc.fr=true->quiet lc=false->X.stack=X.env::X.outer/\X.env.frame=some X.env.locals
structure EvOk(T:Tx)(k:Nat)(r:Ev):Prop where
 e:∀lc X,CxOk T k lc X->∀e,PE X e (tD T.K T.cl (xOf X) (r.e lc e))
 t:∀lc X,CxOk T k lc X->∀e,PT X e (tBo T.K T.cl (xOf X) (r.t lc e))
 s:∀lc X,CxOk T k lc X->lc.fr=true->∀st,PS X st (sD T.K T.cl (xOf X) (r.s lc st))
 i:∀lc X,CxOk T k lc X->∀g e,PI X g e (tIt T.K T.cl (xOf X) (r.i lc g e))
section
variable {T:Tx}{k:Nat}{r:Ev}{Γ:Gm}{C:Nat->List D->M D}{lc:Lc}{X:Cx}{pos:Pos}
theorem EvOk.ex(R:EvOk T k r)(h:CxOk T k lc X)(e:Expr):PE X e (tD X.K T.cl (xOf X) (r.e lc e)):=by rw[h.K];exact R.e lc X h e
theorem EvOk.tx(R:EvOk T k r)(h:CxOk T k lc X)(e:Expr):PT X e (tBo X.K T.cl (xOf X) (r.t lc e)):=by rw[h.K];exact R.t lc X h e
theorem EvOk.ix(R:EvOk T k r)(h:CxOk T k lc X)(g e:Expr):PI X g e (tIt X.K T.cl (xOf X) (r.i lc g e)):=by rw[h.K];exact R.i lc X h g e
theorem EvOk.sx(R:EvOk T k r)(h:CxOk T k lc X)(a:lc.fr=true)(st:Stmt):PS X st (sD X.K T.cl (xOf X) (r.s lc st)):=by rw[h.K];exact R.s lc X h a st
theorem CxOk.u64(h:CxOk T k lc X):X.A.units+64<cLine:=h.room.units
theorem CxOk.u80(h:CxOk T k lc X):X.A.units+80<cLine:=by have:=h.room.un;omega
theorem CxOk.u1(h:CxOk T k lc X):X.A.units+1<cLine:=Et h.room
theorem CxOk.gl(h:CxOk T k lc X){x:Str}(a:glB lc.sc x=true):Gl X x:=by
 show X.env.kindOf x=_;unfold PySem.Env.kindOf;rw[h.sc];exact Kb a
theorem TxOk.none(a:TxOk T Γ k C)(h:CxOk T k lc X){x:Str}(b:x∈bnames)(e:Γ.gl.lookup x=none):X.mg x=none:=by rw[h.mg];exact a.blt x b e
theorem CxOk.nd'(h:CxOk T k lc X):X.N.Nodup:=by rw[h.N];exact h.nd
theorem CxOk.fn1(h:CxOk T k lc X)(a:lc.fr=true){x:Str}:X.fn x=true:=by rw[h.fn];exact a
theorem CxOk.room0(h:CxOk T k lc X)(a:quiet lc=false):Room false k X.A:=by have:=h.room;rw[a]at this;exact this
theorem CxOk.nox(h:CxOk T k lc X):CxOk T k lc X.nox:=⟨h.prog,h.w,h.K,h.mg,h.base,h.N,h.nd,h.sc,h.calm,h.room,PassesOwn.never,h.fn,h.kd,h.own⟩
end
abbrev Cf:=Nat->List D->M D
structure RuE:Type 1 where
 is:Gm->Lc->Expr->Bool
 run:Ev->Gm->Cf->Lc->Expr->Env->M D
 ok:∀{T:Tx}{k:Nat}{r:Ev}{Γ:Gm}{C:Cf}{lc:Lc}{X:Cx}(e:Expr),EvOk T k r->TxOk T Γ k C->CxOk T k lc X->is Γ lc e=true->PE X e (tD X.K T.cl (xOf X) (run r Γ C lc e))
 runK:EvK->Gm->Cf->Lc->Expr->Env->∀{α:Type},(D->M α)->M α
 eq:∀{r:Ev}{q:EvK}{Γ:Gm}{C:Cf}{lc:Lc}(e:Expr)(ρ:Env){α:Type}(k:D->M α),EqK r q->runK q Γ C lc e ρ k=bind (run r Γ C lc e ρ) k
structure RuT:Type 1 where
 is:Gm->Lc->Expr->Bool
 run:Ev->Gm->Cf->Lc->Expr->Env->M Bool
 ok:∀{T:Tx}{k:Nat}{r:Ev}{Γ:Gm}{C:Cf}{lc:Lc}{X:Cx}(e:Expr),EvOk T k r->TxOk T Γ k C->CxOk T k lc X->is Γ lc e=true->PT X e (tBo X.K T.cl (xOf X) (run r Γ C lc e))
 runK:EvK->Gm->Cf->Lc->Expr->Env->∀{α:Type},(Bool->M α)->M α
 eq:∀{r:Ev}{q:EvK}{Γ:Gm}{C:Cf}{lc:Lc}(e:Expr)(ρ:Env){α:Type}(k:Bool->M α),EqK r q->runK q Γ C lc e ρ k=bind (run r Γ C lc e ρ) k
structure RuS:Type 1 where
 is:Gm->Lc->Stmt->Bool
 run:Ev->Gm->Cf->Lc->Stmt->Env->M Fl
 ok:∀{T:Tx}{k:Nat}{r:Ev}{Γ:Gm}{C:Cf}{lc:Lc}{X:Cx}(e:Stmt),EvOk T k r->TxOk T Γ k C->CxOk T k lc X->lc.fr=true->is Γ lc e=true->PS X e (sD X.K T.cl (xOf X) (run r Γ C lc e))
 runK:EvK->Gm->Cf->Lc->Stmt->Env->∀{α:Type},(Fl->M α)->M α
 eq:∀{r:Ev}{q:EvK}{Γ:Gm}{C:Cf}{lc:Lc}(e:Stmt)(ρ:Env){α:Type}(k:Fl->M α),EqK r q->runK q Γ C lc e ρ k=bind (run r Γ C lc e ρ) k
structure RuI:Type 1 where
 is:Gm->Lc->Expr->Expr->Bool
 run:Ev->Gm->Cf->Lc->Expr->Env->M (Src×Nat)
 ok:∀{T:Tx}{k:Nat}{r:Ev}{Γ:Gm}{C:Cf}{lc:Lc}{X:Cx}(g e:Expr),EvOk T k r->TxOk T Γ k C->CxOk T k lc X->is Γ lc g e=true->PI X g e (tIt X.K T.cl (xOf X) (run r Γ C lc e))
 runK:EvK->Gm->Cf->Lc->Expr->Env->∀{α:Type},(Src×Nat->M α)->M α
 eq:∀{r:Ev}{q:EvK}{Γ:Gm}{C:Cf}{lc:Lc}(e:Expr)(ρ:Env){α:Type}(k:Src×Nat->M α),EqK r q->runK q Γ C lc e ρ k=bind (run r Γ C lc e ρ) k
structure Rules:Type 1 where
 es:List RuE
 ts:List RuT
 ss:List RuS
 is:List RuI
section
variable (Rs:Rules)(Γ:Gm)(C:Cf)
def step(r:Ev):Ev:=
 ⟨λa e=>match Rs.es.find? (λR=>R.is Γ a e) with
  | some R=>R.run r Γ C a e
  | none=>λ_=>bad,
 λa e=>match Rs.ts.find? (λR=>R.is Γ a e) with
  | some R=>R.run r Γ C a e
  | none=>λ_=>bad,
 λa e=>match Rs.ss.find? (λR=>R.is Γ a e) with
  | some R=>R.run r Γ C a e
  | none=>λ_=>bad,
 λa g e=>match Rs.is.find? (λR=>R.is Γ a g e) with
  | some R=>R.run r Γ C a e
  | none=>λ_=>bad⟩
def badEv:Ev:=⟨λ_ _ _=>bad,λ_ _ _=>bad,λ_ _ _=>bad,λ_ _ _ _=>bad⟩
def ev:Nat->Ev
 | 0=>badEv
 | n+1=>step Rs Γ C (ev n)
def zU(q:EvK):EvK:=
 ⟨λa e ρ _ k=>match Rs.es.find? (λR=>R.is Γ a e) with
  | some R=>R.runK q Γ C a e ρ k
  | none=>bad,
 λa e ρ _ k=>match Rs.ts.find? (λR=>R.is Γ a e) with
  | some R=>R.runK q Γ C a e ρ k
  | none=>bad,
 λa e ρ _ k=>match Rs.ss.find? (λR=>R.is Γ a e) with
  | some R=>R.runK q Γ C a e ρ k
  | none=>bad,
 λa g e ρ _ k=>match Rs.is.find? (λR=>R.is Γ a g e) with
  | some R=>R.runK q Γ C a e ρ k
  | none=>bad⟩
def Ia:EvK:=⟨λ_ _ _ _ _=>bad,λ_ _ _ _ _=>bad,λ_ _ _ _ _=>bad,λ_ _ _ _ _ _=>bad⟩
def evK:Nat->EvK
 | 0=>Ia
 | n+1=>zU Rs Γ C (evK n)
end
section
variable {Rs:Rules}{T:Tx}{k:Nat}{r:Ev}{q:EvK}{Γ:Gm}{C:Cf}{lc:Lc}{X:Cx}
theorem xC(d:TxOk T Γ k C)(R:EvOk T k r):EvOk T k (step Rs Γ C r):=by
 refine⟨λa X h e=>?_,λa X h e=>?_,λa X h c e=>?_,λa X h g e=>?_⟩
 ·rw[<- h.K];show PE X e (tD X.K T.cl (xOf X) (match Rs.es.find? (λR=>R.is Γ a e) with
   | some R=>R.run r Γ C a e
   | none=>λ_=>bad))
  cases c:Rs.es.find? (λR=>R.is Γ a e) with
  | none=>exact f8
  | some b=>exact b.ok e R d h (by have:=MO c;exact this)
 ·rw[<- h.K];show PT X e (tBo X.K T.cl (xOf X) (match Rs.ts.find? (λR=>R.is Γ a e) with
   | some R=>R.run r Γ C a e
   | none=>λ_=>bad))
  cases c:Rs.ts.find? (λR=>R.is Γ a e) with
  | none=>exact gv
  | some b=>exact b.ok e R d h (by have:=MO c;exact this)
 ·rw[<- h.K];show PS X e (sD X.K T.cl (xOf X) (match Rs.ss.find? (λR=>R.is Γ a e) with
   | some R=>R.run r Γ C a e
   | none=>λ_=>bad))
  cases f:Rs.ss.find? (λR=>R.is Γ a e) with
  | none=>exact N8
  | some b=>exact b.ok e R d h c (by have:=MO f;exact this)
 ·rw[<- h.K];show PI X g e (tIt X.K T.cl (xOf X) (match Rs.is.find? (λR=>R.is Γ a g e) with
   | some R=>R.run r Γ C a e
   | none=>λ_=>bad))
  cases c:Rs.is.find? (λR=>R.is Γ a g e) with
  | none=>exact lR
  | some b=>exact b.ok g e R d h (by have:=MO c;exact this)
theorem qX:EvOk T k badEv:=⟨λa X h e=>by rw[<- h.K];exact f8,λa X h e=>by rw[<- h.K];exact gv,λa X h _ st=>by rw[<- h.K];exact N8,λa X h g e=>by rw[<- h.K];exact lR⟩
theorem pU(a:TxOk T Γ k C):∀n,EvOk T k (ev Rs Γ C n)
 | 0=>qX
 | n+1=>xC a (pU a n)
theorem xT(h:EqK r q):EqK (step Rs Γ C r) (zU Rs Γ C q):=by
 refine⟨λa e ρ _ k=>?_,λa e ρ _ k=>?_,λa e ρ _ k=>?_,λa g e ρ _ k=>?_⟩
 ·show(match Rs.es.find? (λR=>R.is Γ a e) with
   | some R=>R.runK q Γ C a e ρ k
   | none=>bad)=bind ((match Rs.es.find? (λ(R:RuE)=>R.is Γ a e) with
   | some R=>R.run r Γ C a e
   | none=>λ_=>bad) ρ) k
  cases Rs.es.find? (λR=>R.is Γ a e) with
  | none=>rfl
  | some b=>exact b.eq e ρ k h
 ·show(match Rs.ts.find? (λR=>R.is Γ a e) with
   | some R=>R.runK q Γ C a e ρ k
   | none=>bad)=bind ((match Rs.ts.find? (λ(R:RuT)=>R.is Γ a e) with
   | some R=>R.run r Γ C a e
   | none=>λ_=>bad) ρ) k
  cases Rs.ts.find? (λR=>R.is Γ a e) with
  | none=>rfl
  | some b=>exact b.eq e ρ k h
 ·show(match Rs.ss.find? (λR=>R.is Γ a e) with
   | some R=>R.runK q Γ C a e ρ k
   | none=>bad)=bind ((match Rs.ss.find? (λ(R:RuS)=>R.is Γ a e) with
   | some R=>R.run r Γ C a e
   | none=>λ_=>bad) ρ) k
  cases Rs.ss.find? (λR=>R.is Γ a e) with
  | none=>rfl
  | some b=>exact b.eq e ρ k h
 ·show(match Rs.is.find? (λR=>R.is Γ a g e) with
   | some R=>R.runK q Γ C a e ρ k
   | none=>bad)=bind ((match Rs.is.find? (λ(R:RuI)=>R.is Γ a g e) with
   | some R=>R.run r Γ C a e
   | none=>λ_=>bad) ρ) k
  cases Rs.is.find? (λR=>R.is Γ a g e) with
  | none=>rfl
  | some b=>exact b.eq e ρ k h
theorem zb:∀n,EqK (ev Rs Γ C n) (evK Rs Γ C n)
 | 0=>⟨λ_ _ _ _ _=>rfl,λ_ _ _ _ _=>rfl,λ_ _ _ _ _=>rfl,λ_ _ _ _ _ _=>rfl⟩
 | n+1=>xT (zb n)
end
section
variable (r:Ev)(q:EvK)(lc:Lc)
def w6:List Expr->Env->M (List D)
 | [],_=>ret []
 | e::es,ρ=>bind (r.e lc e ρ) λd=>bind (w6 es ρ) λds=>ret (d::ds)
def A7{a:Type}:List Expr->Env->(List D->M a)->M a
 | [],_,k=>k []
 | e::es,ρ,k=>q.e lc e ρ λd=>A7 es ρ λds=>k (d::ds)
def P0:List Stmt->Env->M Fl
 | [],ρ=>ret (.nx ρ)
 | st::a,ρ=>Gw (r.s lc st) (P0 a) ρ
def i7{d:Type}:List Stmt->Env->(Fl->M d)->M d
 | [],ρ,k=>k (.nx ρ)
 | st::a,ρ,k=>q.s lc st ρ λb=>match b with
  | .nx c=>i7 a c k
  | b=>k b
end
section
variable {T:Tx}{k:Nat}{r:Ev}{q:EvK}{Γ:Gm}{C:Cf}{lc:Lc}{X:Cx}{pos:Pos}
theorem n8(h:EqK r q):∀(es:List Expr)(ρ:Env){a:Type}(k:List D->M a),A7 q lc es ρ k=bind (w6 r lc es ρ) k
 | [],_,_,_=>rfl
 | e::es,ρ,_,k=>by
  show q.e lc e ρ (λd=>A7 q lc es ρ λds=>k (d::ds))=bind (bind (r.e lc e ρ) λd=>bind (w6 r lc es ρ) λds=>ret (d::ds)) k;rw[h.e,bind_assoc];congr;funext d;rw[n8 h,bind_assoc];rfl
theorem U7(h:EqK r q):∀(sts:List Stmt)(ρ:Env){α:Type}(k:Fl->M α),i7 q lc sts ρ k=bind (P0 r lc sts ρ) k
 | [],_,_,_=>rfl
 | st::sts,ρ,_,k=>by
  show(q.s lc st ρ λfl=>match fl with
   | .nx ρ'=>i7 q lc sts ρ' k
   | fl=>k fl)=bind (bind (r.s lc st ρ) λfl=>match fl with
   | .nx ρ'=>P0 r lc sts ρ'
   | fl=>ret fl) k
  rw[h.s,bind_assoc];congr;funext fl;cases fl with
  | nx ρ'=>exact U7 h sts ρ' k
  | bk ρ'=>rfl
  | ct ρ'=>rfl
  | rt d=>rfl
theorem p0(R:EvOk T k r)(h:CxOk T k lc X):∀{es:List Expr},es.all noStar=true->PA X es (tDs X.K T.cl (xOf X) (w6 r lc es))
 | [],_=>vV
 | e::es,hs=>by
  rw[Kt,Jp]at hs;exact oT (R.ex h e) (p0 R h hs.2) hs.1
theorem K7(R:EvOk T k r)(h:CxOk T k lc X)(b:lc.fr=true):∀{a:List Stmt},PSs X a (sD X.K T.cl (xOf X) (P0 r lc a))
 | []=>tG
 | st::a=>vc (R.sx h b st) (K7 R h b)
end
structure Vw(α V:Type) where
 to:V->α
 get:(e:α)->Option {v:V // e=to v}
section
variable {α β γ δ:Type}
def vI:Vw α α:=⟨id,λe=>some ⟨e,rfl⟩⟩
def Vw.at(a:Vw α β)(b:Vw β γ):Vw α γ:=⟨λv=>a.to (b.to v),λe=>(a.get e).bind λx=>(b.get x.1).map λy=>⟨y.1,x.2.trans (congrArg a.to y.2)⟩⟩
def Vw.pr(a:Vw α β)(b:Vw γ δ):Vw (α×γ) (β×δ):=⟨λv=>(a.to v.1,b.to v.2),λe=>(a.get e.1).bind λx=>(b.get e.2).map λy=>⟨(x.1,y.1),Prod.ext x.2 y.2⟩⟩
def vE[DecidableEq α](c:α):Vw α Unit:=⟨λ_=>c,λe=>if h:e=c then some ⟨(),h⟩else none⟩
def v0:Vw (List α) Unit:=⟨λ_=>[],λe=>match e with | []=>some ⟨(),rfl⟩ | _=>none⟩
def vC:Vw (List α) (α×List α):=⟨λv=>v.1::v.2,λe=>match e with | a::b=>some ⟨(a,b),rfl⟩ | _=>none⟩
def v1:Vw (List α) α:=⟨λv=>[v],λe=>match e with | [a]=>some ⟨a,rfl⟩ | _=>none⟩
def v2:Vw (List α) (α×α):=⟨λv=>[v.1,v.2],λe=>match e with | [a,b]=>some ⟨(a,b),rfl⟩ | _=>none⟩
def v3:Vw (List α) (α×α×α):=⟨λv=>[v.1,v.2.1,v.2.2],λe=>match e with | [a,b,c]=>some ⟨(a,b,c),rfl⟩ | _=>none⟩
def vN:Vw (Option α) Unit:=⟨λ_=>none,λe=>match e with | none=>some ⟨(),rfl⟩ | _=>none⟩
def vS:Vw (Option α) α:=⟨some,λe=>match e with | some v=>some ⟨v,rfl⟩ | _=>none⟩
end
def vG:Vw Comprehension (Expr×Expr×List Expr):=⟨λv=>⟨v.1,v.2.1,v.2.2,0⟩,λe=>match e with | ⟨a,b,c,d⟩=>if h:d=0 then some ⟨(a,b,c),h▸rfl⟩else none⟩
def vName:Vw Expr (Str×Pos):=⟨λv=>.Name v.1 v.2,λe=>match e with | .Name a b=>some ⟨(a,b),rfl⟩ | _=>none⟩
def vCall:Vw Expr (Expr×List Expr×List Keyword×Pos):=⟨λv=>.Call v.1 v.2.1 v.2.2.1 v.2.2.2,λe=>match e with | .Call a b c d=>some ⟨(a,b,c,d),rfl⟩ | _=>none⟩
def vListComp:Vw Expr (Expr×List Comprehension×Scope×Pos):=⟨λv=>.ListComp v.1 v.2.1 v.2.2.1 v.2.2.2,λe=>match e with | .ListComp a b c d=>some ⟨(a,b,c,d),rfl⟩ | _=>none⟩
def vDictComp:Vw Expr (Expr×Expr×List Comprehension×Scope×Pos):=⟨λv=>.DictComp v.1 v.2.1 v.2.2.1 v.2.2.2.1 v.2.2.2.2,λe=>match e with | .DictComp a b c d f=>some ⟨(a,b,c,d,f),rfl⟩ | _=>none⟩
def vTuple:Vw Expr (List Expr×Nat×Pos):=⟨λv=>.Tuple v.1 v.2.1 v.2.2,λe=>match e with | .Tuple a b c=>some ⟨(a,b,c),rfl⟩ | _=>none⟩
def vCompare:Vw Expr (Expr×List CmpOp×List Expr×Pos):=⟨λv=>.Compare v.1 v.2.1 v.2.2.1 v.2.2.2,λe=>match e with | .Compare a b c d=>some ⟨(a,b,c,d),rfl⟩ | _=>none⟩
def vAttribute:Vw Expr (Expr×Str×Pos):=⟨λv=>.Attribute v.1 v.2.1 v.2.2,λe=>match e with | .Attribute a b c=>some ⟨(a,b,c),rfl⟩ | _=>none⟩
def vAssign:Vw Stmt (List Expr×Expr×Pos):=⟨λv=>.Assign v.1 v.2.1 v.2.2,λe=>match e with | .Assign a b c=>some ⟨(a,b,c),rfl⟩ | _=>none⟩
def vReturn:Vw Stmt (Option Expr×Pos):=⟨λv=>.Return v.1 v.2,λe=>match e with | .Return a b=>some ⟨(a,b),rfl⟩ | _=>none⟩
def vRaise:Vw Stmt (Option Expr×Option Expr×Pos):=⟨λv=>.Raise v.1 v.2.1 v.2.2,λe=>match e with | .Raise a b c=>some ⟨(a,b,c),rfl⟩ | _=>none⟩
def vAugAssign:Vw Stmt (Expr×Operator×Expr×Pos):=⟨λv=>.AugAssign v.1 v.2.1 v.2.2.1 v.2.2.2,λe=>match e with | .AugAssign a b c d=>some ⟨(a,b,c,d),rfl⟩ | _=>none⟩
def vUnaryOp:Vw Expr (UnaryOp×Expr×Pos):=⟨λv=>.UnaryOp v.1 v.2.1 v.2.2,λe=>match e with | .UnaryOp a b c=>some ⟨(a,b,c),rfl⟩ | _=>none⟩
def vSlice:Vw Expr (Option Expr×Option Expr×Option Expr×Pos):=⟨λv=>.Slice v.1 v.2.1 v.2.2.1 v.2.2.2,λe=>match e with | .Slice a b c d=>some ⟨(a,b,c,d),rfl⟩ | _=>none⟩
def vList:Vw Expr (List Expr×Pos):=⟨λv=>.List v.1 v.2,λe=>match e with | .List a b=>some ⟨(a,b),rfl⟩ | _=>none⟩
def vFor:Vw Stmt (Expr×Expr×List Stmt×List Stmt×Pos):=⟨λv=>.For v.1 v.2.1 v.2.2.1 v.2.2.2.1 v.2.2.2.2,λe=>match e with | .For a b c d f=>some ⟨(a,b,c,d,f),rfl⟩ | _=>none⟩
def vWhile:Vw Stmt (Expr×List Stmt×List Stmt×Pos):=⟨λv=>.While v.1 v.2.1 v.2.2.1 v.2.2.2,λe=>match e with | .While a b c d=>some ⟨(a,b,c,d),rfl⟩ | _=>none⟩
def vSubscript:Vw Expr (Expr×Expr×Pos):=⟨λv=>.Subscript v.1 v.2.1 v.2.2,λe=>match e with | .Subscript a b c=>some ⟨(a,b,c),rfl⟩ | _=>none⟩
def vTry:Vw Stmt (List Stmt×List ExceptHandler×List Stmt×List Stmt×Pos):=⟨λv=>.Try v.1 v.2.1 v.2.2.1 v.2.2.2.1 v.2.2.2.2,λe=>match e with | .Try a b c d f=>some ⟨(a,b,c,d,f),rfl⟩ | _=>none⟩
def vExc:Vw ExceptHandler (Option Expr×Option Str×List Stmt×Pos):=⟨λv=>.ExceptHandler v.1 v.2.1 v.2.2.1 v.2.2.2,λe=>match e with | .ExceptHandler a b c d=>some ⟨(a,b,c,d),rfl⟩⟩
def Vw.o{α V U:Type}(w:Vw α V)(f:V->U)(e:α):Option U:=(w.get e).map λv=>f v.1
theorem Vw.o_ok{α V U:Type}{w:Vw α V}{f:V->U}{e:α}{u:U}(h:w.o f e=some u):∃v,e=w.to v/\u=f v:=by
 obtain⟨v,_,rfl⟩:=Ks.1 h;exact⟨v.1,v.2,rfl⟩
def vF{V:Type}(b:Vw (List Expr) V):Vw Expr ((Str×Pos)×V×Pos):=⟨λv=>.Call (.Name v.1.1 v.1.2) (b.to v.2.1) [] v.2.2,λe=>((vCall.at (vName.pr (b.pr (v0.pr vI)))).get e).map λv=>⟨(v.1.1,v.1.2.1,v.1.2.2.2),v.2⟩⟩
section
variable {V:Type}
def RuE.of(w:Vw Expr V)(is:Gm->Lc->V->Bool)(run:Ev->Gm->Cf->Lc->V->Env->M D)(runK:EvK->Gm->Cf->Lc->V->Env->∀{α:Type},(D->M α)->M α)
  (ok:∀{T:Tx}{k:Nat}{r:Ev}{Γ:Gm}{C:Cf}{lc:Lc}{X:Cx}(v:V),EvOk T k r->TxOk T Γ k C->CxOk T k lc X->is Γ lc v=true->PE X (w.to v) (tD X.K T.cl (xOf X) (run r Γ C lc v)))
  (eq:∀{r:Ev}{q:EvK}{Γ:Gm}{C:Cf}{lc:Lc}(v:V)(ρ:Env){α:Type}(k:D->M α),EqK r q->runK q Γ C lc v ρ k=bind (run r Γ C lc v ρ) k):RuE where
 is Γ lc e:=match w.get e with
  | some v=>is Γ lc v.1
  | none=>false
 run r Γ C lc e:=match w.get e with
  | some v=>run r Γ C lc v.1
  | none=>λ_=>bad
 ok e R TX h hi:=by
  revert hi;rcases w.get e with _ | ⟨v,rfl⟩
  ·intro hi;ext hi
  ·exact ok v R TX h
 runK q Γ C lc e ρ _ k:=match w.get e with
  | some v=>runK q Γ C lc v.1 ρ k
  | none=>bad
 eq e ρ _ k h:=by
  cases w.get e with
  | none=>rfl
  | some v=>exact eq v.1 ρ k h
def RuT.of(w:Vw Expr V)(is:Gm->Lc->V->Bool)(run:Ev->Gm->Cf->Lc->V->Env->M Bool)(runK:EvK->Gm->Cf->Lc->V->Env->∀{α:Type},(Bool->M α)->M α)
  (ok:∀{T:Tx}{k:Nat}{r:Ev}{Γ:Gm}{C:Cf}{lc:Lc}{X:Cx}(v:V),EvOk T k r->TxOk T Γ k C->CxOk T k lc X->is Γ lc v=true->PT X (w.to v) (tBo X.K T.cl (xOf X) (run r Γ C lc v)))
  (eq:∀{r:Ev}{q:EvK}{Γ:Gm}{C:Cf}{lc:Lc}(v:V)(ρ:Env){α:Type}(k:Bool->M α),EqK r q->runK q Γ C lc v ρ k=bind (run r Γ C lc v ρ) k):RuT where
 is Γ lc e:=match w.get e with
  | some v=>is Γ lc v.1
  | none=>false
 run r Γ C lc e:=match w.get e with
  | some v=>run r Γ C lc v.1
  | none=>λ_=>bad
 ok e R TX h hi:=by
  revert hi;rcases w.get e with _ | ⟨v,rfl⟩
  ·intro hi;ext hi
  ·exact ok v R TX h
 runK q Γ C lc e ρ _ k:=match w.get e with
  | some v=>runK q Γ C lc v.1 ρ k
  | none=>bad
 eq e ρ _ k h:=by
  cases w.get e with
  | none=>rfl
  | some v=>exact eq v.1 ρ k h
def RuS.of(w:Vw Stmt V)(is:Gm->Lc->V->Bool)(run:Ev->Gm->Cf->Lc->V->Env->M Fl)(runK:EvK->Gm->Cf->Lc->V->Env->∀{α:Type},(Fl->M α)->M α)
  (ok:∀{T:Tx}{k:Nat}{r:Ev}{Γ:Gm}{C:Cf}{lc:Lc}{X:Cx}(v:V),EvOk T k r->TxOk T Γ k C->CxOk T k lc X->lc.fr=true->is Γ lc v=true->PS X (w.to v) (sD X.K T.cl (xOf X) (run r Γ C lc v)))
  (eq:∀{r:Ev}{q:EvK}{Γ:Gm}{C:Cf}{lc:Lc}(v:V)(ρ:Env){α:Type}(k:Fl->M α),EqK r q->runK q Γ C lc v ρ k=bind (run r Γ C lc v ρ) k):RuS where
 is Γ lc e:=match w.get e with
  | some v=>is Γ lc v.1
  | none=>false
 run r Γ C lc e:=match w.get e with
  | some v=>run r Γ C lc v.1
  | none=>λ_=>bad
 ok e R TX h hf hi:=by
  revert hi;rcases w.get e with _ | ⟨v,rfl⟩
  ·intro hi;ext hi
  ·exact ok v R TX h hf
 runK q Γ C lc e ρ _ k:=match w.get e with
  | some v=>runK q Γ C lc v.1 ρ k
  | none=>bad
 eq e ρ _ k h:=by
  cases w.get e with
  | none=>rfl
  | some v=>exact eq v.1 ρ k h
end
def At(c:Const):M D:=match c with
 | .int i=>ret (.int i)
 | .bool b=>ret (.bl b)
 | .none=>ret .non
 | .str x=>ret (.str x)
 | _=>bad
def Bu{a:Type}(c:Const)(k:D->M a):M a:=match c with
 | .int i=>k (.int i)
 | .bool b=>k (.bl b)
 | .none=>k .non
 | .str x=>k (.str x)
 | _=>bad
def BR:RuE where
 is _ _ e:=match e with
  | .Constant _ _ _=>true
  | _=>false
 run _ _ _ _ e _:=match e with
  | .Constant c _ _=>At c
  | _=>bad
 ok e R TX h hi:=by
  cases e with
  | Constant c n p=>
   ext c <;> first
    | exact G6 Ae λ_ _=>.int _
    | exact G6 ES λ_ _=>.bl _
    | exact G6 BX λ_ _=>.non
    | exact G6 CS λ_ _=>.str _
    | exact f8
  | _=>exact f8
 runK _ _ _ _ e _ _ k:=match e with
  | .Constant c _ _=>Bu c k
  | _=>bad
 eq e ρ _ k h:=by
  cases e with
  | Constant c n p=>ext c <;> rfl
  | _=>rfl
def fK(Γ:Gm)(a:Lc)(x:Str)(ρ:Env):M D:=match e8 a.N x with
 | some i=>if oj a.sc x=true then getD i ρ else bad
 | none=>if glB a.sc x=true then (match Γ.gl.lookup x with
  | some (.val d)=>ret d
  | _=>bad)else bad
def HJ{a:Type}(i:Nat)(ρ:Env)(k:D->M a):M a:=match ρ[i]? with
 | some (some d)=>k d
 | _=>bad
def oN{b:Type}(Γ:Gm)(a:Lc)(x:Str)(ρ:Env)(k:D->M b):M b:=match e8 a.N x with
 | some i=>if oj a.sc x=true then HJ i ρ k else bad
 | none=>if glB a.sc x=true then (match Γ.gl.lookup x with
  | some (.val d)=>k d
  | _=>bad)else bad
theorem vq{Γ:Gm}{C:Cf}{lc:Lc}{X:Cx}{pos:Pos}(TX:TxOk T Γ k C)(h:CxOk T k lc X){x:Str}(hn:m9 x=true):PE X (.Name x pos) (tD X.K T.cl (xOf X) (fK Γ lc x)):=by
 unfold fK;obtain⟨n1,n2,n3⟩:=n9 hn;cases e:e8 lc.N x with
 | some i=>
  by_cases hv:oj lc.sc x=true
  ·simp only[if_pos hv];exact Aq (tR (by rw[h.N];exact k0 e) (by rw[h.sc];exact vi hv) n1 n2)
  ·simp only[if_neg hv];exact f8
 | none=>
  by_cases hv:glB lc.sc x=true
  ·simp only[if_pos hv];cases e2:Γ.gl.lookup x with
   | none=>exact f8
   | some g=>
    cases g with
    | val d=>
     obtain⟨u,v,e3,rv,rd⟩:=TX.val x d e2;exact G6 (Y7 (h.gl hv) (by rw[h.mg];exact e3) rv n1) λμ H=>by rw[h.K];exact rd μ H
    | fn i n=>exact f8
    | err c fs=>exact f8
    | dct kvs=>exact f8
  ·simp only[if_neg hv];exact f8
theorem xH(Γ:Gm)(a:Lc)(x:Str)(ρ:Env){b:Type}(k:D->M b):oN Γ a x ρ k=bind (fK Γ a x ρ) k:=by
 unfold oN fK;cases e8 a.N x with
 | some i=>
  simp only[];split
  ·unfold HJ getD;cases ρ[i]? with
   | none=>rfl
   | some o=>ext o <;> rfl
  ·rfl
 | none=>
  simp only[];split
  ·cases Γ.gl.lookup x with
   | none=>rfl
   | some g=>ext g <;> rfl
  ·rfl
def Fg:RuE where
 is _ _ e:=match e with
  | .Name x _=>m9 x
  | _=>false
 run _ Γ _ lc e ρ:=match e with
  | .Name x _=>fK Γ lc x ρ
  | _=>bad
 ok e R TX h hi:=by
  cases e with
  | Name x p=>exact vq TX h hi
  | _=>exact f8
 runK _ Γ _ lc e ρ _ k:=match e with
  | .Name x _=>oN Γ lc x ρ k
  | _=>bad
 eq e ρ _ k h:=by
  cases e with
  | Name x p=>exact xH _ _ x ρ k
  | _=>rfl
def CY(op:Operator):D->D->M D:=match op with
 | .Add=>o9
 | .Sub=>eO
 | .Mult=>C3
 | .Mod=>O0
 | .FloorDiv=>B0
 | .Pow=>xw
 | _=>λ_ _=>bad
def b7(op:CmpOp):D->D->M D:=match op with
 | .Eq=>eqD false
 | .NotEq=>eqD true
 | .Lt=>tX λi j=>decide (i<j)
 | .LtE=>tX λi j=>decide (i<=j)
 | .Gt=>tX λi j=>decide (j<i)
 | .GtE=>tX λi j=>decide (j<=i)
 | .In=>inD false
 | .NotIn=>inD true
 | .Is=>isD false
 | .IsNot=>isD true
theorem Cj{X:Cx}{cl:ClW}{xe:Addr->Hp->Prop}(op:Operator):OpR X (binaryOp op) (rP2 X.K cl xe (CY op)):=by
 ext op <;> first
  | exact Hj
  | exact GJ
  | exact Fa
  | exact GK
  | exact Ai
  | exact Gp
  | exact λπ s g H x y v u Q I c f ⟨μ,S,d,e,b,h,a,p⟩=>p.elim
theorem tM{T:Tx}{k:Nat}{a:Lc}{X:Cx}{cl:ClW}{xe:Addr->Hp->Prop}(h:CxOk T k a X)(op:CmpOp):OpR X (compareOp op) (rP2 X.K cl xe (b7 op)):=by
 ext op
 case Eq=>exact IV h.u64
 case NotEq=>exact Hq h.u64
 case Lt=>exact lI Gv
 case LtE=>exact lI Eo
 case Gt=>exact lI Eh
 case GtE=>exact lI Fy
 case In=>exact EU false h.u80
 case NotIn=>exact EU true h.u80
 case Is=>exact GI false
 case IsNot=>exact GI true
def IJ:RuE where
 is _ _ e:=match e with
  | .BinOp _ _ _ _=>true
  | _=>false
 run r _ _ lc e ρ:=match e with
  | .BinOp a op b _=>bind (r.e lc a ρ) λx=>bind (r.e lc b ρ) λy=>CY op x y
  | _=>bad
 ok e R TX h hi:=by
  cases e with
  | BinOp a op b p=>exact AX (R.ex h _) (R.ex h _) (Cj _)
  | _=>exact f8
 runK q _ _ lc e ρ _ k:=match e with
  | .BinOp a op b _=>q.e lc a ρ λx=>q.e lc b ρ λy=>bind (CY op x y) k
  | _=>bad
 eq e ρ _ k h:=by
  cases e with
  | BinOp a op b p=>simp only[h.e,bind_assoc]
  | _=>rfl
def Ie:RuE:=.of (vUnaryOp.at ((vE .Not).pr vI))
 (λ_ _ ⟨_,_,_⟩=>true)
 (λr _ _ b ⟨_,a,_⟩ ρ=>bind (r.e b a ρ) λd=>bind (i6 d) λk=>ret (.bl (!k)))
 (λq _ _ b ⟨_,a,_⟩ ρ _ k=>q.e b a ρ λd=>bind (i6 d) λc=>k (.bl (!c)))
 (by
  intro T k r Γ C b X ⟨_,g,f⟩ R i h e;show PE X (.UnaryOp .Not g f) _;dsimp only at e;exact Dd (R.ex h _))
 (by
  intro _ _ _ _ _ ⟨_,_,_⟩ ρ _ k h;simp only[h.e,bind_assoc,g8])
def JA:RuE:=.of (vUnaryOp.at ((vE .USub).pr vI))
 (λ_ _ ⟨_,_,_⟩=>true)
 (λr _ _ b ⟨_,a,_⟩ ρ=>bind (r.e b a ρ) pY)
 (λq _ _ b ⟨_,a,_⟩ ρ _ k=>q.e b a ρ λd=>bind (pY d) k)
 (by
  intro T k r Γ C b X ⟨_,f,e⟩ R g h c;show PE X (.UnaryOp .USub f e) _;dsimp only at c;exact DS (R.ex h _))
 (by
  intro _ _ _ _ _ ⟨_,_,_⟩ ρ _ k h;simp only[h.e,bind_assoc])
section
variable (r:Ev)(q:EvK)(lc:Lc)
def uJ:List Expr->Env->M D
 | [],_=>bad
 | [a],ρ=>r.e lc a ρ
 | a::b::es,ρ=>bind (r.e lc a ρ) λd=>bind (i6 d) λq=>if q=true then uJ (b::es) ρ else ret d
def orE:List Expr->Env->M D
 | [],_=>bad
 | [a],ρ=>r.e lc a ρ
 | a::b::es,ρ=>bind (r.e lc a ρ) λd=>bind (i6 d) λq=>if q=true then ret d else orE (b::es) ρ
def wj{e:Type}:List Expr->Env->(D->M e)->M e
 | [],_,_=>bad
 | [a],ρ,k=>q.e lc a ρ k
 | a::b::es,ρ,k=>q.e lc a ρ λd=>bind (i6 d) λc=>if c=true then wj (b::es) ρ k else k d
def orK{e:Type}:List Expr->Env->(D->M e)->M e
 | [],_,_=>bad
 | [a],ρ,k=>q.e lc a ρ k
 | a::b::es,ρ,k=>q.e lc a ρ λd=>bind (i6 d) λc=>if c=true then k d else orK (b::es) ρ k
def qG:List Expr->Env->M Bool
 | [],_=>bad
 | [a],ρ=>r.t lc a ρ
 | a::b::es,ρ=>bind (r.t lc a ρ) λq=>if q=true then qG (b::es) ρ else ret false
def orB:List Expr->Env->M Bool
 | [],_=>bad
 | [a],ρ=>r.t lc a ρ
 | a::b::es,ρ=>bind (r.t lc a ρ) λq=>if q=true then ret true else orB (b::es) ρ
def jS{d:Type}:List Expr->Env->(Bool->M d)->M d
 | [],_,_=>bad
 | [a],ρ,k=>q.t lc a ρ k
 | a::b::es,ρ,k=>q.t lc a ρ λc=>if c=true then jS (b::es) ρ k else k false
def wm{d:Type}:List Expr->Env->(Bool->M d)->M d
 | [],_,_=>bad
 | [a],ρ,k=>q.t lc a ρ k
 | a::b::es,ρ,k=>q.t lc a ρ λc=>if c=true then k true else wm (b::es) ρ k
end
section
variable {T:Tx}{k:Nat}{r:Ev}{q:EvK}{Γ:Gm}{C:Cf}{lc:Lc}{X:Cx}{pos:Pos}
theorem uP(R:EvOk T k r)(h:CxOk T k lc X):∀{es:List Expr},PE X (.BoolOp .And es pos) (tD X.K T.cl (xOf X) (uJ r lc es))
 | []=>f8
 | [a]=>rA (R.ex h a)
 | a::b::es=>Cq (R.ex h a) (uP R h)
theorem zY(R:EvOk T k r)(h:CxOk T k lc X):∀{es:List Expr},PE X (.BoolOp .Or es pos) (tD X.K T.cl (xOf X) (orE r lc es))
 | []=>f8
 | [a]=>rA (R.ex h a)
 | a::b::es=>Go (R.ex h a) (zY R h)
theorem kb(R:EvOk T k r)(h:CxOk T k lc X):∀{es:List Expr},PW X (.BoolOp .And es pos) (tBo X.K T.cl (xOf X) (qG r lc es))
 | []=>pw_bad
 | [a]=>vr (R.tx h a)
 | a::b::es=>BF (R.tx h a) (kb R h)
theorem oa(R:EvOk T k r)(h:CxOk T k lc X):∀{es:List Expr},PW X (.BoolOp .Or es pos) (tBo X.K T.cl (xOf X) (orB r lc es))
 | []=>pw_bad
 | [a]=>Bx (R.tx h a)
 | a::b::es=>Du (R.tx h a) (oa R h)
theorem oq(h:EqK r q):∀(es:List Expr)(ρ:Env){c:Type}(k:D->M c),wj q lc es ρ k=bind (uJ r lc es ρ) k
 | [],_,_,_=>rfl
 | [a],ρ,_,k=>h.e lc a ρ k
 | a::b::es,ρ,_,k=>by simp only[wj,uJ,h.e,bind_assoc,t6,oq h (b::es),g8]
theorem zV(h:EqK r q):∀(es:List Expr)(ρ:Env){c:Type}(k:D->M c),orK q lc es ρ k=bind (orE r lc es ρ) k
 | [],_,_,_=>rfl
 | [a],ρ,_,k=>h.e lc a ρ k
 | a::b::es,ρ,_,k=>by simp only[orK,orE,h.e,bind_assoc,t6,zV h (b::es),g8]
theorem lO(h:EqK r q):∀(es:List Expr)(ρ:Env){c:Type}(k:Bool->M c),jS q lc es ρ k=bind (qG r lc es ρ) k
 | [],_,_,_=>rfl
 | [a],ρ,_,k=>h.t lc a ρ k
 | a::b::es,ρ,_,k=>by simp only[jS,qG,h.t,bind_assoc,t6,lO h (b::es),g8]
theorem nz(h:EqK r q):∀(es:List Expr)(ρ:Env){c:Type}(k:Bool->M c),wm q lc es ρ k=bind (orB r lc es ρ) k
 | [],_,_,_=>rfl
 | [a],ρ,_,k=>h.t lc a ρ k
 | a::b::es,ρ,_,k=>by simp only[wm,orB,h.t,bind_assoc,t6,nz h (b::es),g8]
end
def ED:RuE where
 is _ _ e:=match e with
  | .BoolOp _ _ _=>true
  | _=>false
 run r _ _ lc e ρ:=match e with
  | .BoolOp .And es _=>uJ r lc es ρ
  | .BoolOp .Or es _=>orE r lc es ρ
  | _=>bad
 ok e R TX h hi:=by
  cases e with
  | BoolOp op es p=>ext op;exact uP R h;exact zY R h
  | _=>exact f8
 runK q _ _ lc e ρ _ k:=match e with
  | .BoolOp .And es _=>wj q lc es ρ k
  | .BoolOp .Or es _=>orK q lc es ρ k
  | _=>bad
 eq e ρ _ k h:=by
  cases e with
  | BoolOp op es p=>ext op;exact oq h es ρ k;exact zV h es ρ k
  | _=>rfl
def Hv:RuE:=.of (vCompare.at (vI.pr (v1.pr (v1.pr vI))))
 (λ_ _ ⟨_,_,b,_⟩=>i9 b)
 (λr _ _ c ⟨a,op,b,_⟩ ρ=>bind (r.e c a ρ) λx=>bind (r.e c b ρ) λy=>b7 op x y)
 (λq _ _ c ⟨a,op,b,_⟩ ρ _ k=>q.e c a ρ λx=>q.e c b ρ λy=>bind (b7 op x y) k)
 (by
  intro T k r Γ C c X ⟨i,f,g,e⟩ R j h d;show PE X (.Compare i [f] [g] e) _;dsimp only at d;exact Dn (R.ex h _) (R.ex h _) (tM h _) (cR d))
 (by
  intro _ _ _ _ _ ⟨_,_,_,_⟩ ρ _ k h;simp only[h.e,bind_assoc])
def rIf:RuE where
 is _ _ e:=match e with
  | .IfExp _ _ _ _=>true
  | _=>false
 run r _ _ lc e ρ:=match e with
  | .IfExp c a b _=>bind (r.t lc c ρ) λq=>if q=true then r.e lc a ρ else r.e lc b ρ
  | _=>bad
 ok e R TX h hi:=by
  cases e with
  | IfExp c a b p=>exact GG (R.tx h _) (R.ex h _) (R.ex h _)
  | _=>exact f8
 runK q _ _ lc e ρ _ k:=match e with
  | .IfExp c a b _=>q.t lc c ρ λz=>if z=true then q.e lc a ρ k else q.e lc b ρ k
  | _=>bad
 eq e ρ _ k h:=by
  cases e with
  | IfExp c a b p=>simp only[h.e,h.t,bind_assoc,t6]
  | _=>rfl
def Io:RuE where
 is _ _ e:=match e with
  | .Tuple es _ _=>es.all noStar
  | _=>false
 run r _ _ lc e ρ:=match e with
  | .Tuple es _ _=>bind (w6 r lc es ρ) Cu
  | _=>bad
 ok e R TX h hi:=by
  cases e with
  | Tuple es n p=>exact Av (p0 R h hi)
  | _=>exact f8
 runK q _ _ lc e ρ _ k:=match e with
  | .Tuple es _ _=>A7 q lc es ρ λds=>bind (Cu ds) k
  | _=>bad
 eq e ρ _ k h:=by
  cases e with
  | Tuple es n p=>simp only[n8 h,bind_assoc]
  | _=>rfl
def IS:RuE where
 is _ _ e:=match e with
  | .List es _=>es.all noStar
  | _=>false
 run r _ _ lc e ρ:=match e with
  | .List es _=>bind (w6 r lc es ρ) Af
  | _=>bad
 ok e R TX h hi:=by
  cases e with
  | List es p=>exact BH (p0 R h hi)
  | _=>exact f8
 runK q _ _ lc e ρ _ k:=match e with
  | .List es _=>A7 q lc es ρ λds=>bind (Af ds) k
  | _=>bad
 eq e ρ _ k h:=by
  cases e with
  | List es p=>simp only[n8 h,bind_assoc]
  | _=>rfl
def aZ(r:Ev)(a:Lc):List (Option Expr)->List Expr->List ((Env->M D)×(Env->M D))
 | some k::b,v::vs=>(r.e a k,r.e a v)::aZ r a b vs
 | _,_=>[]
def dI(q:EvK)(c:Lc){d:Type}:List (Option Expr)->List Expr->Env->(List (D×D)->M d)->M d
 | some x::e,v::vs,ρ,k=>q.e c x ρ λa=>q.e c v ρ λb=>dI q c e vs ρ λps=>k ((a,b)::ps)
 | _,_,_,k=>k []
theorem gH(R:EvOk T k r)(h:CxOk T k lc X):∀{a:List (Option Expr)} {vs:List Expr},a.all (·.isSome)=true->a.length=vs.length->PPs X pos a vs ((aZ r lc a vs).map λd=>(tD X.K T.cl (xOf X) d.1,tD X.K T.cl (xOf X) d.2))
 | [],[],_,_=>ww
 | [],_::_,_,b=>by simp at b
 | _::_,[],_,b=>by simp at b
 | none::_,_::_,c,_=>by simp at c
 | some k::a,v::vs,c,b=>sK (R.ex h k) (R.ex h v) (gH R h (by simpa using c) (by simpa using b))
theorem fW(h:EqK r q):∀(c:List (Option Expr)) (vs:List Expr) (ρ:Env) {d:Type} (k:List (D×D)->M d),dI q lc c vs ρ k=bind (B7 (aZ r lc c vs) ρ) k
 | [],_,_,_,_=>rfl
 | none::_,_,_,_,_=>rfl
 | some _::_,[],_,_,_=>rfl
 | some x::c,v::vs,ρ,_,k=>by
  simp only[dI,aZ,B7,h.e,bind_assoc];congr;funext a;congr;funext b;rw[fW h c vs ρ];rfl
def Iv:RuE where
 is _ _ e:=match e with
  | .Dict ks vs _=>ks.all (·.isSome)&&decide (ks.length=vs.length)&&decide (0<ks.length)&&decide (ks.length<=15)
  | _=>false
 run r _ _ lc e ρ:=match e with
  | .Dict ks vs _=>bind (B7 (aZ r lc ks vs) ρ) oU
  | _=>bad
 ok e R TX h hi:=by
  cases e with
  | Dict ks vs p=>
   simp only[Jp,JJ]at hi;exact vH (gH R h hi.1.1.1 hi.1.1.2) hi.1.1.1 hi.1.1.2 (by intro z;rw[z]at hi;simp at hi) hi.2
  | _=>exact f8
 runK q _ _ lc e ρ _ k:=match e with
  | .Dict ks vs _=>dI q lc ks vs ρ λps=>bind (oU ps) k
  | _=>bad
 eq e ρ _ k h:=by
  cases e with
  | Dict ks vs p=>simp only[fW h,bind_assoc]
  | _=>rfl
def rIx:RuE where
 is _ _ e:=match e with
  | .Subscript _ i _=>t8 i
  | _=>false
 run r _ _ lc e ρ:=match e with
  | .Subscript a i _=>bind (r.e lc a ρ) λx=>bind (r.e lc i ρ) λy=>ixD x y
  | _=>bad
 ok e R TX h hi:=by
  cases e with
  | Subscript a i p=>exact zq (R.ex h _) (R.ex h _) (Ds h.u1) (N9 hi)
  | _=>exact f8
 runK q _ _ lc e ρ _ k:=match e with
  | .Subscript a i _=>q.e lc a ρ λx=>q.e lc i ρ λy=>bind (ixD x y) k
  | _=>bad
 eq e ρ _ k h:=by
  cases e with
  | Subscript a i p=>simp only[h.e,bind_assoc]
  | _=>rfl
def fP(r:Ev)(a:Lc)(o:Option Expr)(ρ:Env):M (Option Int):=match o with
 | none=>ret none
 | some e=>bind (r.e a e ρ) gF
def kG(q:EvK)(b:Lc){a:Type}(o:Option Expr)(ρ:Env)(k:Option Int->M a):M a:=match o with
 | none=>k none
 | some e=>q.e b e ρ λd=>bind (gF d) k
theorem yh(h:EqK r q)(o:Option Expr)(ρ:Env){a:Type}(k:Option Int->M a):kG q lc o ρ k=bind (fP r lc o ρ) k:=by
 cases o with
 | none=>rfl
 | some e=>simp only[kG,fP,h.e,bind_assoc]
theorem kE(R:EvOk T k r)(h:CxOk T k lc X){o:Option Expr}:PO X o (tPt X.K T.cl (xOf X) (fP r lc o)):=by
 cases o with
 | none=>exact vW
 | some e=>exact xY (R.ex h e)
def rSl:RuE:=.of (vSubscript.at (vI.pr ((vSlice.at (vI.pr (vI.pr (vN.pr vI)))).pr vI)))
 (λ_ _ ⟨_,⟨_,_,_,_⟩,_⟩=>true)
 (λr _ _ b ⟨a,⟨lo,c,_,_⟩,_⟩ ρ=>bind (r.e b a ρ) λd=>bind (fP r b lo ρ) λl=>bind (fP r b c ρ) λu=>slD d l u)
 (λq _ _ b ⟨a,⟨lo,c,_,_⟩,_⟩ ρ _ k=>q.e b a ρ λd=>kG q b lo ρ λl=>kG q b c ρ λu=>bind (slD d l u) k)
 (by
  intro T k r Γ C b X ⟨j,⟨g,i,_,f⟩,e⟩ R m h c;show PE X (.Subscript j (.Slice g i none f) e) _;dsimp only at c;exact HM (R.ex h _) (kE R h) (kE R h))
 (by
  intro _ _ _ _ _ ⟨_,⟨_,_,_,_⟩,_⟩ ρ _ k h;simp only[h.e,yh h,bind_assoc])
def Iw:RuE:=.of (vSubscript.at (vI.pr ((vSlice.at (vN.pr (vN.pr (vS.pr vI)))).pr vI)))
 (λ_ _ ⟨_,⟨_,_,_,_⟩,_⟩=>true)
 (λr _ _ b ⟨a,⟨_,_,st,_⟩,_⟩ ρ=>bind (r.e b a ρ) λx=>bind (r.e b st ρ) λy=>qB x y)
 (λq _ _ b ⟨a,⟨_,_,st,_⟩,_⟩ ρ _ k=>q.e b a ρ λx=>q.e b st ρ λy=>bind (qB x y) k)
 (by
  intro T k r Γ C b X ⟨g,⟨_,_,e,f⟩,d⟩ R i h c;show PE X (.Subscript g (.Slice none none (some e) f) d) _;dsimp only at c;exact Bs (R.ex h _) (R.ex h _))
 (by
  intro _ _ _ _ _ ⟨_,⟨_,_,_,_⟩,_⟩ ρ _ k h;simp only[h.e,bind_assoc])
def DA:RuT where
 is _ _ e:=match e with
  | .UnaryOp .Not _ _=>true
  | _=>false
 run r _ _ lc e ρ:=match e with
  | .UnaryOp .Not a _=>bind (r.t lc a ρ) λq=>ret (!q)
  | _=>bad
 ok e R TX h hi:=by
  split at hi
  ·exact CK (R.tx h _)
  ·ext hi
 runK q _ _ lc e ρ _ k:=match e with
  | .UnaryOp .Not a _=>q.t lc a ρ λc=>k (!c)
  | _=>bad
 eq e ρ _ k h:=by
  split
  ·simp only[h.t,bind_assoc,g8]
  ·first
   | rfl
   | (rename_i b;split;exact(b _ _ rfl).elim;rfl)
def FX:RuT where
 is _ _ e:=match e with
  | .BoolOp _ _ _=>true
  | _=>false
 run r _ _ lc e ρ:=match e with
  | .BoolOp .And es _=>qG r lc es ρ
  | .BoolOp .Or es _=>orB r lc es ρ
  | _=>bad
 ok e R TX h hi:=by
  cases e with
  | BoolOp op es p=>ext op;exact(kb R h).pt;exact(oa R h).pt
  | _=>exact gv
 runK q _ _ lc e ρ _ k:=match e with
  | .BoolOp .And es _=>jS q lc es ρ k
  | .BoolOp .Or es _=>wm q lc es ρ k
  | _=>bad
 eq e ρ _ k h:=by
  cases e with
  | BoolOp op es p=>ext op;exact lO h es ρ k;exact nz h es ρ k
  | _=>rfl
def IG:RuT where
 is _ _ e:=match e with
  | .Compare _ [_] [b] _=>i9 b
  | _=>false
 run r _ _ lc e ρ:=match e with
  | .Compare a [op] [b] _=>bind (r.e lc a ρ) λx=>bind (r.e lc b ρ) λy=>bind (b7 op x y) asB
  | _=>bad
 ok e R TX h hi:=by
  split at hi
  ·exact CT (R.ex h _) (R.ex h _) (tM h _) (cR hi)
  ·ext hi
 runK q _ _ lc e ρ _ k:=match e with
  | .Compare a [op] [b] _=>q.e lc a ρ λx=>q.e lc b ρ λy=>bind (b7 op x y) λd=>bind (asB d) k
  | _=>bad
 eq e ρ _ k h:=by
  split
  ·simp only[h.e,bind_assoc]
  ·first
   | rfl
   | (rename_i c;split;exact(c _ _ _ _ rfl).elim;rfl)
def CF:RuT where
 is _ _ e:=C8 e
 run r _ _ lc e ρ:=bind (r.e lc e ρ) i6
 ok e R TX h hi:=uW (R.ex h _) hi
 runK q _ _ lc e ρ _ k:=q.e lc e ρ λd=>bind (i6 d) k
 eq e ρ _ k h:=by simp only[h.e,bind_assoc]
def yG(Γ:Gm)(x:Str)(p:Nat->Nat->Bool):Bool:=match Γ.gl.lookup x with
 | some (.fn i n)=>p i n
 | _=>false
theorem ku(h:yG Γ x p=true):∃i n,Γ.gl.lookup x=some (.fn i n)/\p i n=true:=by
 unfold yG at h;grind
def rFn:RuE:=.of (vF vI)
 (λΓ b ⟨⟨x,_⟩,es,_⟩=>m9 x&&glB b.sc x&&es.all noStar&&!quiet b&&yG Γ x λi n=>decide (es.length=n)&&decide (i∉Γ.qs))
 (λr Γ C b ⟨⟨x,_⟩,es,_⟩ ρ=>(match Γ.gl.lookup x with
   | some (.fn i n)=>bind (w6 r b es ρ) λds=>if ds.length=n then C i ds else bad
   | _=>bad))
 (λq Γ C b ⟨⟨x,_⟩,es,_⟩ ρ _ k=>(match Γ.gl.lookup x with
   | some (.fn i n)=>A7 q b es ρ λds=>if ds.length=n then bind (C i ds) k else bad
   | _=>bad))
 (by
  intro T k r Γ C b X ⟨⟨x,p⟩,es,pos⟩ R A h f;show PE X (.Call (.Name x p) es [] pos) _;dsimp only at f;simp only[Jp,Kl]at f;obtain⟨⟨⟨⟨B,t⟩,d⟩,s⟩,w⟩:=f;obtain⟨m,G,H⟩:=n9 B;obtain⟨i,n,u,c⟩:=ku w;simp only[Jp,JJ]at c;obtain⟨a,fd,ps,E,y,D,z,v⟩:=(A.fn x i n u c.2).ex;have F:FnOk X.prog X.w X.K X.mg X.base (CXd X.prog X.w X.K) k a fd ps (spX X.K T.cl n (C i)):=by rw[h.prog,h.w,h.K,h.mg,h.base];exact y
  have j:PySem.W.keepIn X.K (.ref a)=true:=by rw[h.K];exact z
  have l:Binds X.K fd ps []:=by rw[h.K];exact v
  have o:X.mg x=some (.ref a):=by rw[h.mg];exact D
  show PE X _ (tD X.K T.cl (xOf X) λρ=>(match Γ.gl.lookup x with
   | some (.fn i n)=>bind (w6 r b es ρ) λds=>if ds.length=n then C i ds else bad
   | _=>bad))
  rw[u]
  match es,d,c with
  | [],_,c=>
   have:n=0:=c.1.symm;subst this;exact mL F (h.room0 s) (h.gl t) o j l m
  | e::es,d,_=>exact pX F (h.room0 s) (h.gl t) o j l (p0 R h d) m d)
 (by
  intro r q Γ C b ⟨⟨x,p⟩,es,pos⟩ ρ _ k h;dsimp only;cases Γ.gl.lookup x with
  | none=>rfl
  | some g=>ext g <;> first | rfl | simp only[n8 h,bind_assoc,t6,gi])
def me(r:Ev)(Γ:Gm)(a:Lc)(x:Str)(es:List Expr)(ρ:Env):M D:=match Γ.gl.lookup x with
 | some (.err c fs)=>(match fs with
  | []=>bind (w6 r a es ρ) (rf c)
  | [g]=>bind (w6 r a es ρ) (D5 c [g])
  | [g,b]=>bind (w6 r a es ρ) (D5 c [g,b])
  | _=>bad)
 | _=>bad
def yk(q:EvK)(Γ:Gm)(a:Lc)(x:Str)(es:List Expr)(ρ:Env){b:Type}(k:D->M b):M b:=match Γ.gl.lookup x with
 | some (.err c fs)=>(match fs with
  | []=>A7 q a es ρ λds=>bind (rf c ds) k
  | [g]=>A7 q a es ρ λds=>bind (D5 c [g] ds) k
  | [g,d]=>A7 q a es ρ λds=>bind (D5 c [g,d] ds) k
  | _=>bad)
 | _=>bad
theorem rT(h:EqK r q)(x:Str)(es:List Expr)(ρ:Env){α:Type}(k:D->M α):yk q Γ lc x es ρ k=bind (me r Γ lc x es ρ) k:=by
 unfold yk me;cases Γ.gl.lookup x with
 | none=>rfl
 | some g=>
  cases g with
  | err c fs=>
   match fs with
   | []=>simp only[n8 h,bind_assoc]
   | [g]=>simp only[n8 h,bind_assoc]
   | [g,g2]=>simp only[n8 h,bind_assoc]
   | _::_::_::_=>rfl
  | _=>rfl
theorem jy{C:Cf}{lc:Lc}{X:Cx}{x:Str}{p pos:Pos}{e:Expr}{es:List Expr}(R:EvOk T k r)(TX:TxOk T Γ k C)(h:CxOk T k lc X)(c1:m9 x=true)(c2:glB lc.sc x=true)(c3:(e::es).all noStar=true)(c4:quiet lc=false) :
  PE X (.Call (.Name x p) (e::es) [] pos) (tDf X.K T.cl (xOf X) (me r Γ lc x (e::es))):=by
 have bd:PE X (.Call (.Name x p) (e::es) [] pos) (tDf X.K T.cl (xOf X) λρ=>bad):=λ_ _ _ _ _ _ ⟨_,_,_,_,_,z⟩=>z.elim;obtain⟨n1,n2,n3⟩:=n9 c1;have ha:=p0 R h c3;unfold me;cases e1:Γ.gl.lookup x with
 | none=>exact bd
 | some g=>
  cases g with
  | val d=>exact bd
  | fn i n=>exact bd
  | dct kvs=>exact bd
  | err c fs=>
   obtain⟨ea,na⟩:=TX.err x c fs e1;obtain⟨f,fd,ps,g1,g2,g3,g4⟩:=ea.ex;have xc:XC X.K (T.cl c):=by rw[h.K];exact ea.xc
   have hm:X.mg x=some (.ref (T.cl c)):=by rw[h.mg];exact ea.mg_
   have hr:=(h.room0 c4).mono TX.k3;have hi:PySem.W.findIn X.K (.ref (T.cl c)) "__init__" = some (some (.ref f)):=by rw[h.K];exact g1
   have hf:PySem.W.isFn X.K (.ref f)=true:=by rw[h.K];exact g2
   have hb:Binds X.K fd ps []:=by rw[h.K];exact g3
   match fs,g4,na with
   | [],g4,na=>exact oQ xc hi hf (by rw[h.prog,h.w,h.K,h.mg,h.base];exact g4) hr (h.gl c2) hm hb fX ha n1 c3
   | [g],g4,na=>exact oX xc (by rw[h.K];exact na g (by simp)) hi hf (by rw[h.prog,h.w,h.K,h.mg,h.base];exact g4) hr (h.gl c2) hm hb fX ha n1 c3
   | [g,g'],g4,na=>exact pE xc (by rw[h.K];exact na g (by simp)) (by rw[h.K];exact na g' (by simp)) hi hf (by rw[h.prog,h.w,h.K,h.mg,h.base];exact g4) hr (h.gl c2) hm hb fX ha n1 c3
   | _::_::_::_,g4,_=>exact g4.elim
def Cp(Γ:Gm)(x:Str):Bool:=match Γ.gl.lookup x with
 | some (.err _ _)=>true
 | _=>false
def IQ:RuE:=.of (vF vC)
 (λΓ b ⟨⟨x,_⟩,⟨a,es⟩,_⟩=>m9 x&&glB b.sc x&&(a::es).all noStar&&!quiet b&&Cp Γ x)
 (λr Γ C b ⟨⟨x,_⟩,⟨a,es⟩,_⟩ ρ=>me r Γ b x (a::es) ρ)
 (λq Γ C b ⟨⟨x,_⟩,⟨a,es⟩,_⟩ ρ _ k=>yk q Γ b x (a::es) ρ k)
 (by
  intro T k r Γ C b X ⟨⟨g,f⟩,⟨d,j⟩,e⟩ R i h c;show PE X (.Call (.Name g f) (d::j) [] e) _;dsimp only at c;simp only[Jp,Kl]at c;exact PE.unf (jy R i h c.1.1.1.1 c.1.1.1.2 c.1.1.2 c.1.2))
 (by
  intro r q Γ C b ⟨⟨_,_⟩,⟨_,_⟩,_⟩ ρ _ k h;dsimp only;exact rT h _ _ ρ k)
def dE(Γ:Gm)(b:Lc)(x:Str)(a:Expr):Bool:=decide (x = "isinstance")&&(Γ.gl.lookup ("isinstance" : Str)).isNone&&glB b.sc "isinstance" && noStar a
theorem gk(h:dE Γ lc x a=true):x = "isinstance"/\Γ.gl.lookup ("isinstance" : Str)=none/\glB lc.sc "isinstance" = true/\noStar a=true:=by
 simp only[dE,Jp,JJ,Kq]at h;grind
def btys:List (Str×String):=[("int","int"),("bool","bool"),("str","str"),("tuple","tuple"),("list","list"),("dict","dict"),("ValueError","ValueError")]
theorem wt:∀{x:Str}{t:String},btys.lookup x=some t->bootBuiltins x=some (.type t)/\x∈bnames/\(t∈tys\/t = "ValueError"):=by
 intro x t e;have:∀y∈btys,bootBuiltins y.1=some (.type y.2)/\y.1∈bnames/\(y.2∈tys\/y.2 = "ValueError"):=by
  intro y a;simp only[btys,JH,LF,NP]at a;rcases a with rfl | rfl | rfl | rfl | rfl | rfl | rfl <;> exact⟨rfl,by decide,by decide⟩
 exact this _ (L2.mem_of_lookup e)
def HB:RuE:=.of (vF (v2.at (vI.pr vName)))
 (λΓ b ⟨⟨x,_⟩,⟨a,⟨y,_⟩⟩,_⟩=>dE Γ b x a&&m9 y&&glB b.sc y&&(Γ.gl.lookup y).isNone)
 (λr Γ C b ⟨⟨_,_⟩,⟨a,⟨y,_⟩⟩,_⟩ ρ=>(match btys.lookup y with
   | some T=>bind (r.e b a ρ) λd=>if T∈tys then P5 T (λ_=>false) d else ln (λ_=>true) d
   | none=>bad))
 (λq Γ C b ⟨⟨_,_⟩,⟨a,⟨y,_⟩⟩,_⟩ ρ _ k=>(match btys.lookup y with
   | some T=>q.e b a ρ λd=>if T∈tys then bind (P5 T (λ_=>false) d) k else bind (ln (λ_=>true) d) k
   | none=>bad))
 (by
  intro T k r Γ C b X ⟨⟨x,p⟩,⟨a,⟨y,q⟩⟩,pos⟩ R e h j;show PE X (.Call (.Name x p) [a,(.Name y q)] [] pos) _;dsimp only at j;simp only[Jp,Kq]at j;obtain⟨⟨⟨c0,B⟩,w⟩,l⟩:=j;obtain⟨rfl,D,s,n⟩:=gk c0;obtain⟨m,E,z⟩:=n9 B;have o:=e.none h (x:="isinstance") ⋯ D;show PE X _ (tD X.K T.cl (xOf X) λρ=>(match btys.lookup y with
   | some T=>bind (r.e b a ρ) λd=>if T∈tys then P5 T (λ_=>false) d else ln (λ_=>true) d
   | none=>bad))
  cases A:btys.lookup y with
  | none=>exact f8
  | some t=>
   obtain⟨u,v,g⟩:=wt A;by_cases f:t∈tys
   ·have:=jY (pos:=pos) (p:=p) (q:=q) (sx:=λ_=>false) (.inl f) (λc i=>by rw[h.K]at i ⊢;exact e.subT c i t f) (R.ex h a) (h.gl s) o (h.gl w) (e.none h v l) u z m n;simp only[if_pos f]at this ⊢;exact this
   ·rcases g with g | g
    ·exact absurd g f
    ·subst g;have:=jY (pos:=pos) (p:=p) (q:=q) (sx:=λ_=>true) (.inr rfl) (λc i=>by rw[h.K]at i ⊢;exact e.subV c i) (R.ex h a) (h.gl s) o (h.gl w) (e.none h v l) u z m n;simp only[if_neg f]at this ⊢;exact this)
 (by
  intro r q Γ C b ⟨⟨x,p⟩,⟨a,⟨y,q⟩⟩,pos⟩ ρ _ k h;dsimp only;cases btys.lookup y with
  | none=>rfl
  | some T=>simp only[h.e,bind_assoc,t6])
def lS(x:Str)(c:Bool)(Γ:Gm)(b:Lc)(e:Expr):Bool:=match e with
 | .Call (.Name f _) (a::es) [] _=>decide (f=x)&&(a::es).all noStar&&(Γ.gl.lookup x).isNone&&glB b.sc x&&!(c&&quiet b)
 | _=>false
def yn(g:List D->M D)(r:Ev)(b:Lc)(e:Expr)(ρ:Env):M D:=match e with
 | .Call (.Name _ _) (a::es) [] _=>bind (w6 r b (a::es) ρ) g
 | _=>bad
def yJ(g:List D->M D)(q:EvK)(c:Lc)(e:Expr)(ρ:Env){b:Type}(k:D->M b):M b:=match e with
 | .Call (.Name _ _) (a::es) [] _=>A7 q c (a::es) ρ λds=>bind (g ds) k
 | _=>bad
theorem oz(g:List D->M D){r:Ev}{q:EvK}{a:Lc}(e:Expr)(ρ:Env){b:Type}(k:D->M b)(h:EqK r q):yJ g q a e ρ k=bind (yn g r a e ρ) k:=by
 unfold yJ yn;split
 ·simp only[n8 h,bind_assoc]
 ·first
  | rfl
  | (rename_i c;split;exact(c _ _ _ _ _ rfl).elim;rfl)
theorem fQ{c:Bool}{Γ:Gm}{b:Lc}{e:Expr}(h:lS x c Γ b e=true):∃p a es pos,e=.Call (.Name x p) (a::es) [] pos/\(a::es).all noStar=true/\Γ.gl.lookup x=none/\glB b.sc x=true/\(c=true->quiet b=false):=by
 unfold lS at h;split at h
 ·simp only[Jp,JJ,Kq,Kl]at h;obtain⟨⟨⟨⟨rfl,i⟩,g⟩,f⟩,d⟩:=h;refine⟨_,_,_,_,rfl,i,g,f,λz=>?_⟩;rw[z]at d;simpa using d
 ·ext h
def rBf(x:Str)(id:String)(d:Bool)(g:List D->M D)(c:x∈bnames/\x ≠ "__name__"/\(x==("__debug__" : Str))=false) (l:bootBuiltins x=some (.builtin id))
  (n:∀{T:Tx}{k:Nat}{b:Lc}{X:Cx}{cl:ClW}{xe:Addr->Hp->Prop},CxOk T k b X->(d=true->X.calm=true)->k5 X (.builtin id) (rPs X.K cl xe g)):RuE where
 is:=lS x d
 run r _ _ b e ρ:=yn g r b e ρ
 ok {T k r Γ C b X} e R TX h hi:=by
  obtain⟨p,a,es,pos,rfl,f,m,j,i⟩:=fQ hi;exact oy (n h λz=>h.calm (i z)) (h.gl j) (TX.none h c.1 m) l (p0 R h f) c.2.1 c.2.2 f
 runK q _ _ b e ρ _ k:=yJ g q b e ρ k
 eq e ρ _ k h:=oz g e ρ k h
def rBt(x:Str)(id:String)(d:Bool)(g:List D->M D)(c:x∈bnames/\x ≠ "__name__"/\(x==("__debug__" : Str))=false) (l:bootBuiltins x=some (.type id))
  (n:∀{T:Tx}{k:Nat}{b:Lc}{X:Cx}{cl:ClW}{xe:Addr->Hp->Prop},CxOk T k b X->(d=true->X.calm=true)->k5 X (.type id) (rPs X.K cl xe g)):RuE where
 is:=lS x d
 run r _ _ b e ρ:=yn g r b e ρ
 ok {T k r Γ C b X} e R TX h hi:=by
  obtain⟨p,a,es,pos,rfl,f,m,j,i⟩:=fQ hi;exact pq (n h λz=>h.calm (i z)) (h.gl j) (TX.none h c.1 m) l (p0 R h f) c.2.1 c.2.2 f
 runK q _ _ b e ρ _ k:=yJ g q b e ρ k
 eq e ρ _ k h:=oz g e ρ k h
def Hx:RuE:=rBf "len" "len" false (one D2) ⋯ PySem.boot_len λ_ _=>FP
def AU:RuE:=rBt "tuple" "tuple" false (one G5) ⋯ rfl λ_ _=>yc
def JC:RuE:=rBf "any" "any" true (one yw) ⋯ rfl λ_ a=>HV (a rfl)
def Ih:RuE:=rBf "all" "all" true (one qL) ⋯ rfl λ_ a=>Fj (a rfl)
def wB:RuE:=.of (vF (v1.at (vF v1)))
 (λΓ b ⟨⟨x,_⟩,⟨⟨y,_⟩,a,_⟩,_⟩=>decide (x = "list")&&decide (y = "range")&&(Γ.gl.lookup ("list" : Str)).isNone&&(Γ.gl.lookup ("range" : Str)).isNone&&glB b.sc "list" && glB b.sc "range" && !quiet b&&noStar a)
 (λr _ _ b ⟨⟨_,_⟩,⟨⟨_,_⟩,a,_⟩,_⟩ ρ=>bind (r.e b a ρ) L5)
 (λq _ _ b ⟨⟨_,_⟩,⟨⟨_,_⟩,a,_⟩,_⟩ ρ _ k=>q.e b a ρ λd=>bind (L5 d) k)
 (by
  intro T k r Γ C b X ⟨⟨p,o⟩,⟨⟨f,u⟩,t,g⟩,s⟩ R e h c;show PE X (.Call (.Name p o) [(.Call (.Name f u) [t] [] g)] [] s) _;dsimp only at c;simp only[Jp,JJ,Kq,Kl]at c;obtain⟨⟨⟨⟨⟨⟨⟨rfl,rfl⟩,m⟩,n⟩,l⟩,i⟩,j⟩,v⟩:=c;exact lj (h.calm j) (h.gl l) (e.none h ⋯ m) (h.gl i) (e.none h ⋯ n) (R.ex h _) v)
 (by
  intro _ _ _ _ _ ⟨⟨_,_⟩,⟨⟨_,_⟩,_,_⟩,_⟩ ρ _ k h;simp only[h.e,bind_assoc])
def EL(n:Nat)(Γ:Gm)(a:Lc)(e:Expr):Bool:=match (vF vI).get e with
 | some v=>decide (v.1.1.1 = "range")&&decide (v.1.2.1.length=n)&&v.1.2.1.all noStar&&(Γ.gl.lookup ("range" : Str)).isNone&&glB a.sc "range"
 | none=>false
def rgE(n:Nat)(r:Ev)(a:Lc)(e:Expr)(ρ:Env):M (Src×Nat):=match (vF vI).get e with
 | some v=>bind (w6 r a v.1.2.1 ρ) λds=>if ds.length=n then y4 ds else bad
 | none=>bad
def rgK(n:Nat)(q:EvK)(b:Lc)(e:Expr)(ρ:Env){a:Type}(k:Src×Nat->M a):M a:=match (vF vI).get e with
 | some v=>A7 q b v.1.2.1 ρ λds=>if ds.length=n then bind (y4 ds) k else bad
 | none=>bad
theorem FJ(n:Nat){r:Ev}{q:EvK}{a:Lc}(e:Expr)(ρ:Env){b:Type}(k:Src×Nat->M b)(h:EqK r q):rgK n q a e ρ k=bind (rgE n r a e ρ) k:=by
 unfold rgK rgE;cases (vF vI).get e with
 | none=>rfl
 | some v=>simp only[n8 h,bind_assoc,t6,gi]
def yD:RuI where
 is Γ lc _ e:=EL 1 Γ lc e
 run r _ _ lc e ρ:=rgE 1 r lc e ρ
 ok {T k r Γ C lc X} g e R TX h b:=by
  unfold EL at b;unfold rgE;revert b;rcases(vF vI).get e with _ | ⟨⟨⟨f,p⟩,es,pos⟩,rfl⟩ <;> intro b
  ·ext b
  ·simp only[Jp,JJ,Kq]at b;obtain⟨⟨⟨⟨rfl,i⟩,c⟩,j⟩,d⟩:=b
   match es,i,c with
   | [a],_,c=>exact iS (h.gl d) (TX.none h ⋯ j) (p0 R h c) (by simpa using c)
 runK q _ _ lc e ρ _ k:=rgK 1 q lc e ρ k
 eq e ρ _ k h:=FJ 1 e ρ k h
def zd(e:Expr):Bool:=(vTuple.get e).isSome
def Hk:RuI where
 is Γ lc g e:=zd g&&match (vF v1).get e with
  | some v=>decide (v.1.1.1 = "enumerate")&&noStar v.1.2.1&&(Γ.gl.lookup ("enumerate" : Str)).isNone&&glB lc.sc "enumerate"
  | none=>false
 run r _ _ lc e ρ:=match (vF v1).get e with
  | some v=>bind (w6 r lc [v.1.2.1] ρ) λds=>(match ds with
   | [d]=>aL d
   | _=>bad)
  | none=>bad
 ok {T k r Γ C lc X} g e R TX h b:=by
  unfold zd at b;revert b;rcases vTuple.get g with _ | ⟨v,rfl⟩ <;> rcases(vF v1).get e with _ | ⟨⟨⟨f,p⟩,a,pos⟩,rfl⟩ <;> intro b
  ·simp at b
  ·simp at b
  ·simp at b
  ·simp only[Jp,JJ,Kq]at b;obtain⟨-,⟨⟨rfl,c⟩,j⟩,i⟩:=b;exact nu (h.gl i) (TX.none h ⋯ j) (p0 R h (by simpa using c)) c
 runK q _ _ lc e ρ _ k:=match (vF v1).get e with
  | some v=>A7 q lc [v.1.2.1] ρ λds=>(match ds with
   | [d]=>bind (aL d) k
   | _=>bad)
  | none=>bad
 eq e ρ _ k h:=by
  cases (vF v1).get e with
  | none=>rfl
  | some v=>
   simp only[n8 h,bind_assoc];congr;funext ds
   match ds with
   | []=>rfl
   | [_]=>rfl
   | _::_::_=>rfl
def Ho:RuI where
 is _ _ _ _:=true
 run r _ _ lc e ρ:=bind (r.e lc e ρ) j4
 ok g e R TX h hi:=vQ (R.ex h e)
 runK q _ _ lc e ρ _ k:=q.e lc e ρ λd=>bind (j4 d) k
 eq e ρ _ k h:=by simp only[h.e,bind_assoc]
def iY(a b:Scope):Scope:={ a with names:=a.names.map λ(n,k)=>if (k==.free&&b.kind==.function&&b.names.lookup n==some .cell)then (n,NameKind.cell)else (n,k) }
theorem mE(a:Scope)(b:PySem.Env):relabel a b=iY a b.scope:=rfl
def g0(a:Scope):List Str:=(a.names.filter λy=>y.2==.free).map (·.1)
def p9(b:Lc)(a:Scope)(xs:List Str):Bool:=
 decide (a.kind=.function)&&a.names.all (λy=>decide (y.2≠.cell))&&a.names.all (λy=>decide (y.2=.local->a.names.lookup y.1=some .local))
  && a.names.all (λy=>decide (y.2=.free->a.names.lookup y.1=some .free/\(b.sc.names.lookup y.1=some .cell\/b.sc.names.lookup y.1=some .free)))
  && (g0 a).all (λz=>decide (a.names.lookup z=some .free))&&decide ((xs++g0 a).Nodup)&&xs.all (λx=>decide (a.names.lookup x=some .local))&&!quiet b
theorem ff:∀{xs:List α}{ys:List β},e9 f xs=some ys->ys.length=xs.length
 | [],_,e=>by ext e;rfl
 | x::xs,ys,e=>by
  simp only[e9]at e;cases a:f x with
  | none=>rw[a]at e;ext e
  | some y=>
   cases b:e9 f xs with
   | none=>grind
   | some c=>rw[a,b]at e;ext e;simp[ff b]
theorem fh:∀{xs:List α}{ys:List β}{j:Nat}{y:β},e9 f xs=some ys->ys[j]?=some y->∃x,xs[j]?=some x/\f x=some y
 | [],_,_,_,e,h=>by ext e;simp at h
 | x::xs,ys,j,y,e,h=>by
  simp only[e9]at e;cases a:f x with
  | none=>rw[a]at e;ext e
  | some z=>
   cases b:e9 f xs with
   | none=>grind
   | some c=>
    rw[a,b]at e;ext e;cases j with
    | zero=>grind
    | succ j=>simpa using fh b (by simpa using h)
def c8(b:Lc)(a:Scope)(xs:List Str):Lc:=⟨xs++g0 a,iY a b.sc,false,[]⟩
def testsE(r:Ev)(a:Lc)(ifs:List Expr)(ρ:Env):M Bool:=match ifs with
 | []=>ret true
 | [c]=>r.t a c ρ
 | _=>bad
def testsK(q:EvK)(a:Lc)(ifs:List Expr)(ρ:Env):M Bool:=match ifs with
 | []=>ret true
 | [c]=>q.t a c ρ ret
 | _=>bad
theorem tests_eq(h:EqK r q)(ifs:List Expr)(ρ:Env):testsK q lc ifs ρ=testsE r lc ifs ρ:=by
 match ifs with
 | []=>rfl
 | [c]=>simp only[testsK,testsE,h.t,k6]
 | _::_::_=>rfl
section
variable {T:Tx}{k:Nat}{r:Ev}{q:EvK}{Γ:Gm}{C:Cf}{lc:Lc}{X:Cx}
theorem tests_ok(R:EvOk T k r)(h:CxOk T k lc X){ifs:List Expr}:PTL X ifs (tBo X.K T.cl (xOf X) (testsE r lc ifs)):=by
 match ifs with
 | []=>exact mW
 | [c]=>exact wh (R.tx h c)
 | _::_::_=>exact λ_ _ _ _ _ _ ⟨_,_,_,_,_,p⟩=>p.elim
theorem u7(h:CxOk T k lc X){a:Scope}{xs:List Str}{caps:List Nat}(c:p9 lc a xs=true)(d:e9 (e8 lc.N) (g0 a)=some caps):CompText X.N X.env (xs++g0 a) xs.length caps a/\(xs++g0 a).Nodup/\(∀x∈xs,a.names.lookup x=some .local)/\quiet lc=false/\a.kind=.function:=by
 simp only[p9,Jp,JJ,JM,Kl]at c;obtain⟨⟨⟨⟨⟨⟨⟨f,q⟩,t⟩,r⟩,s⟩,m⟩,o⟩,p⟩:=c;refine⟨⟨f,q,t,λy n g=>?_,λj i e=>?_,?_⟩,m,o,p,f⟩
 ·rw[h.sc];exact r y n g
 ·obtain⟨z,b,l⟩:=fh d e;refine⟨z,by rw[h.N];exact k0 l,?_,s z (JL b)⟩;rw[Ka ∅];simpa using b
 ·simp[ff d,Nat.add_comm]
theorem f9(h:CxOk T k lc X)(b:quiet lc=false){a:Scope}{xs:List Str}(c:a.kind=.function)(e:(xs++g0 a).Nodup)(π:List (Addr×Obj))(C:Addr)(d:List Addr)(s:Shared)(H:Hp):CxOk T k (c8 lc a xs) (b6 X π (xs++g0 a) a C d s H):=
 ⟨h.prog,h.w,h.K,h.mg,h.base,rfl,e,by show relabel a X.env=iY a lc.sc;rw[mE,h.sc],λ_=>h.calm b,(by have:=h.room;rw[b]at this;exact this),PassesOwn.never,rfl,c,λz=>Bool.noConfusion z⟩
end
def g7(src:Src)(t:D->M Bool)(f:D->M D):Nat->Nat->List D->M (List D)
 | 0,_,_=>bad
 | m+1,i,es=>λS=>match src i S with
  | none=>.bad
  | some none=>.ok es S
  | some (some d)=>bind (t d) (λb=>if b=true then bind (f d) (λy=>if es.length<sizeLine then g7 src t f m (i+1) (es++[y])else bad)else g7 src t f m (i+1) es) S
theorem R5(src:Src)(t:Env->M Bool)(f:Env->M D)(mk:D->Env):∀m i es,G9 src t f mk m i es=g7 src (λd=>t (mk d)) (λd=>f (mk d)) m i es
 | 0,_,_=>rfl
 | m+1,i,es=>by
  funext S;simp only[G9,g7,R5 src t f mk m]
  all_goals (cases src i S with
  | none=>rfl
  | some o=>ext o <;> rfl)
def J6(r:Ev)(c:Lc)(d:Expr)(x:Str)(e:Pos)(b:Expr)(ifs:List Expr)(a:Scope)(ρ:Env):M (List D):=match e9 (e8 c.N) (g0 a) with
 | some caps=>nx (km caps (r.i c (.Name x e) b) (testsE r (c8 c a [x]) ifs) (r.e (c8 c a [x]) d) ρ)
 | none=>bad
def cv(q:EvK)(c:Lc)(e:Expr)(x:Str)(h:Pos)(b:Expr)(ifs:List Expr)(a:Scope)(ρ:Env){f:Type}(k:List D->M f):M f:=match e9 (e8 c.N) (g0 a) with
 | some caps=>bind (nx (q.i c (.Name x h) b ρ λg=>g7 g.1 (λd=>testsK q (c8 c a [x]) ifs (some d::A9 caps ρ)) (λd=>q.e (c8 c a [x]) e (some d::A9 caps ρ) ret) g.2 0 [])) k
 | none=>bad
theorem fN(h:EqK r q)(c:Expr)(x:Str)(d:Pos)(b:Expr)(ifs:List Expr)(a:Scope)(ρ:Env){e:Type}(k:List D->M e):cv q lc c x d b ifs a ρ k=bind (J6 r lc c x d b ifs a ρ) k:=by
 unfold cv J6;cases e9 (e8 lc.N) (g0 a) with
 | none=>rfl
 | some caps=>simp only[h.i,h.e,k6,tests_eq h,km,R5]
def T8(src:Src)(t:D->M Bool)(a:D->M (Src×Nat))(c:D->D->M Bool)(f:D->D->M D):Nat->Nat->List D->M (List D)
 | 0,_,_=>bad
 | m+1,i,es=>λS=>match src i S with
  | none=>.bad
  | some none=>.ok es S
  | some (some d)=>bind (t d) (λb=>if b=true then bind (a d) (λe=>bind (g7 e.1 (c d) (f d) e.2 0 es) (λes'=>T8 src t a c f m (i+1) es'))else T8 src t a c f m (i+1) es) S
theorem bm(src:Src)(t:Env->M Bool)(b:Env->M (Src×Nat))(e:Env->M Bool)(f:Env->M D)(a:Env):∀m i es,P1 src t b e f a m i es=T8 src (λd=>t (some d::none::a)) (λd=>b (some d::none::a)) (λd c=>e (some d::some c::a)) (λd c=>f (some d::some c::a)) m i es
 | 0,_,_=>rfl
 | m+1,i,es=>by
  funext S;simp only[P1,T8,bm src t b e f a m,R5]
  all_goals (cases src i S with
  | none=>rfl
  | some o=>ext o <;> rfl)
def aA(r:Ev)(c:Lc)(f:Expr)(x y:Str)(g h:Pos)(e b:Expr)(ifs d:List Expr)(a:Scope)(ρ:Env):M (List D):=match e9 (e8 c.N) (g0 a) with
 | some caps=>nx (dB caps (r.i c (.Name x g) e) (testsE r (c8 c a [x,y]) ifs) (r.i (c8 c a [x,y]) (.Name y h) b) (testsE r (c8 c a [x,y]) d) (r.e (c8 c a [x,y]) f) ρ)
 | none=>bad
def hV(q:EvK)(c:Lc)(g:Expr)(x y:Str)(l m:Pos)(f b:Expr)(ifs e:List Expr)(a:Scope)(ρ:Env){i:Type}(k:List D->M i):M i:=match e9 (e8 c.N) (g0 a) with
 | some caps=>bind (nx (q.i c (.Name x l) f ρ λj=>T8 j.1 (λd=>testsK q (c8 c a [x,y]) ifs (some d::none::A9 caps ρ)) (λd=>q.i (c8 c a [x,y]) (.Name y m) b (some d::none::A9 caps ρ) ret) (λd h=>testsK q (c8 c a [x,y]) e (some d::some h::A9 caps ρ)) (λd h=>q.e (c8 c a [x,y]) g (some d::some h::A9 caps ρ) ret) j.2 0 [])) k
 | none=>bad
theorem qK(h:EqK r q)(e:Expr)(x y:Str)(f g:Pos)(d b:Expr)(ifs c:List Expr)(a:Scope)(ρ:Env){i:Type}(k:List D->M i):hV q lc e x y f g d b ifs c a ρ k=bind (aA r lc e x y f g d b ifs c a ρ) k:=by
 unfold hV aA;cases e9 (e8 lc.N) (g0 a) with
 | none=>rfl
 | some caps=>simp only[h.i,h.e,k6,tests_eq h,dB,bm]
def aF(r:Ev)(c:Lc)(d:Expr)(x y:Str)(g e h:Pos)(f:Nat)(b:Expr)(ifs:List Expr)(a:Scope)(ρ:Env):M (List D):=match e9 (e8 c.N) (g0 a) with
 | some caps=>nx (dy caps (r.i c (.Tuple [.Name x g,.Name y e] f h) b) (testsE r (c8 c a [x,y]) ifs) (r.e (c8 c a [x,y]) d) ρ)
 | none=>bad
def iD(q:EvK)(c:Lc)(e:Expr)(x y:Str)(j l i:Pos)(h:Nat)(b:Expr)(ifs:List Expr)(a:Scope)(ρ:Env){f:Type}(k:List D->M f):M f:=match e9 (e8 c.N) (g0 a) with
 | some caps=>bind (nx (q.i c (.Tuple [.Name x j,.Name y l] h i) b ρ λg=>g7 g.1 (λd=>uX (testsK q (c8 c a [x,y]) ifs) (mk2 (A9 caps ρ) d)) (λd=>q.e (c8 c a [x,y]) e (mk2 (A9 caps ρ) d) ret) g.2 0 [])) k
 | none=>bad
theorem uA(h:EqK r q)(c:Expr)(x y:Str)(g i f:Pos)(d:Nat)(b:Expr)(ifs:List Expr)(a:Scope)(ρ:Env){j:Type}(k:List D->M j):iD q lc c x y g i f d b ifs a ρ k=bind (aF r lc c x y g i f d b ifs a ρ) k:=by
 unfold iD aF;cases e9 (e8 lc.N) (g0 a) with
 | none=>rfl
 | some caps=>
  have e:testsK q (c8 lc a [x,y]) ifs=testsE r (c8 lc a [x,y]) ifs:=funext λρ=>tests_eq h ifs ρ;simp only[h.i,h.e,k6,e,dy,R5]
theorem uR(R:EvOk T k r)(h:CxOk T k lc X){c:Expr}{x y:Str}{m g j pos:Pos}{i:Nat}{b:Expr}{ifs:List Expr}{a:Scope}(p:p9 lc a [x,y]=true)(q:i9 b=true) :
  PE X (.ListComp c [⟨.Tuple [.Name x m,.Name y g] i j,b,ifs,0⟩] a pos) (tD X.K T.cl (xOf X) λρ=>bind (aF r lc c x y m g j i b ifs a ρ) λds=>ret (.lst ds)):=by
 unfold aF;cases t:e9 (e8 lc.N) (g0 a) with
 | none=>exact f8
 | some caps=>
  obtain⟨o,e,n,f,l⟩:=u7 h p t;refine eE (mS o (h.calm f) e rfl rfl (n x (by simp)) (n y (by simp)) (PI.x0 (R.ix h _ _)) (λπ C d s H=>?_) (λπ C d s H=>?_) q)
  ·exact PTL.x0 (tests_ok R (f9 h f l e π C d s H))
  ·exact PE.x0 (R.ex (f9 h f l e π C d s H) c)
def BI:RuE:=.of (vListComp.at (vI.pr ((v1.at (vG.at ((vTuple.at ((v2.at (vName.pr vName)).pr vI)).pr vI))).pr vI)))
 (λ_ d ⟨_,⟨⟨⟨⟨x,_⟩,⟨y,_⟩⟩,_,_⟩,b,_⟩,a,_⟩=>p9 d a [x,y]&&i9 b)
 (λr _ _ d ⟨c,⟨⟨⟨⟨x,l⟩,⟨y,g⟩⟩,j,i⟩,b,ifs⟩,a,_⟩ ρ=>bind (aF r d c x y l g i j b ifs a ρ) λds=>ret (.lst ds))
 (λq _ _ d ⟨c,⟨⟨⟨⟨x,l⟩,⟨y,g⟩⟩,j,i⟩,b,ifs⟩,a,_⟩ ρ _ k=>iD q d c x y l g i j b ifs a ρ λds=>k (.lst ds))
 (by
  intro T k r Γ C d X ⟨w,⟨⟨⟨⟨o,p⟩,⟨n,m⟩⟩,z,u⟩,v,s⟩,t,f⟩ R A h e;show PE X (.ListComp w [⟨(.Tuple [(.Name o p),(.Name n m)] z u),v,s,0⟩] t f) _;dsimp only at e;rw[Jp]at e;exact uR R h e.1 e.2)
 (by
  intro _ _ _ _ _ ⟨_,⟨⟨⟨⟨_,_⟩,⟨_,_⟩⟩,_,_⟩,_,_⟩,_,_⟩ ρ _ k h;simp only[uA h,bind_assoc,g8])
def rMt{p:Type}(m:Str)(g:D->M p)(op:D->List D->M D)
  (t:∀{T:Tx} {k:Nat} {d:Lc} {X:Cx} {xe:Addr->Hp->Prop} {o a:Expr} {es:List Expr} {b c:Pos} {f:Env->M D} {fs:Env->M (List D)},CxOk T k d X->PE X o (tD X.K T.cl xe f)->PA X (a::es) (tDs X.K T.cl xe fs)->v8 o=true->(a::es).all noStar=true->E1 (a::es)=true->(b.endLine==c.line)=true->PE X (.Call (.Attribute o m b) (a::es) [] c) (tD X.K T.cl xe λρ=>bind (f ρ) λx=>bind (g x) λ_=>bind (fs ρ) λds=>op x ds)):RuE:=.of (vCall.at (vAttribute.pr (vC.pr (v0.pr vI))))
 (λ_ _ ⟨⟨o,n,b⟩,⟨a,es⟩,_,c⟩=>decide (n=m)&&v8 o&&(a::es).all noStar&&E1 (a::es)&&(b.endLine==c.line))
 (λr _ _ d ⟨⟨o,_,_⟩,⟨a,es⟩,_,_⟩ ρ=>bind (r.e d o ρ) λx=>bind (g x) λ_=>bind (w6 r d (a::es) ρ) λds=>op x ds)
 (λq _ _ d ⟨⟨o,_,_⟩,⟨a,es⟩,_,_⟩ ρ _ k=>q.e d o ρ λx=>bind (g x) λ_=>A7 q d (a::es) ρ λds=>bind (op x ds) k)
 (by
  intro T k r Γ C d X ⟨⟨o,n,b⟩,⟨a,es⟩,_,c⟩ R u h e;simp only[Jp,JJ]at e;obtain⟨⟨⟨⟨rfl,l⟩,i⟩,s⟩,j⟩:=e;exact t h (R.ex h o) (p0 R h i) l i s j)
 (by
  intro _ _ _ _ _ ⟨⟨o,_,_⟩,⟨a,es⟩,_,_⟩ ρ _ k h;simp only[h.e,n8 h,bind_assoc])
def vA:RuE:=rMt "extend" lstOf extD λ_ e a b d f c=>ko Ms PySem.F.slot_list_extend PySem.F.type_list_extend hZ aa sC e a b d f c
def rAppend:RuE:=rMt "append" lstOf bb λ_ e a b d f c=>mY e a b d f c
def Dx:RuS where
 is _ _ e:=match e with
  | .Expr e _=>k9 e
  | _=>false
 run r _ _ lc e ρ:=match e with
  | .Expr e _=>bind (r.e lc e ρ) λ_=>ret (.nx ρ)
  | _=>bad
 ok e R TX h hf hi:=by
  cases e with
  | Expr e p=>exact sP (R.ex h _) hi
  | _=>exact N8
 runK q _ _ lc e ρ _ k:=match e with
  | .Expr e _=>q.e lc e ρ λ_=>k (.nx ρ)
  | _=>bad
 eq e ρ _ k h:=by
  cases e with
  | Expr e p=>simp only[h.e,bind_assoc,g8]
  | _=>rfl
def IZ:RuS:=.of (vReturn.at (vS.pr vI))
 (λ_ _ ⟨_,_⟩=>true)
 (λr _ _ a ⟨e,_⟩ ρ=>bind (r.e a e ρ) λd=>ret (.rt d))
 (λq _ _ a ⟨e,_⟩ ρ _ k=>q.e a e ρ λd=>k (.rt d))
 (by
  intro T k r Γ C a X ⟨f,b⟩ R g h i c;show PS X (.Return (some f) b) _;dsimp only at c;exact ky (R.ex h _))
 (by
  intro _ _ _ _ _ ⟨_,_⟩ ρ _ k h;simp only[h.e,bind_assoc,g8])
def sIf:RuS where
 is _ _ e:=match e with
  | .If _ _ _ _=>true
  | _=>false
 run r _ _ lc e ρ:=match e with
  | .If c a b _=>bind (r.t lc c ρ) λq=>if q=true then P0 r lc a ρ else P0 r lc b ρ
  | _=>bad
 ok e R TX h hf hi:=by
  cases e with
  | If c a b p=>exact Bk (R.tx h _) (K7 R h hf) (K7 R h hf)
  | _=>exact N8
 runK q _ _ lc e ρ _ k:=match e with
  | .If c a b _=>q.t lc c ρ λz=>if z=true then i7 q lc a ρ k else i7 q lc b ρ k
  | _=>bad
 eq e ρ _ k h:=by
  cases e with
  | If c a b p=>simp only[h.t,U7 h,bind_assoc,t6]
  | _=>rfl
def T1(a:Lc)(x:Str):Bool:=(e8 a.N x).isSome&&bg a.sc x
def O6(a:Lc)(x:Str)(ρ:Env)(d:D):M Fl:=match e8 a.N x with
 | some i=>ret (.nx (ρ.set i (some d)))
 | none=>bad
def v9(b:Lc)(x:Str)(ρ:Env)(d:D){a:Type}(k:Fl->M a):M a:=match e8 b.N x with
 | some i=>k (.nx (ρ.set i (some d)))
 | none=>bad
theorem bF(a:Lc)(x:Str)(ρ:Env)(d:D){b:Type}(k:Fl->M b):bind (O6 a x ρ d) k=v9 a x ρ d k:=by
 unfold O6 v9;cases e8 a.N x <;> rfl
theorem sX{x:Str}{p pos:Pos}{e:Expr}{f:Env->M D}(h:CxOk T k lc X)(g:lc.fr=true)(b:T1 lc x=true)(j:PE X e (tD X.K T.cl xe f))(l:k9 e=true):PS X (.Assign [.Name x p] e pos) (sD X.K T.cl xe λρ=>bind (f ρ) (O6 lc x ρ)):=by
 rw[T1,Jp,Kd]at b;obtain⟨⟨i,a⟩,c⟩:=b;have:=wO (pos:=pos) (pos':=p) h.nd' (by rw[h.N];exact k0 a) (by rw[h.sc];exact y7 c) j l (.inl (h.fn1 g));have e:O6 lc x=λρ d=>ret (.nx (ρ.set i (some d))):=by funext ρ d;simp only[O6,a]
 simp_all
def IP:RuS:=.of (vAssign.at ((v1.at vName).pr vI))
 (λ_ a ⟨⟨x,_⟩,e,_⟩=>T1 a x&&k9 e)
 (λr _ _ a ⟨⟨x,_⟩,e,_⟩ ρ=>bind (r.e a e ρ) (O6 a x ρ))
 (λq _ _ a ⟨⟨x,_⟩,e,_⟩ ρ _ k=>q.e a e ρ λd=>v9 a x ρ d k)
 (by
  intro T k r Γ C a X ⟨⟨f,c⟩,g,i⟩ R l h j b;show PS X (.Assign [(.Name f c)] g i) _;dsimp only at b;rw[Jp]at b;exact sX h j b.1 (R.ex h _) b.2)
 (by
  intro _ _ _ _ _ ⟨⟨_,_⟩,_,_⟩ ρ _ k h;simp only[h.e,bind_assoc,bF])
def Ew:RuS:=.of (vAssign.at ((v1.at vName).pr (vList.pr vI)))
 (λ_ a ⟨⟨x,_⟩,⟨es,_⟩,_⟩=>T1 a x&&decide (x∈a.mu)&&es.all noStar)
 (λr _ _ a ⟨⟨x,_⟩,⟨es,_⟩,_⟩ ρ=>bind (bind (w6 r a es ρ) newL) (O6 a x ρ))
 (λq _ _ a ⟨⟨x,_⟩,⟨es,_⟩,_⟩ ρ _ k=>A7 q a es ρ λds=>bind (newL ds) λd=>v9 a x ρ d k)
 (by
  intro T k r Γ C a X ⟨⟨e,c⟩,⟨f,g⟩,j⟩ R l h i b;show PS X (.Assign [(.Name e c)] (.List f g) j) _;dsimp only at b;rw[Jp,Jp]at b;exact sX h i b.1.1 (vM (p0 R h b.2)) rfl)
 (by
  intro _ _ _ _ _ ⟨⟨_,_⟩,⟨_,_⟩,_⟩ ρ _ k h;simp only[n8 h,bind_assoc,bF])
def swB(c:Lc)(b:Expr)(a:Scope)(t:Str)(pos:Pos):Bool:=c.sc.names.lookup t==some .local&&pos.line==b.pos.line&&!(a.names.any λ(n,k)=>n==t&&(k==.local||k==.cell))
theorem zo(h:CxOk T k lc X)(d:Expr)(c:List Comprehension)(a:Scope)(x:Str)(pos' pos b:Pos):swapsWith (.ListComp d c a b) (some (.Name x pos')) pos.line X.env=pure (swB lc (.ListComp d c a b) a x pos'):=by
 show pure (X.env.blockKind==.function&&X.env.kindOf x==some .local&&pos'.line==(Expr.ListComp d c a b).pos.line&&!(a.names.any λ(n,k)=>n==x&&(k==.local||k==.cell)))=_;have f:X.env.blockKind=.function:=by unfold PySem.Env.blockKind;rw[h.sc,h.kd];rfl
 have e:X.env.kindOf x=lc.sc.names.lookup x:=by unfold PySem.Env.kindOf;rw[h.sc]
 rw[f,e];rfl
theorem fj{T:Tx}{k i:Nat}{c:Lc}{X:Cx}{x:Str}{p pos:Pos}{e:Expr}{fs:Env->M (List D)}{xe:Addr->Hp->Prop}(l:e8 c.N x=some i)(h:PS X (.Assign [.Name x p] e pos) (oh (ey X.K T.cl x0 fs) (Z5 i))):PS X (.Assign [.Name x p] e pos) (sD X.K T.cl xe λρ=>bind (bind (nx (fs ρ)) λds=>ret (.lst ds)) (O6 c x ρ)):=PS.imp h λD s H ⟨μ,S,ρ,d,o,p⟩=>
 ⟨μ,S,ρ,d,o,p.bind.bind.nx.imp λds S1 a g r f m q ys n b=>by
  have j:=m.ret a g (Lat.refl _ _) f;simp only[O6,l]at j;exact j.ret a g (Lat.refl _ _) f _ ((d.later r).set (.lst n b) i)⟩
def u4(a:Lc):List Expr->Option (List Nat)
 | []=>some []
 | .Name x _::b=>if bg a.sc x=true then (match e8 a.N x,u4 a b with
   | some i,some c=>some (i::c)
   | _,_=>none)else none
 | _=>none
theorem bG(h:CxOk T k lc X)(hf:lc.fr=true):∀{ts:List Expr}{is:List Nat},u4 lc ts=some is->NamesAt X ts is
 | [],is,e=>by ext e;exact .nil
 | t::ts,is,e=>by
  cases t with
  | Name x p=>
   simp only[u4]at e;by_cases hl:bg lc.sc x=true
   ·simp only[if_pos hl]at e;cases e1:e8 lc.N x with
    | none=>rw[e1]at e;ext e
    | some i=>
     cases e2:u4 lc ts with
     | none=>grind
     | some is'=>
      rw[e1,e2]at e;ext e;exact .cons (by rw[h.N];exact k0 e1) (by rw[h.sc];exact y7 hl) (.inl (h.fn1 hf)) (bG h hf e2)
   ·grind
  | _=>simp only[u4]at e;ext e
def Hu:RuS:=.of (vAssign.at ((v1.at vTuple).pr vI))
 (λ_ a ⟨⟨b,_,_⟩,e,_⟩=>(u4 a b).isSome&&k9 e&&rJ e&&!quiet a)
 (λr _ _ a ⟨⟨b,_,_⟩,e,_⟩ ρ=>(match u4 a b with
   | some c=>bind (r.e a e ρ) λd=>O8 (q4 c) d ρ
   | none=>bad))
 (λq _ _ a ⟨⟨b,_,_⟩,e,_⟩ ρ _ k=>(match u4 a b with
   | some c=>q.e a e ρ λd=>bind (O8 (q4 c) d ρ) k
   | none=>bad))
 (by
  intro T k r Γ C a X ⟨⟨b,n,p⟩,e,pos⟩ R o h g f;show PS X (.Assign [(.Tuple b n p)] e pos) _;dsimp only at f;simp only[Jp,Kl]at f;obtain⟨⟨⟨s,i⟩,l⟩,j⟩:=f;show PS X _ (sD X.K T.cl (xOf X) λρ=>(match u4 a b with
   | some c=>bind (r.e a e ρ) λd=>O8 (q4 c) d ρ
   | none=>bad))
  cases m:u4 a b with
  | none=>exact N8
  | some c=>exact yF (h.calm j) h.nd' (bG h g m) (R.ex h _) i l)
 (by
  intro r q Γ C a ⟨⟨b,n,p⟩,e,pos⟩ ρ _ k h;dsimp only;cases u4 a b with
  | none=>rfl
  | some c=>simp only[h.e,bind_assoc])
def En:RuS:=.of (vAssign.at ((v1.at vSubscript).pr vI))
 (λ_ _ ⟨⟨_,b,_⟩,e,_⟩=>k9 e&&t8 b)
 (λr _ _ c ⟨⟨a,b,_⟩,e,_⟩ ρ=>bind (r.e c e ρ) λv=>bind (r.e c a ρ) λx=>bind (r.e c b ρ) λy=>bind (Q3 x y v) λ_=>ret (.nx ρ))
 (λq _ _ c ⟨⟨a,b,_⟩,e,_⟩ ρ _ k=>q.e c e ρ λv=>q.e c a ρ λx=>q.e c b ρ λy=>bind (Q3 x y v) λ_=>k (.nx ρ))
 (by
  intro T k r Γ C c X ⟨⟨g,f,i⟩,j,l⟩ R m h n d;show PS X (.Assign [(.Subscript g f i)] j l) _;dsimp only at d;rw[Jp]at d;exact si h.u1 (R.ex h _) (R.ex h _) (R.ex h _) d.1 d.2)
 (by
  intro _ _ _ _ _ ⟨⟨_,_,_⟩,_,_⟩ ρ _ k h;simp only[h.e,bind_assoc,g8])
def tgE(a:Lc)(b:Expr):Option (D->Env->Option Env):=match b with
 | .Name x _=>if bg a.sc x=true then (e8 a.N x).map λi=>λd ρ=>some (ρ.set i (some d))else none
 | .Tuple c _ _=>(u4 a c).map q4
 | _=>none
theorem Ep(h:CxOk T k lc X)(d:lc.fr=true)(g:quiet lc=false){b:Expr}{tg:D->Env->Option Env}(e:tgE lc b=some tg):PG X b (xF X.K T.cl tg):=by
 unfold tgE at e;split at e
 ·rename_i x p;by_cases c:bg lc.sc x=true
  ·simp only[if_pos c]at e;cases a:e8 lc.N x with
   | none=>rw[a]at e;ext e
   | some i=>rw[a]at e;ext e;exact nj h.nd' (by rw[h.N];exact k0 a) (by rw[h.sc];exact y7 c) (.inl (h.fn1 d))
  ·grind
 ·rename_i f n p;cases a:u4 lc f with
  | none=>rw[a]at e;ext e
  | some j=>rw[a]at e;ext e;exact jh (h.calm g) h.nd' (bG h d a)
 ·ext e
def Iy:RuS:=.of (vFor.at (vI.pr (vI.pr (vI.pr (v0.pr vI)))))
 (λ_ c ⟨_,a,_,_,_⟩=>i9 a&&!quiet c)
 (λr _ _ c ⟨b,a,body,_,_⟩ ρ=>(match tgE c b with
   | some tg=>bind (r.i c b a ρ) λp=>u0 p.1 tg (P0 r c body) p.2 0 ρ
   | none=>bad))
 (λq _ _ c ⟨b,a,body,_,_⟩ ρ _ k=>(match tgE c b with
   | some tg=>q.i c b a ρ λp=>bind (u0 p.1 tg (λd=>i7 q c body d ret) p.2 0 ρ) k
   | none=>bad))
 (by
  intro T k r Γ C c X ⟨b,a,body,_,pos⟩ R i h g f;show PS X (.For b a body [] pos) _;dsimp only at f;simp only[Jp,Kl]at f;show PS X _ (sD X.K T.cl (xOf X) λρ=>(match tgE c b with
   | some tg=>bind (r.i c b a ρ) λp=>u0 p.1 tg (P0 r c body) p.2 0 ρ
   | none=>bad))
  cases e:tgE c b with
  | none=>exact N8
  | some tg=>exact wV h.po (h.calm f.2) (R.ix h _ _) (Ep h g f.2 e) (K7 R h g) f.1)
 (by
  intro r q Γ C c ⟨b,a,body,_,pos⟩ ρ _ k h;dsimp only;cases tgE c b with
  | none=>rfl
  | some tg=>
   have:(λd=>i7 q c body d ret)=P0 r c body:=funext λd=>by rw[U7 h,k6]
   simp only[h.i,bind_assoc,this])
def E5(t:Env->M Bool)(g:Env->M Fl):Nat->Env->M Fl
 | 0,_=>bad
 | m+1,ρ=>bind (t ρ) λq=>if q=true then bind (g ρ) (λb=>match b with
   | .nx a=>E5 t g m a
   | .ct a=>E5 t g m a
   | .bk a=>ret (.nx a)
   | .rt d=>ret (.rt d))else ret (.nx ρ)
theorem lh{X:Cx}{cl:ClW}{xe:Addr->Hp->Prop}{c:Expr}{body:List Stmt}{pos:Pos}{t:Env->M Bool}{g:Env->M Fl}(n:Nat)(hp:PassesOwn (model X.prog X.w) X.A X.env X.xe)(hc:PT X c (tBo X.K cl xe t))(hb:PSs X body (sD X.K cl xe g)) :
  PS X (.While c body [] pos) (sD X.K cl xe λρ=>E5 t g n ρ):=PS.imp (ot hp hc hb) λD σ H ⟨μ,S,ρ,eo,rp,p⟩=>by
 refine⟨λm σ H=>∃μ2 S2 ρ2,EnvOk X.K μ2 H ρ2 σ/\Rep X.K cl μ2 S2 H/\Post X.K cl xe μ2 H (E5 t g m ρ2 S2) (λfl _ μ' H'=>FlOk X.K D fl μ' H'),⟨n,μ,S,ρ,eo,rp,p⟩,?_⟩;rintro m σ2 H2 ⟨μ2,S2,ρ2,eo2,r2,p2⟩;cases m with
 | zero=>exact p2.elim
 | succ m=>
  refine⟨μ2,S2,ρ2,eo2,r2,p2.bind.imp λq S3 μ3 H3 l3 r3 p3=>?_⟩;cases q with
  | false=>exact p3.ret μ3 H3 (Lat.refl _ _) r3 σ2 (eo2.later l3)
  | true=>
   refine vy ?_;rw[if_pos rfl]at p3;refine⟨λσ' H'=>∃μ4 S4 ρ4,EnvOk X.K μ4 H' ρ4 σ'/\Rep X.K cl μ4 S4 H'/\Post X.K cl xe μ4 H' (E5 t g m ρ4 S4) (λfl _ μ' H'=>FlOk X.K D fl μ' H'),λσ' H' q=>⟨m,Kh _,q⟩,?_⟩;refine⟨μ3,S3,ρ2,eo2.later l3,r3,p3.bind.imp λfl S4 μ4 H4 l4 r4 p4=>?_⟩;cases fl with
   | nx ρ4=>exact λσ4 eo4=>⟨μ4,S4,ρ4,eo4,r4,p4⟩
   | ct ρ4=>exact λσ4 eo4=>⟨μ4,S4,ρ4,eo4,r4,p4⟩
   | bk ρ4=>exact p4.ret μ4 H4 (Lat.refl _ _) r4
   | rt d=>exact p4.ret μ4 H4 (Lat.refl _ _) r4
def BD:RuS:=.of (vWhile.at (vI.pr (vI.pr (v0.pr vI))))
 (λ_ _ ⟨_,_,_,_⟩=>true)
 (λr _ _ b ⟨c,body,_,_⟩ ρ=>E5 (r.t b c) (P0 r b body) 10000 ρ)
 (λq _ _ b ⟨c,body,_,_⟩ ρ _ k=>bind (E5 (λa=>q.t b c a ret) (λa=>i7 q b body a ret) 10000 ρ) k)
 (by
  intro T k r Γ C b X ⟨f,d,_,i⟩ R m h j e;show PS X (.While f d [] i) _;dsimp only at e;exact lh 10000 h.po (R.tx h _) (K7 R h j))
 (by
  intro r q Γ C b ⟨c,body,_,pos⟩ ρ _ k h;dsimp only;have l:(λa=>i7 q b body a ret)=P0 r b body:=funext λa=>by rw[U7 h,k6]
  have g:(λa=>q.t b c a ret)=r.t b c:=funext λa=>by rw[h.t,k6]
  rw[l,g])
def PB(X:Cx)(cl:ClW)(st:Stmt)(g:Env->M Fl):Prop:=∀(π:List (Addr×Obj)) (s:Shared) (a:L2.St) (H:Hp) (D:Ends) (F:Addr->Hp->Prop),L2.Inv X π a H s->sD X.K cl F g D a H ->
 wpAny (model X.prog X.w) X.A (exec st X.env) (SP X π D) (yz X π a F) s
def jW(b:Option Nat)(a:Fl):Fl:=match b with
 | none=>a
 | some i=>match a with
  | .nx ρ=>.nx (ρ.set i none)
  | .bk ρ=>.bk (ρ.set i none)
  | .ct ρ=>.ct (ρ.set i none)
  | .rt d=>.rt d
def rW(a:Option Nat)(n:Nat)(ρ:Env):Env:=match a with
 | none=>ρ
 | some i=>ρ.set i (some (.ref n))
def X3(g:Env->M Fl)(a:Nat->Bool)(b:Option Nat)(h:Env->M Fl)(ρ:Env):M Fl:=λS=>match g ρ S with
 | .exn n S1=>(match S1[n]? with
  | some (.exc c _)=>if a c=true then bind (nx (h (rW b n ρ))) (λd=>ret (jW b d)) S1 else .bad
  | _=>.bad)
 | r=>r
section
variable {X:Cx}{cl:ClW}{e:Expr}{f:Env->M D}{pos:Pos}{st:Stmt}{g:Env->M Fl}
theorem xN(h:PX X cl e f)(n:k9 e=true):PB X cl (.Expr e pos) λρ=>bind (f ρ) λ_=>ret (.nx ρ):=by
 intro π s b H D F I ⟨μ,S,ρ,g,m,p⟩;exact wpAny_Expr_any (thn (h π s b H (λ_ a=>D.nx b a) F I ⟨μ,S,ρ,g,m,p.bind.imp λd S1 c a k i l v r=>l.ret c a (Lat.refl _ _) i b (g.later k)⟩) λv q ⟨x,a,j,i,o⟩=>⟨b,a,j,o⟩) I.quiet (C9 n)
theorem AR(h:PX X cl e f):PB X cl (.Return (some e) pos) λρ=>bind (f ρ) λd=>ret (.rt d):=by
 intro π s g H D F I ⟨μ,S,ρ,j,l,p⟩;exact wpAny_Return_some (thn (h π s g H D.rt F I ⟨μ,S,ρ,j,l,p.bind.imp λd S1 a b o c k v n=>k.ret a b (Lat.refl _ _) c v n⟩) λv q ⟨x,b,i,c,m⟩=>⟨x,g,b,i,c,m⟩)
theorem Ay(q:X.N.Nodup)(w:X.N[i]?=some x)(n:Loc X.env.scope x)(h:PX X cl e f)(u:k9 e=true)(m:X.fn x=true\/X.env.scope.names.lookup x=some .local) :
  PB X cl (.Assign [.Name x pos'] e pos) λρ=>bind (f ρ) λd=>ret (.nx (ρ.set i (some d))):=by
 intro π s j H D F I ⟨μ,S,ρ,g,t,p⟩;exact wpAny_Assign_Name (thn (h π s j H (λv a=>D.nx (j.set i (some v)) a) F I ⟨μ,S,ρ,g,t,p.bind.imp λd S1 b a l c o v z=>o.ret b a (Lat.refl _ _) c _ ((g.later l).set z i)⟩) λv B ⟨y,a,k,c,r⟩=>K5 k q w n c (λs2 A=>⟨_,a,A,r⟩) m) (C9 u)
theorem EnvOk.setN{K:PySem.W.Frag}{μ:Mp}{H:Hp}{ρ:Env}{b:L2.St}(h:EnvOk K μ H ρ b)(i:Nat):EnvOk K μ H (ρ.set i none) (b.set i none):=by
 refine⟨by simp[h.1],λj d e=>?_⟩;by_cases a:i=j
 ·subst a;have c:i<ρ.length:=by simpa using (Js.mp e).1
  rw[Ke c]at e;ext e
 ·rw[Kk a]at e;obtain⟨v,q,r⟩:=h.2 j d e;exact⟨v,by rw[Kk a];exact q,r⟩
def jv(b:Option Nat)(D:Ends):Ends:=match b with
 | none=>D
 | some i=>{ nx:=λa H=>D.nx (a.set i none) H,rt:=D.rt,bk:=λa H=>D.bk (a.set i none) H,ct:=λa H=>D.ct (a.set i none) H }
theorem FlOk.goes{K:PySem.W.Frag}{D:Ends}{ie:Option Nat}{fl:Fl}{μ:Mp}{H:Hp}(h:FlOk K D (jW ie fl) μ H):FlOk K (jv ie D) fl μ H:=by
 cases ie with
 | none=>exact h
 | some i=>
  cases fl with
  | nx ρ=>exact λσ eo=>h _ (eo.setN i)
  | bk ρ=>exact λσ eo=>h _ (eo.setN i)
  | ct ρ=>exact λσ eo=>h _ (eo.setN i)
  | rt d=>exact h
structure TryAt(X:Cx)(nm:Option Str)(ie:Option Nat):Prop where
 nd:X.N.Nodup
 ex:(nm=none/\ie=none)\/∃x i,nm=some x/\ie=some i/\X.N[i]?=some x/\X.env.scope.names.lookup x=some .local
theorem DN{Tn:Str}{c0:Nat}{b0:Stmt}{suite:List Stmt}{hp tp:Pos}{sub:Nat->Bool}{h:Env->M Fl}(hst:X.stack=X.env::X.outer)(hfr:X.env.frame=some X.env.locals)(hb:PB X cl st g)
  (hg:Gl X Tn) (hm:X.mg Tn=some (.ref (cl c0))) (hdb:(Tn==("__debug__" : Str))=false) (MT:XC X.K (cl c0)) (hk:∀c,XC X.K (cl c)->PySem.W.kitOne X.K (.ref (cl c)) (.ref (cl c0))=some (sub c))
  (ta:TryAt X nm ie) (hs:∀v,PSs (dS X v) (b0::suite) (sD X.K cl x0 h)) :
  PS X (.Try [st] [.ExceptHandler (some (.Name Tn tp)) nm (b0::suite) hp] [] [] pos) (sD X.K cl (xOf X) (X3 g sub ie h)):=by
 intro π s σ H D I ⟨μ,S,ρ,eo,rp,p⟩;rw[arm_exec_Try];have hpost:sD X.K cl (λa H1=>∃n S1 μ1,g ρ S=.exn n S1/\Lat μ H μ1 H1/\Rep X.K cl μ1 S1 H1/\μ1.pl[n]?=some a) g D σ H:=⟨μ,S,ρ,eo,rp,by
  unfold X3 at p;cases e:g ρ S with
  | ok fl S1=>rw[e]at p;exact p
  | exn n S1=>exact λμ' H' a l r q=>⟨n,S1,μ',rfl,l,r,q⟩
  | bad=>rw[e]at p;exact p⟩
 refine Jn (KF (wpAny_tryStmt_except (Nu (JO (hb π s σ H D _ I hpost) (λf s1 q=>?_) λev s1 fl=>?_))))
 ·cases f with
  | next=>exact LK (LK q)
  | ret v=>exact q
  | brk=>exact q
  | cont=>exact q
 ·obtain⟨a,H1,C,d,tb,he,I1,fx,n,S1,μ1,eg,l1,r1,e1⟩:=fl;subst he;refine jN I1 I1.ok.frames hst hfr fx λH2 s2 T I2 fx2 m2=>M1 I2 fx2 λs3 I3=>?_;obtain⟨l2,r2⟩:=r1.mv I1.hok e1 fx.at_ m2;unfold X3 at p;rw[eg]at p;simp only at p;cases eo1:S1[n]? with
  | none=>rw[eo1]at p;exact p.elim
  | some o=>
   rw[eo1]at p;cases o with
   | dcT _=>exact p.elim
   | lst _=>exact p.elim
   | dct _=>exact p.elim
   | exc c fs=>
    simp only at p;by_cases hsub:sub c=true
    case neg=>rw[if_neg hsub]at p;exact p.elim
    rw[if_pos hsub]at p;have ec:=(uL I1.hok (r1.ats n _ a eo1 e1) fx.at_ fx.tb_).1;have hkc:=hk c (ec▸fx.xc);rw[<- ec,hsub]at hkc;have J3:=I3.hushed (.ref a);have p':=(Post.later p (l1.trans l2)).bind.nx (xe':=x0);have post:∀σ',EnvOk X.K μ1 H2 (rW ie n ρ) σ'->sD X.K cl x0 h (jv ie D) σ' H2:=λσ' eo'=>⟨μ1,S1,_,eo',r2,p'.imp λfl S2 μ2 H3 l3 r3 p3=>FlOk.goes (p3.ret μ2 H3 (Lat.refl _ _) r3)⟩;refine wpAny_handleBy_cons (codeAny_handlers_test (E2 J3 hg hm ?_ hdb)) (by intro z;ext z);refine hU J3.kIn fx2.xc MT (fx2.isX (X:=dS X (.ref a)) J3) hkc ?_;rcases ta.ex with ⟨rfl,rfl⟩ | ⟨x,i,rfl,rfl,hi,hl⟩
    ·refine codeAny_handlers_suite (M1 (X:=dS X (.ref a)) J3 fx2 λs4 J4=>?_);refine JO (hs (.ref a) π s4 σ H2 (jv none D) J4 (post σ (eo.later (l1.trans l2)))) (λf s5 q=>?_) λ_ _ z=>False.elim z;cases f with
     | next=>obtain⟨σ',H',J,q⟩:=q;exact⟨σ',H',J.unhush I.ok,q⟩
     | brk=>obtain⟨σ',H',J,q⟩:=q;exact⟨σ',H',J.unhush I.ok,q⟩
     | cont=>obtain⟨σ',H',J,q⟩:=q;exact⟨σ',H',J.unhush I.ok,q⟩
     | ret u=>obtain⟨v,σ',H',J,r,q⟩:=q;exact⟨v,σ',H',J.unhush I.ok,r,q⟩
    ·refine codeAny_handlers_suite_as (M1 (X:=dS X (.ref a)) J3 fx2 λs4 J4=>?_);refine K5 (X:=dS X (.ref a)) (v:=.ref a) J4 ta.nd hi (.inl hl) rfl (λs5 J5=>?_) (.inr hl);refine JO (hs (.ref a) π s5 _ H2 (jv (some i) D) J5 (post _ ((eo.later (l1.trans l2)).set (.ref e1) i))) (λf s6 q=>?_) λ_ _ z=>False.elim z;cases f with
     | next=>obtain⟨σ',H',J,q⟩:=q;exact Y2 (J.unhush I.ok) ta.nd hi hl λs7 I7=>⟨_,H',I7,q⟩
     | brk=>obtain⟨σ',H',J,q⟩:=q;exact Y2 (J.unhush I.ok) ta.nd hi hl λs7 I7=>⟨_,H',I7,q⟩
     | cont=>obtain⟨σ',H',J,q⟩:=q;exact Y2 (J.unhush I.ok) ta.nd hi hl λs7 I7=>⟨_,H',I7,q⟩
     | ret u=>obtain⟨v,σ',H',J,r,q⟩:=q;exact Y2 (J.unhush I.ok) ta.nd hi hl λs7 I7=>⟨v,_,H',I7,r,q⟩
end
def Cr:RuS:=.of (vRaise.at ((vS.at (vF vC)).pr (vN.pr vI)))
 (λΓ b ⟨⟨⟨x,_⟩,⟨a,es⟩,_⟩,_,_⟩=>m9 x&&glB b.sc x&&(a::es).all noStar&&!quiet b)
 (λr Γ _ b ⟨⟨⟨x,_⟩,⟨a,es⟩,_⟩,_,_⟩ ρ=>bind (me r Γ b x (a::es) ρ) t7)
 (λq Γ _ b ⟨⟨⟨x,_⟩,⟨a,es⟩,_⟩,_,_⟩ ρ _ k=>yk q Γ b x (a::es) ρ λd=>bind (t7 d) k)
 (by
  intro T k r Γ C b X ⟨⟨⟨m,g⟩,⟨f,l⟩,i⟩,_,j⟩ R e h n c;show PS X (.Raise (some (.Call (.Name m g) (f::l) [] i)) none j) _;dsimp only at c;simp only[Jp,Kl]at c;exact td (h.calm c.2) (jy R e h c.1.1.1 c.1.1.2 c.1.2 c.2))
 (by
  intro r q Γ C b ⟨⟨⟨_,_⟩,⟨_,_⟩,_⟩,_,_⟩ ρ _ k h;simp only[rT h,bind_assoc])
def isR(Γ:Gm):Expr->Bool
 | .Call (.Name x _) (_::_) [] _=>yG Γ x λi _=>decide (i∉Γ.qs)
 | _=>false
def uB(r:Ev)(Γ:Gm)(C:Cf)(a:Lc)(x:Str)(es:List Expr)(ρ:Env):M D:=if m9 x=true/\glB a.sc x=true/\es.all noStar=true then (match Γ.gl.lookup x with
 | some (.fn i n)=>bind (nx (w6 r a es ρ)) λds=>if ds.length=n then C i ds else bad
 | _=>bad)else bad
def eB(r:Ev)(Γ:Gm)(C:Cf)(a:Lc)(e:Expr)(ρ:Env):M D:=if isR Γ e=true then (match e with
 | .Call (.Name x _) es [] _=>uB r Γ C a x es ρ
 | _=>bad)else nx (r.e a e ρ)
def tt(q:EvK)(Γ:Gm)(C:Cf)(a:Lc)(x:Str)(es:List Expr)(ρ:Env):M D:=if m9 x=true/\glB a.sc x=true/\es.all noStar=true then (match Γ.gl.lookup x with
 | some (.fn i n)=>bind (nx (A7 q a es ρ ret)) λds=>if ds.length=n then C i ds else bad
 | _=>bad)else bad
def eBK(q:EvK)(Γ:Gm)(C:Cf)(a:Lc)(e:Expr)(ρ:Env):M D:=if isR Γ e=true then (match e with
 | .Call (.Name x _) es [] _=>tt q Γ C a x es ρ
 | _=>bad)else nx (q.e a e ρ ret)
theorem EI(h:EqK r q)(e:Expr)(ρ:Env):eBK q Γ C lc e ρ=eB r Γ C lc e ρ:=by
 unfold eBK eB tt uB;simp only[n8 h,h.e,k6]
theorem FY{T:Tx}{k:Nat}{r:Ev}{Γ:Gm}{C:Cf}{d:Lc}{X:Cx}(R:EvOk T k r)(q:TxOk T Γ k C)(h:CxOk T k d X)(o:quiet d=false)(e:Expr):PX X T.cl e (eB r Γ C d e):=by
 have c:PX X T.cl e λ_=>bad:=λ_ _ _ _ _ _ _ ⟨_,_,_,_,_,z⟩=>z.elim;unfold eB;by_cases b:isR Γ e=true
 ·simp only[if_pos b];unfold isR at b;split at b
  ·rename_i x p t es pos;obtain⟨i,n,g,s⟩:=ku b;simp only;unfold uB;by_cases f:m9 x=true/\glB d.sc x=true/\(t::es).all noStar=true
   ·simp only[if_pos f,g];obtain⟨m,l,j⟩:=f;obtain⟨w,D,E⟩:=n9 m;obtain⟨a,fd,ps,u,y,v,B,A⟩:=(q.fn x i n g (Kb s)).ex;exact yM u (by rw[h.prog,h.w,h.K,h.mg,h.base];exact y) (h.room0 o) (h.gl l) (by rw[h.mg];exact v) (by rw[h.K];exact B) (by rw[h.K];exact A) (PA.x0 (p0 R h.nox j)) w j
   ·simp only[if_neg f];exact c
  ·ext b
 ·simp only[if_neg b];exact PX.of (PE.x0 (R.ex h.nox e))
def bX(g:Expr->Env->M D)(a:Lc)(st:Stmt)(ρ:Env):M Fl:=match st with
 | .Expr e _=>if k9 e=true then bind (g e ρ) λ_=>ret (.nx ρ)else bad
 | .Return (some e) _=>bind (g e ρ) λd=>ret (.rt d)
 | .Assign [.Name x _] e _=>(match e8 a.N x with
  | some i=>if bg a.sc x=true/\k9 e=true then bind (g e ρ) λd=>ret (.nx (ρ.set i (some d)))else bad
  | none=>bad)
 | _=>bad
theorem GS(h:CxOk T k lc X)(f:lc.fr=true)(c:∀e,PX X T.cl e (g e))(st:Stmt):PB X T.cl st (bX g lc st):=by
 have a:PB X T.cl st λ_=>bad:=λ_ _ _ _ _ _ _ ⟨_,_,_,_,_,z⟩=>z.elim;unfold bX;split
 ·rename_i e p;by_cases d:k9 e=true
  ·simp only[if_pos d];exact xN (c e) d
  ·grind
 ·exact AR (c _)
 ·rename_i x l e p;cases j:e8 lc.N x with
  | none=>exact a
  | some i=>
   by_cases b:bg lc.sc x=true/\k9 e=true
   ·simp only[if_pos b];exact Ay h.nd' (by rw[h.N];exact k0 j) (by rw[h.sc];exact y7 b.1) (c e) b.2 (.inl (h.fn1 f))
   ·grind
 ·exact a
def nmI(a:Lc)(b:Option Str):Option (Option Nat):=match b with
 | none=>some none
 | some x=>match e8 a.N x with
  | some i=>if a.sc.names.lookup x=some .local then some (some i)else none
  | none=>none
def G2(a:Lc):Lc:=⟨a.N,a.sc,a.fr,"~"::a.mu⟩
theorem CxOk.hushed(h:CxOk T k lc X)(v:Value):CxOk T k (G2 lc) (dS X v):=by
 have a:quiet (G2 lc)=true:=by simp[quiet,G2]
 exact⟨h.prog,h.w,h.K,h.mg,h.base,h.N,h.nd,h.sc,λz=>(by rw[a]at z;exact absurd z ⋯),⟨λz=>(by rw[a]at z;exact absurd z ⋯),h.room.dp,h.room.un,h.room.gd⟩,PassesOwn.never,h.fn,h.kd,λ_ z=>(by rw[a]at z;exact absurd z ⋯)⟩
def Dy(g:Ev->Gm->Cf->Lc->Expr->Env->M D)(gK:EvK->Gm->Cf->Lc->Expr->Env->M D)(hg:∀{T:Tx}{k:Nat}{r:Ev}{Γ:Gm}{C:Cf}{lc:Lc}{X:Cx},EvOk T k r->TxOk T Γ k C->CxOk T k lc X->quiet lc=false->∀e,PX X T.cl e (g r Γ C lc e))
  (hk:∀{r:Ev}{q:EvK}{Γ:Gm}{C:Cf}{lc:Lc},EqK r q->∀e ρ,gK q Γ C lc e ρ=g r Γ C lc e ρ):RuS:=.of (vTry.at (v1.pr ((v1.at (vExc.at ((vS.at vName).pr (vI.pr (vC.pr vI))))).pr (v0.pr (v0.pr vI)))))
 (λΓ lc ⟨_,⟨⟨Tn,_⟩,nm,_⟩,_⟩=>m9 Tn&&glB lc.sc Tn&&!quiet lc&&Cp Γ Tn&&(nmI lc nm).isSome)
 (λr Γ C lc ⟨st,⟨⟨Tn,_⟩,nm,⟨b0,suite⟩,_⟩,_⟩ ρ=>(match Γ.gl.lookup Tn,nmI lc nm with
  | some (.err c0 _),some ie=>X3 (bX (g r Γ C lc) lc st) (λc=>Γ.sub c c0) ie (P0 r (G2 lc) (b0::suite)) ρ
  | _,_=>bad))
 (λq Γ C lc ⟨st,⟨⟨Tn,_⟩,nm,⟨b0,suite⟩,_⟩,_⟩ ρ _ k=>(match Γ.gl.lookup Tn,nmI lc nm with
  | some (.err c0 _),some ie=>bind (X3 (bX (gK q Γ C lc) lc st) (λc=>Γ.sub c c0) ie (λρ'=>i7 q (G2 lc) (b0::suite) ρ' ret) ρ) k
  | _,_=>bad))
 (by
  intro T k r Γ C lc X ⟨st,⟨⟨Tn,tp⟩,nm,⟨b0,suite⟩,hp⟩,_,_,pos⟩ R TX h hf hi;show PS X (.Try [st] [.ExceptHandler (some (.Name Tn tp)) nm (b0::suite) hp] [] [] pos) _;simp only[Jp,Kl]at hi;obtain⟨⟨⟨⟨c1,c2⟩,c3⟩,c4⟩,c5⟩:=hi;obtain⟨n1,n2,n3⟩:=n9 c1;obtain⟨hst,hfr⟩:=h.own hf c3;show PS X _ (sD X.K T.cl (xOf X) λρ=>(match Γ.gl.lookup Tn,nmI lc nm with
   | some (.err c0 _),some ie=>X3 (bX (g r Γ C lc) lc st) (λc=>Γ.sub c c0) ie (P0 r (G2 lc) (b0::suite)) ρ
   | _,_=>bad))
  unfold Cp at c4;split at c4
  ·rename_i c0 fs e;rw[e];obtain⟨ea,na⟩:=TX.err Tn c0 fs e;cases hi:nmI lc nm with
   | none=>exact N8
   | some ie=>
    have ta:TryAt X nm ie:=by
     refine⟨h.nd',?_⟩;unfold nmI at hi;split at hi
     ·ext hi;exact .inl ⟨rfl,rfl⟩
     ·rename_i x;split at hi
      ·rename_i i e1;split at hi
       ·rename_i hl;ext hi;exact .inr ⟨x,i,rfl,rfl,by rw[h.N];exact k0 e1,by rw[h.sc];exact hl⟩
       ·ext hi
      ·ext hi
    exact DN (c0:=c0) hst hfr (GS h hf (hg R TX h c3) st) (h.gl c2) (by rw[h.mg];exact ea.mg_) n1 (by rw[h.K];exact ea.xc) (λc xc=>by rw[h.K]at xc ⊢;exact TX.sub Tn c c0 fs e xc) ta λv=>PSs.x0 (K7 (X:=dS X v) R (h.hushed v) hf)
  ·ext c4)
 (by
  intro r q Γ C lc ⟨st,⟨⟨Tn,tp⟩,nm,⟨b0,suite⟩,hp⟩,_⟩ ρ _ k h;have e1:(λρ'=>i7 q (G2 lc) (b0::suite) ρ' ret)=P0 r (G2 lc) (b0::suite):=funext λρ'=>by rw[U7 h,k6]
  have e2:gK q Γ C lc=g r Γ C lc:=funext λe=>funext λρ=>hk h e ρ;dsimp only;rw[e1,e2];cases Γ.gl.lookup Tn with
  | none=>rfl
  | some z=>
   cases z with
   | err c fs=>cases nmI lc nm <;> rfl
   | _=>rfl)
def Ik:RuS:=Dy (λr Γ C a e ρ=>eB r Γ C a e ρ) (λq Γ C a e ρ=>eBK q Γ C a e ρ) (λR b h c e=>FY R b h c e) (λh e ρ=>EI h e ρ)
structure Fd where
 ps:List Str
 N:List Str
 sc:Scope
 body:List Stmt
 mu:List Str
def T6(N:List Str)(ds:List D):Env:=ds.map some++List.replicate (N.length-ds.length) none
def endD(a:Fl):M D:=match a with
 | .rt d=>ret d
 | .nx _=>ret .non
 | _=>bad
abbrev u9(fd:Fd):Lc:=⟨fd.N,fd.sc,true,fd.mu⟩
def O5(Rs:Rules)(Γ:Gm)(a:List Fd):Nat->Nat->List D->M D
 | 0,_,_=>bad
 | k+1,i,ds=>match a[i]? with
  | none=>bad
  | some fd=>if ds.length=fd.ps.length then bind (P0 (ev Rs Γ (O5 Rs Γ a k) 40) (u9 fd) fd.body (T6 fd.N ds)) endD else bad
structure FnTx(T:Tx)(x:Str)(fd:Fd):Prop where
 ex:∃(f:Addr) (da:FuncData) (qual:Str) (st:Stmt),Fun T.K x qual st f da/\j6 st=fd.body/\c9 st=fd.sc/\FnScope fd.N fd.ps fd.sc/\Binds T.K da fd.ps []/\T.mg x=some (.ref f)
theorem eK{K:PySem.W.Frag}{μ:Mp}{H:Hp}{N:List Str}{ds:List D}{vs:List V}(r:RDs K μ H ds vs):EnvOk K μ H (T6 N ds) (L2.start N vs):=by
 unfold T6 L2.start;refine⟨by simp[r.length],λi d e=>?_⟩;by_cases hi:i<ds.length
 ·rw[Jz (by simpa using hi),JU]at e;cases q:ds[i]? with
  | none=>rw[q]at e;ext e
  | some d'=>
   rw[q]at e;ext e;obtain⟨v,e1,r1⟩:=r.get q;refine⟨v,?_,r1⟩;rw[Jz (by rw[Jr,<- r.length];exact hi),JU,e1];rfl
 ·rw[Ka (by simpa using LC hi),Kv]at e;split at e <;> ext e
section
variable {P:Program}{w:World}{K:PySem.W.Frag}{mg:Str->Option Value}{base:Heap}
theorem qH{x b:Str}{st:Stmt}{f:Addr}{fd:FuncData}{N ps:List Str}{k:Nat}{sp:Sp}(F:Fun K x b st f fd)(S:FnScope N ps (c9 st))(g:∀vs H Q E,sp vs H Q E->vs.length=ps.length)
  (d:∀(c:Value)(A:Around)(a:List PySem.Env)(s:Shared)(H:Hp)(vs:List V)(Q:VK)(E:XK),Room CX.q k (A.deeper (envOfC b (c9 st) s.heap.objs.size f c))->sp vs H Q E ->
   ∃t,PSs (ba CX P w K mg base N b (c9 st) f c A a s H E) (j6 st) t/\t { nx:=λ_ H'=>Q .non H',rt:=Q } (start N vs) H):FnOk P w K mg base CX (k+1) f fd ps sp:=by
 obtain⟨r,od,n,i,o,p,c,q,l,rfl,m,h⟩:=F.ex;exact zx m h S g λA a s H vs Q E j e=>d c A a s H vs Q E j e
theorem Post.fly{α:Type}{cl:ClW}{N:List Str}{qual:Str}{scope:Scope}{f:Addr}{cd:Value}{A:Around}{outer:List PySem.Env}{s:Shared}{H0 H:Hp}{E:XK}{μ:Mp}{r:R α}{G:α->Sto->Mp->Hp->Prop}(p:Post K cl (nk E) μ H r G) :
  Post K cl (xOf (ba (CXd P w K) P w K mg base N qual scope f cd A outer s H0 E)) μ H r G:=by
 cases r with
 | ok a S=>exact p
 | bad=>exact p
 | exn n S=>
  intro μ' H' a l rp e π σ s' C d tb I fx;refine iP I I.ok.frames rfl rfl fx λH2 s2 T I2 fx2 m2=>?_;obtain⟨l2,r2⟩:=rp.mv I.hok e fx.at_ m2;exact⟨a,C,d,some T,H2,rfl,I2.os,I2.bare,I2.base,I2.hok,fx2,p μ' H2 a (l.trans l2) r2 e⟩
end
theorem FnOk.unX{P:Program}{w:World}{K:PySem.W.Frag}{mg:Str->Option Value}{base:Heap}{k n:Nat}{f:Addr}{fd:FuncData}{ps:List Str}{cl:ClW}{run:List D->M D}(F:FnOk P w K mg base (CXd P w K) k f fd ps (spX K cl n run)):FnOk P w K mg base (CXq false) k f fd ps (spD K cl n run):=
 ⟨λvs H Q E h=>F.len vs H Q E0 h,λA outer s H args us vs Q E hr e0 hb r h=>Ld (F.run A outer s H args us vs Q E0 hr e0 hb r h) λres s' hq=>by
  cases res with
  | ok fl=>ext fl <;> exact hq
  | error e=>obtain⟨_,_,_,_,_,_,_,_,_,_,_,z⟩:=hq;exact z⟩
section
variable {Rs:Rules}{T:Tx}{Γ:Gm}{Tb:List Fd}{k i:Nat}{x qual:Str}{st:Stmt}{f:Addr}{da:FuncData}{fd:Fd}
theorem eM(TX:TxOk T Γ (k+3) (O5 Rs Γ Tb k))(hi:Tb[i]?=some fd)(F:Fun T.K x qual st f da)(h1:j6 st=fd.body)(h2:c9 st=fd.sc)(S:FnScope fd.N fd.ps fd.sc)(hq:quiet (u9 fd)=false) :
  FnOk T.P T.w T.K T.mg T.base (CXd T.P T.w T.K) (k+4) f da fd.ps (spX T.K T.cl fd.ps.length (O5 Rs Γ Tb (k+1) i)):=by
 have S':FnScope fd.N fd.ps (c9 st):=by rw[h2];exact S
 refine qH F S' (λvs H Q E h=>h.1) λcdv A outer s H vs Q E hr hsp=>?_;obtain⟨hl,μ,S0,ds,rds,rp,p⟩:=hsp;have cx:CxOk T (k+3) (u9 fd) (ba (CXd T.P T.w T.K) T.P T.w T.K T.mg T.base fd.N qual (c9 st) f cdv A outer s H E):=⟨rfl,rfl,rfl,rfl,rfl,rfl,S.nd,h2,λ_=>rfl,by rw[hq];exact hr,λe s' z=>wpAny_leaving_again (SameStack.refl _) z,rfl,S.kind,λ_ _=>⟨rfl,rfl⟩⟩;have R:=pU (Rs:=Rs) TX 40;refine⟨_,by rw[h1];exact K7 R cx rfl,?_⟩;refine⟨μ,S0,T6 fd.N ds,eK rds,rp,?_⟩;have hd:ds.length=fd.ps.length:=by rw[rds.length];exact hl
 simp only[O5,hi,if_pos hd]at p;refine Post.fly (p.bind.imp λfl S1 μ1 H1 l1 r1 p1=>?_);cases fl with
 | nx ρ=>exact λσ _=>p1 μ1 H1 (Lat.refl _ _) r1 _ .non
 | rt d=>exact λv rv=>p1 μ1 H1 (Lat.refl _ _) r1 v rv
 | bk ρ=>exact False.elim p1
 | ct ρ=>exact False.elim p1
theorem sG(TX:TxOk T Γ (k+3) (O5 Rs Γ Tb k))(hi:Tb[i]?=some fd)(F:Fun T.K x qual st f da)(h1:j6 st=fd.body)(h2:c9 st=fd.sc)(S:FnScope fd.N fd.ps fd.sc)(hq:quiet (u9 fd)=true) :
  FnOk T.P T.w T.K T.mg T.base (CXq true) (k+4) f da fd.ps (spD T.K T.cl fd.ps.length (O5 Rs Γ Tb (k+1) i)):=by
 have S':FnScope fd.N fd.ps (c9 st):=by rw[h2];exact S
 refine qH F S' (λvs H Q E h=>h.1) λcdv A outer s H vs Q E hr hsp=>?_;obtain⟨hl,μ,S0,ds,rds,rp,p⟩:=hsp;have cx:CxOk T (k+3) (u9 fd) (ba (CXq true) T.P T.w T.K T.mg T.base fd.N qual (c9 st) f cdv A outer s H E).nox:=⟨rfl,rfl,rfl,rfl,rfl,rfl,S.nd,h2,λz=>(by rw[hq]at z;exact absurd z ⋯),by rw[hq];exact hr,PassesOwn.never,rfl,S.kind,λ_ z=>(by rw[hq]at z;exact absurd z ⋯)⟩;have R:=pU (Rs:=Rs) TX 40;refine⟨_,by rw[h1];exact PSs.nox (PSs.x0 (K7 R cx rfl)),?_⟩;refine⟨μ,S0,T6 fd.N ds,eK rds,rp,?_⟩;have hd:ds.length=fd.ps.length:=by rw[rds.length];exact hl
 simp only[O5,hi,if_pos hd]at p;refine p.bind.imp λfl S1 μ1 H1 l1 r1 p1=>?_;cases fl with
 | nx ρ=>exact λσ _=>p1 μ1 H1 (Lat.refl _ _) r1 _ .non
 | rt d=>exact λv rv=>p1 μ1 H1 (Lat.refl _ _) r1 v rv
 | bk ρ=>exact False.elim p1
 | ct ρ=>exact False.elim p1
theorem wQ(d:TxOk T Γ (k+3) (O5 Rs Γ Tb k))(a:Tb[i]?=some fd)(F:Fun T.K x qual st f da)(e:j6 st=fd.body)(b:c9 st=fd.sc)(S:FnScope fd.N fd.ps fd.sc)(c:quiet (u9 fd)=false:=by rfl) :
  FnOk T.P T.w T.K T.mg T.base (CXq false) (k+4) f da fd.ps (spD T.K T.cl fd.ps.length (O5 Rs Γ Tb (k+1) i)):=FnOk.unX (eM d a F e b S c)
def CP(Γ:Gm)(a:List Fd):Bool:=(List.range a.length).all λi=>match a[i]? with
 | some fd=>quiet (u9 fd)==Γ.qs.contains i
 | none=>false
theorem lJ(h:CP Γ Tb=true)(hi:Tb[i]?=some fd):quiet (u9 fd)=Γ.qs.contains i:=by
 unfold CP at h;have:=(JM.mp h) i (KE.mpr (Js.mp hi).1);rw[hi]at this;simpa using this
end
structure TxSt(T:Tx)(Γ:Gm):Prop where
 blt:∀x∈bnames,Γ.gl.lookup x=none->T.mg x=none
 val:∀x d,Γ.gl.lookup x=some (.val d)->∃u v,T.mg x=some u/\RelV v u/\∀μ H,RD T.K μ H d v
 err:∀x c fs,Γ.gl.lookup x=some (.err c fs)->ErrAt T x c fs/\(∀g∈fs,z9 T.K (T.cl c) g)
 sub:∀x c c0 fs,Γ.gl.lookup x=some (.err c0 fs)->XC T.K (T.cl c)->PySem.W.kitOne T.K (.ref (T.cl c)) (.ref (T.cl c0))=some (Γ.sub c c0)
 subV:∀c,XC T.K (T.cl c)->PySem.W.kitOne T.K (.ref (T.cl c)) (.type "ValueError")=some true
 subT:∀c,XC T.K (T.cl c)->∀t∈tys,PySem.W.kitOne T.K (.ref (T.cl c)) (.type t)=some false
 fld:∀g∈Γ.flds,∀c,XC T.K (T.cl c)->z9 T.K (T.cl c) g
 dct:∀x kvs,Γ.gl.lookup x=some (.dct kvs)->sJ T x kvs
def oA(T:Tx)(Γ:Gm)(a:List Fd):Prop:=∀x i n,Γ.gl.lookup x=some (.fn i n)->∃fd,a[i]?=some fd/\fd.ps.length=n/\FnTx T x fd
theorem TxSt.ok(h:TxSt T Γ){k:Nat}{C:Cf}(f:∀x i n,Γ.gl.lookup x=some (.fn i n)->i∉Γ.qs->FnX T (k+3) i n x (C i))(a:∀x i n,Γ.gl.lookup x=some (.fn i n)->i∈Γ.qs->FnAt T (k+3) i n x (C i)):TxOk T Γ (k+3) C:=⟨h.blt,h.val,f,a,h.err,h.sub,h.subV,h.subT,h.fld,h.dct,by omega⟩
theorem wG{T:Tx}{Γ:Gm}{q:List Fd}(h:TxSt T Γ)(fs:oA T Γ q)(k:Nat)(w:CP Γ q=true:=by rfl):TxOk T Γ (k+3) (O5 Rs Γ q k):=by
 induction k with
 | zero=>
  have l:∀x i n,Γ.gl.lookup x=some (.fn i n)->∃(a:Addr) (fd:FuncData) (ps:List Str),ps.length=n/\(∀CX,FnOk T.P T.w T.K T.mg T.base CX 3 a fd ps (spX T.K T.cl n (O5 Rs Γ q 0 i)))/\T.mg x=some (.ref a)/\PySem.W.keepIn T.K (.ref a)=true/\Binds T.K fd ps []:=λx i n e=>by
   obtain⟨fd,d,c,g⟩:=fs x i n e;obtain⟨f,o,j,st,F,_,_,_,b,m⟩:=g.ex;refine⟨f,o,fd.ps,c,λCX=>⟨λvs H Q E h=>by rw[c];exact h.1,λA v s H z us vs Q E _ _ _ _ u=>?_⟩,m,F.kp,b⟩;obtain⟨_,μ,S,ds,_,_,p⟩:=u;exact p.elim
  refine h.ok (λx i n e _=>?_) λx i n e _=>?_
  ·obtain⟨a,fd,ps,d,c,g⟩:=l x i n e;exact⟨a,fd,ps,d,c _,g⟩
  ·obtain⟨a,fd,ps,d,c,g⟩:=l x i n e;exact⟨a,fd,ps,d,FnOk.imp (c _) λvs H Q E ⟨_,μ,S,ds,_,_,p⟩=>p.elim,g⟩
 | succ k y=>
  refine h.ok (λx i n e B=>?_) λx i n e m=>?_
  ·obtain⟨fd,d,c,g⟩:=fs x i n e;subst c;obtain⟨f,o,j,st,F,r,t,S,b,m2⟩:=g.ex;exact⟨f,o,fd.ps,rfl,eM y d F r t S (by rw[lJ w d];simpa using B),m2,F.kp,b⟩
  ·obtain⟨fd,d,c,g⟩:=fs x i n e;subst c;obtain⟨f,o,j,st,F,r,t,S,b,m2⟩:=g.ex;exact⟨f,o,fd.ps,rfl,sG y d F r t S (by rw[lJ w d];simpa using m),m2,F.kp,b⟩
def runK(Rs:Rules)(Γ:Gm)(C:Cf)(fd:Fd)(ds:List D):M D:=if ds.length=fd.ps.length then i7 (evK Rs Γ C 40) ⟨fd.N,fd.sc,true,fd.mu⟩ fd.body (T6 fd.N ds) endD else bad
theorem a9{a:List Fd}{k i:Nat}{fd:Fd}(h:a[i]?=some fd)(ds:List D):O5 Rs Γ a (k+1) i ds=runK Rs Γ (O5 Rs Γ a k) fd ds:=by
 simp only[O5,h,runK];split
 ·rw[U7 (zb 40)]
 ·rfl
def rq(a:Arguments):List Str:=a.args.map (·.arg)
def ym(ps:List Str)(a:Scope):List Str:=ps++(a.names.filter λy=>(y.2==.local||y.2==.cell)&&!ps.contains y.1).map (·.1)
def h9(st:Stmt)(a:List Str):Fd:=⟨rq (v5 st),ym (rq (v5 st)) (c9 st),c9 st,j6 st,a⟩
def dW(fd:Fd):Bool:=decide (fd.sc.kind=.function)&&!fd.sc.isCoroutine&&!fd.sc.isGenerator&&decide fd.N.Nodup&&decide (fd.N.take fd.ps.length=fd.ps)&&fd.ps.all (λx=>bg fd.sc x)&&fd.sc.names.all (λy=>decide (y.2≠.free))
theorem bA(h:dW fd=true):FnScope fd.N fd.ps fd.sc:=by
 simp only[dW,Jp,JJ,JM,Kl]at h;obtain⟨⟨⟨⟨⟨⟨i,b⟩,c⟩,d⟩,f⟩,e⟩,a⟩:=h;exact⟨i,b,c,d,f,λx g=>y7 (e x g),a⟩
def IF:RuE:=rBf "sum" "sum" true (one xV) ⋯ rfl λ_ a=>Gj (a rfl)
def xm:RuE:=rMt "count" tupOf countT λ_ e c b f d a=>ko PySem.F.plainAttrs_tuple No PySem.F.type_tuple_count mM lg eN e c b f d a
section
variable {K:PySem.W.Frag}{cl:ClW}{xe:Addr->Hp->Prop}{μ:Mp}{H:Hp}{S:Sto}
theorem gB{p:Addr}{u:HO}{ob:O}{rs:List Addr}{kz:List V}(er:μ.rs=p::rs)(nr:p∉rs)(hp:H p=some (.lst kz))(rp:Rep K cl μ S H)(ho:OAt K cl ⟨μ.pl++[p],rs⟩ (upd H p u) p ob):Rep K cl ⟨μ.pl++[p],rs⟩ (S++[ob]) (upd H p u):=by
 have np:p∉μ.pl:=(rp.res p (by rw[er];exact Jy)).1;have hp':∀(n:Nat)(a:Addr),μ.pl[n]?=some a->(μ.pl++[p])[n]?=some a:=λn a e=>by rw[Jz (Js.mp e).1];exact e
 have ho':∀a w,H a=some w->a∉μ.pl->a∉μ.rs->upd H p u a=some w/\a∉(⟨μ.pl++[p],rs⟩:Mp).pl/\a∉(⟨μ.pl++[p],rs⟩:Mp).rs:=λa w e n1 n2=>by
  have ne:a≠p:=λz=>n2 (by rw[er,z];exact Jy);refine⟨by rw[a8 ne];exact e,λz=>?_,λz=>n2 (by rw[er];exact JE _ z)⟩;rcases JY.mp z with z | z
  ·exact n1 z
  ·exact ne (JK.mp z)
 refine⟨by simp[rp.len],?_,λn o a e1 e2=>?_,λa m=>?_⟩
 ·show(μ.pl++[p]).Nodup;rw[Mx];exact⟨rp.nd,by simp,λa m b m2=>by rw[JK.mp m2];rintro rfl;exact np m⟩
 ·have e2:(μ.pl++[p])[n]?=some a:=e2;by_cases hn:n<S.length
  ·rw[Jz hn]at e1;rw[Jz (by rw[rp.len];exact hn)]at e2;have h:=rp.ats n o a e1 e2;have ka:upd H p u a=H a:=a8 λz=>np (z▸JL e2);cases o with
   | lst ds=>obtain⟨xs,e,q⟩:=h;exact⟨xs,by rw[ka];exact e,q.move hp' ho'⟩
   | dct kvs=>obtain⟨xs,e,q⟩:=h;exact⟨xs,by rw[ka];exact e,Paired.mono (λ_ _ ⟨z,w⟩=>⟨z,w.move hp' ho'⟩) q⟩
   | dcT kvs=>obtain⟨es,e,h1,h2,q⟩:=h;exact⟨es,by rw[ka];exact e,h1,h2,Paired.mono (λ_ _ ⟨b,v,z,a1,a2,a3,a4,a5,a6⟩=>⟨b,v,z,a1,a2.move hp' ho',a3,a4,a5,a6.move hp' ho'⟩) q⟩
   | exc c fs=>
    obtain⟨xc,gs,q,fr,h⟩:=h;refine⟨xc,gs,Paired.mono (λ_ _ ⟨z,w⟩=>⟨z,w.move hp' ho'⟩) q,fr,?_⟩;rcases h with ⟨z,e⟩ | ⟨d,h1,h2,e,e3⟩
    ·exact .inl ⟨z,by rw[ka];exact e⟩
    ·have ne:d≠p:=lL e3 hp (by intro z;ext z);refine .inr ⟨d,h1,λz=>?_,by rw[ka];exact e,by rw[a8 ne];exact e3⟩;rcases JY.mp z with z | z
     ·exact h2 z
     ·exact ne (JK.mp z)
  ·have hn2:n=S.length:=by
    have:=(Js.mp e1).1;simp at this;omega
   subst hn2;rw[<- rp.len]at e2;simp at e1 e2;subst e1;subst e2;exact ho
 ·have m:a∈rs:=m;obtain⟨h1,w,h2⟩:=rp.res a (by rw[er];exact JE _ m);have ne:a≠p:=λz=>nr (z▸m);refine⟨λz=>?_,w,by rw[a8 ne];exact h2⟩;rcases JY.mp z with z | z
  ·exact h1 z
  ·exact ne (JK.mp z)
theorem gJ(h:H p=some u):upd H p u=H:=by
 funext a;by_cases e:a=p
 ·rw[e,b8,h]
 ·rw[a8 e]
end
theorem ya(m:M (List D))(S:Sto):bind (nx m) newL S=nx (bind m newL) S:=by
 cases h:m S with
 | ok a S1=>
  have e2:nx m S=.ok a S1:=by unfold L3.nx;rw[h]
  have e3:bind (nx m) newL S=newL a S1:=by unfold L3.bind;rw[e2]
  have e:bind m newL S=newL a S1:=by unfold L3.bind;rw[h]
  rw[e3];unfold L3.nx;rw[e];simp only[newL];split <;> rfl
 | exn n S1=>
  have e:bind m newL S=.exn n S1:=by unfold L3.bind;rw[h]
  have e2:nx m S=.bad:=by unfold L3.nx;rw[h]
  have e3:bind (nx m) newL S=.bad:=by unfold L3.bind;rw[e2]
  rw[e3];unfold L3.nx;rw[e]
 | bad=>
  have e:bind m newL S=.bad:=by unfold L3.bind;rw[h]
  have e2:nx m S=.bad:=by unfold L3.nx;rw[h]
  have e3:bind (nx m) newL S=.bad:=by unfold L3.bind;rw[e2]
  rw[e3];unfold L3.nx;rw[e]
def rGd(K:PySem.W.Frag)(a:Addr):R2:=λx y H Q=>x=.ref a/\∃z u v,y=.str z/\PySem.W.nsIn K a z=some (some u)/\RelV v u/\Q v H
theorem EE(g:X.K.lookup a=some ⟨.type "dict",none,.dict es n,#[]⟩) (k:PySem.W.KeysLit X.w.params es.toList):IxR X (rGd X.K a):=by
 intro d c π s σ H x y v u Q I i j h hs;obtain⟨rfl,z,r,m,rfl,e,p,q⟩:=h;ext i;obtain⟨t,rfl⟩:=j;have f:=NJ (prog:=X.prog) (λb o l=>I.kIn b o l) g k;exact tail_any f.typeIs slot_dict_getitem.lookup (wpAny_getItem_of (NT X.prog X.w z t) f (NQ g e) ⟨m,H,I.tok _,p,q⟩) hs
def gdD(a:List (Str×D))(y:D):M D:=match y with
 | .str z=>(match a.lookup z with
  | some d=>ret d
  | none=>bad)
 | _=>bad
def au(Γ:Gm)(x:Str):Bool:=match Γ.gl.lookup x with
 | some (.dct _)=>true
 | _=>false
def gdE(r:Ev)(Γ:Gm)(b:Lc)(x:Str)(i:Expr)(ρ:Env):M D:=match Γ.gl.lookup x with
 | some (.dct a)=>bind (r.e b i ρ) (gdD a)
 | _=>bad
def gdK(q:EvK)(Γ:Gm)(c:Lc)(x:Str)(i:Expr)(ρ:Env){b:Type}(k:D->M b):M b:=match Γ.gl.lookup x with
 | some (.dct a)=>q.e c i ρ λd=>bind (gdD a d) k
 | _=>bad
theorem HU(h:EqK r q)(x:Str)(i:Expr)(ρ:Env){α:Type}(k:D->M α):gdK q Γ lc x i ρ k=bind (gdE r Γ lc x i ρ) k:=by
 unfold gdK gdE;cases Γ.gl.lookup x with
 | none=>rfl
 | some g=>
  cases g with
  | dct kvs=>simp only[h.e,bind_assoc]
  | _=>rfl
theorem GY{C:Cf}{lc:Lc}{X:Cx}{x:Str}{p pos:Pos}{i:Expr}(R:EvOk T k r)(TX:TxOk T Γ k C)(h:CxOk T k lc X)(c1:m9 x=true)(c2:glB lc.sc x=true)(c3:t8 i=true):PE X (.Subscript (.Name x p) i pos) (tD X.K T.cl (xOf X) (gdE r Γ lc x i)):=by
 obtain⟨n1,n2,n3⟩:=n9 c1;unfold gdE;cases e1:Γ.gl.lookup x with
 | none=>exact f8
 | some g=>
  cases g with
  | dct kvs=>
   obtain⟨a,es,n,hm,hl,hk,_,_,hv⟩:=TX.dct x kvs e1;refine PE.imp (zB (EE (by rw[h.K];exact hl) (by rw[h.w];exact hk)) (Y7 (v:=.ref a) (h.gl c2) (by rw[h.mg];exact hm) rfl n1) (R.ex h i) (N9 c3)) λσ H Q ⟨μ,S,ρ,eo,rp,q⟩=>?_;refine⟨μ,S,ρ,eo,rp,q.bind.imp λy S2 μ2 H2 l2 r2 p2 u ru=>?_⟩;cases y with
   | str z=>
    ext ru;cases e2:kvs.lookup z with
    | none=>simp only[gdD,e2]at p2;exact p2.elim
    | some d=>
     simp only[gdD,e2]at p2;obtain⟨u,v,f1,f2,f3⟩:=hv z d e2;exact⟨rfl,z,u,v,rfl,by rw[h.K];exact f1,f2,p2 μ2 H2 (Lat.refl _ _) r2 v (by rw[h.K];exact f3 μ2 H2)⟩
   | _=>exact p2.elim
  | val d=>exact f8
  | fn i n=>exact f8
  | err c fs=>exact f8
def HQ:RuE:=.of (vSubscript.at (vName.pr vI))
 (λΓ lc ⟨⟨x,_⟩,i,_⟩=>m9 x&&glB lc.sc x&&t8 i&&au Γ x)
 (λr Γ C lc ⟨⟨x,_⟩,i,_⟩ ρ=>gdE r Γ lc x i ρ)
 (λq Γ C lc ⟨⟨x,_⟩,i,_⟩ ρ _ k=>gdK q Γ lc x i ρ k)
 (by
  intro T k r Γ C lc X ⟨⟨z0,z1⟩,z2,z3⟩ R TX h hi;show PE X (.Subscript (.Name z0 z1) z2 z3) _;dsimp only at hi;simp only[Jp]at hi;exact GY R TX h hi.1.1.1 hi.1.1.2 hi.1.2)
 (by
  intro r q Γ C lc ⟨⟨_,_⟩,_,_⟩ ρ _ k h;dsimp only;exact HU h _ _ ρ k)
def X4(i:Nat)(ρ:Env):M D:=match ρ[i]? with
 | some (some d)=>ret d
 | _=>bad
def jC(f:Int->Int->Int)(x y:D):M D:=match x,y with
 | .int i,.int j=>ret (.int (f i j))
 | _,_=>bad
section
variable {X:Cx}{cl:ClW}{xe:Addr->Hp->Prop}{e:Expr}{f:Env->M D}{pos:Pos}
theorem wS{op:Operator}{g:Int->Int->Int}(ho:PIp X op (ipI g))(hN:X.N.Nodup)(hi:X.N[i]?=some x)(hx:Loc X.env.scope x)(he:PE X e (tD X.K cl xe f))(hf:X.fn x=true\/X.env.scope.names.lookup x=some .local) :
  PS X (.AugAssign (.Name x pos') op e pos) (sD X.K cl xe λρ=>bind (X4 i ρ) λa=>bind (f ρ) λb=>bind (jC g a b) λd=>ret (.nx (ρ.set i (some d)))):=PS.imp (Bp hN hi hx he ho hf) λD σ H ⟨μ,S,ρ,eo,rp,p⟩=>by
 have p:Post X.K cl xe μ H (bind (X4 i ρ) (λa=>bind (f ρ) λb=>bind (jC g a b) λd=>ret (Fl.nx (ρ.set i (some d)))) S) _:=p;cases q:ρ[i]? with
 | none=>
  have e0:X4 i ρ=bad:=by unfold X4;rw[q]
  rw[e0]at p;exact p.elim
 | some o=>
  cases o with
  | none=>
   have e0:X4 i ρ=bad:=by unfold X4;rw[q]
   rw[e0]at p;exact p.elim
  | some a=>
   have e0:X4 i ρ=ret a:=by unfold X4;rw[q]
   rw[e0]at p;have p:Post X.K cl xe μ H (bind (f ρ) (λb=>bind (jC g a b) λd=>ret (Fl.nx (ρ.set i (some d)))) S) _:=p;obtain⟨v,e1,rv⟩:=eo.2 i a q;refine⟨v,e1,μ,S,ρ,eo,rp,p.bind.imp λb S1 μ1 H1 l1 r1 p1 w rw'=>?_⟩;have rv1:=rv.later l1;cases a with
   | int i1=>
    cases b with
    | int j1=>
     ext rv1;ext rw';have p1:=p1;exact⟨i1,j1,rfl,rfl,p1 μ1 H1 (Lat.refl _ _) r1 _ ((eo.later l1).set (.int _) i)⟩
    | _=>exact False.elim p1
   | _=>exact False.elim p1
end
def wn(c:Lc)(x:Str)(ρ:Env)(m:M D):M Fl:=match e8 c.N x with
 | some i=>bind (X4 i ρ) λa=>bind m λb=>bind (jC (λi j=>i+j) a b) λd=>ret (.nx (ρ.set i (some d)))
 | none=>bad
def Dj(b:Lc)(x:Str)(ρ:Env){a:Type}(k:Nat->D->M a):M a:=match e8 b.N x with
 | some i=>(match ρ[i]? with
  | some (some d)=>k i d
  | _=>bad)
 | none=>bad
theorem Dh(c:Lc)(x:Str)(ρ:Env)(m:M D){e:Type}(k:Fl->M e):bind (wn c x ρ m) k=Dj c x ρ λi a=>bind m λb=>bind (jC (λi j=>i+j) a b) λd=>k (.nx (ρ.set i (some d))):=by
 unfold wn Dj;cases e8 c.N x with
 | none=>rfl
 | some i=>
  cases q:ρ[i]? with
  | none=>simp only[X4,q];rfl
  | some o=>
   cases o with
   | none=>simp only[X4,q];rfl
   | some a=>simp only[X4,q,bind_assoc,g8]
def Iq:RuS:=.of (vAugAssign.at (vName.pr ((vE .Add).pr vI)))
 (λ_ lc ⟨⟨x,_⟩,_,_,_⟩=>T1 lc x)
 (λr _ _ lc ⟨⟨x,_⟩,_,e,_⟩ ρ=>wn lc x ρ (r.e lc e ρ))
 (λq _ _ lc ⟨⟨x,_⟩,_,e,_⟩ ρ _ k=>Dj lc x ρ λi a=>q.e lc e ρ λb=>bind (jC (λi j=>i+j) a b) λd=>k (.nx (ρ.set i (some d))))
 (by
  intro T k r Γ C lc X ⟨⟨x,p⟩,_,e,pos⟩ R TX h hf hi;show PS X (.AugAssign (.Name x p) .Add e pos) _;dsimp only at hi;rw[T1,Jp,Kd]at hi;obtain⟨⟨i,hi⟩,hl⟩:=hi;have:=wS (pos:=pos) (pos':=p) (op:=.Add) (g:=λi j=>i+j) BK h.nd' (by rw[h.N];exact k0 hi) (by rw[h.sc];exact y7 hl) (R.ex h e) (.inl (h.fn1 hf));simp only[wn,hi];exact this)
 (by
  intro _ _ _ _ _ ⟨⟨_,_⟩,_,_,_⟩ ρ _ k h;simp only[Dh,h.e])
def cw(m a d:D):M D:=
 bind (O0 d (.int 1000003)) λq=>bind (C3 (.int 31) a) λh=>bind (C3 h a) λs=>bind (o9 q s) λn=>bind (C3 (.int 7) a) λr=>bind (o9 n r) λp=>bind (o9 p (.int 11)) λe=>bind (C3 e (.int 48271)) λi=>bind (O0 i (.int 2147483647)) λc=>
 bind (B0 c (.int 64)) λj=>bind (C3 j (.int 69621)) λl=>bind (C3 (.int 7919) a) λf=>bind (o9 l f) λk=>bind (O0 k (.int 2147483587)) λb=>
 bind (B0 b (.int 64)) λg=>bind (O0 g m) λo=>ret o
def dO(p m b cells a:D)(z:Bool):M D:=
 if z=true then bind (B0 a m) λv=>bind (Q3 p (.str "left") v) λ_=>bind (O0 a m) λd=>ret d
 else cw m b a
def J0(p m b cells a:D):M D:=
 bind (ixD p (.str "at")) λx=>bind (o9 x (.int 1)) λv=>bind (Q3 p (.str "at") v) λ_=>
 bind (xw (.int 10) (.int 18)) λy=>bind (b7 .GtE a y) λd=>bind (asB d) λc=>
 if c=true then bind (ixD p (.str "at")) λx=>bind (D2 cells) λy=>bind (b7 .LtE x y) λd=>bind (asB d) λz=>dO p m b cells a z
 else dO p m b cells a false
def kN(p m:D):M D:=
 bind (ixD p (.str "turn")) λx=>bind (o9 x (.int 1)) λa=>bind (Q3 p (.str "turn") a) λ_=>
 bind (ixD p (.str "left")) λx=>bind (b7 .Gt x (.int 0)) λd=>bind (asB d) λz=>
 if z=true then bind (ixD p (.str "left")) λx=>bind (O0 x m) λb=>bind (ixD p (.str "left")) λx=>bind (B0 x m) λv=>bind (Q3 p (.str "left") v) λ_=>ret b
 else bind (ixD p (.str "cells")) λcells=>bind (D2 cells) λx=>bind (b7 .Gt x (.int 0)) λd=>bind (asB d) λz=>
  if z=true then bind (ixD p (.str "at")) λx=>bind (D2 cells) λy=>bind (O0 x y) λi=>bind (ixD cells i) λc=>J0 p m a cells c
  else J0 p m a cells (.int 0)
theorem a7{k:α->M β}{S S':Sto}{a:α}(e:m S=.ok a S'):bind m k S=k a S':=by unfold bind;rw[e]
theorem Z1{d:D}(h:S[p]?=some (.dct kvs))(e:rN kvs (.inr x)=some d):ixD (.ref p) (.str x) S=.ok d S:=by
 simp only[ixD,h,N5,Li,e,bY,ret]
theorem aW{v:D}(h:S[p]?=some (.dct kvs))(a:kvs.length<sizeLine)(e:mq kvs (.inr x) v=kvs'):Q3 (.ref p) (.str x) v S=.ok .non (S.set p (.dct kvs')):=by
 simp only[Q3,h,N5,if_pos a,e]
theorem sF{S:Sto}{p:Nat}{o o':O}(h:S[p]?=some o):(S.set p o')[p]?=some o':=Ke (Js.mp h).1
def i3(ns:List Int)(a l t:Int):O:=.dct [(.inr "cells",.lst (ns.map D.int)),(.inr "at",.int a),(.inr "left",.int l),(.inr "turn",.int t)]
section
variable {S:Sto}{p:Nat}{ns:List Int}{a l t:Int}(h:S[p]?=some (i3 ns a l t))
include h
theorem xt:ixD (.ref p) (.str "cells") S=.ok (.lst (ns.map D.int)) S:=Z1 h rfl
theorem Bz:ixD (.ref p) (.str "at") S=.ok (.int a) S:=Z1 h rfl
theorem hW:ixD (.ref p) (.str "left") S=.ok (.int l) S:=Z1 h rfl
theorem Ct:ixD (.ref p) (.str "turn") S=.ok (.int t) S:=Z1 h rfl
theorem Gx(v:Int):Q3 (.ref p) (.str "at") (.int v) S=.ok .non (S.set p (i3 ns v l t)):=aW h (by show 4<sizeLine;decide) rfl
theorem kg(v:Int):Q3 (.ref p) (.str "left") (.int v) S=.ok .non (S.set p (i3 ns a v t)):=aW h (by show 4<sizeLine;decide) rfl
theorem yR(v:Int):Q3 (.ref p) (.str "turn") (.int v) S=.ok .non (S.set p (i3 ns a l v)):=aW h (by show 4<sizeLine;decide) rfl
end
theorem cM(i j:Int)(S:Sto):o9 (.int i) (.int j) S=.ok (.int (i+j)) S:=rfl
theorem bC{i j:Int}(h:0<j)(S:Sto):O0 (.int i) (.int j) S=.ok (.int (i % j)) S:=by simp only[O0,if_pos h,ret]
theorem T7{i j:Int}(h:0<j)(b:j<1073741824)(S:Sto):B0 (.int i) (.int j) S=.ok (.int (i / j)) S:=by
 have a:rH i j:=⟨h,b⟩;simp only[B0,if_pos a,ret]
theorem V3(h:CMul i j)(S:Sto):C3 (.int i) (.int j) S=.ok (.int (i * j)) S:=by simp only[C3,if_pos h,ret]
theorem bO(ns:List Int)(S:Sto):D2 (.lst (ns.map D.int)) S=.ok (.int ns.length) S:=by
 show R.ok (D.int ((ns.map D.int).length:Nat)) S=_;grind
theorem yH{ns:List Int}{a:Int}(f:0<=a)(g:0<ns.length)(S:Sto):∃z:Int,ixD (.lst (ns.map D.int)) (.int (a % (ns.length:Int))) S=.ok (.int z) S:=by
 have c:(0:Int)<(ns.length:Int):=by omega
 have e:=MP a (NC c);have h:=Mq a c;obtain⟨j,d⟩:=Nw e;have b:j<ns.length:=by omega
 refine⟨ns[j],?_⟩;rw[d];show bY (atI (ns.map D.int) (j:Int)) S=_;rw[dz (by rw[JU,Jw b];rfl)];rfl
theorem iR(a:0<m)(d:0<=t)(b:t<2000000)(S:Sto):∃r:Int,cw (.int m) (.int t) (.int c) S=.ok (.int r) S/\0<=r/\r<m:=by
 unfold cw;rw[a7 (bC ⋯ S),a7 (V3 (.inl ⟨by decide,by decide⟩) S),a7 (V3 (.inr ⟨by omega,by omega⟩) S),a7 (cM _ _ S),a7 (V3 (.inl ⟨by decide,by decide⟩) S),a7 (cM _ _ S),a7 (cM _ _ S),a7 (V3 (.inr ⟨by decide,by decide⟩) S),a7 (bC ⋯ S),
  a7 (T7 ⋯ ⋯ S),a7 (V3 (.inr ⟨by decide,by decide⟩) S),a7 (V3 (.inl ⟨by decide,by decide⟩) S),a7 (cM _ _ S),a7 (bC ⋯ S),a7 (T7 ⋯ ⋯ S),a7 (bC a S)]
 exact⟨_,rfl,MP _ (NC a),Mq _ a⟩
theorem set_set{S:Sto}{p:Nat}{o o':O}:(S.set p o).set p o'=S.set p o':=List.set_set ..
theorem gZ(h:S[p]?=some (i3 ns a l t))(x:0<=a)(s:0<=l)(o:0<=t)(k:t<2000000)(b:0<m)(i:m<1073741824) :
  ∃r g d,J0 (.ref p) (.int m) (.int t) (.lst (ns.map D.int)) (.int c) S=.ok (.int r) (S.set p (i3 ns g d t))/\0<=r/\r<m/\0<=g/\0<=d:=by
 unfold J0;rw[a7 (Bz h),a7 (cM _ _ S),a7 (Gx h _)];have n:=sF (o':=i3 ns (a+1) l t) h;have v:xw (.int 10) (.int 18) (S.set p (i3 ns (a+1) l t))=.ok (.int 1000000000000000000) (S.set p (i3 ns (a+1) l t)):=rfl;rw[a7 v];have w:b7 .GtE (.int c) (.int 1000000000000000000) (S.set p (i3 ns (a+1) l t))=.ok (.bl (decide (1000000000000000000<=c))) (S.set p (i3 ns (a+1) l t)):=rfl;rw[a7 w,a7 (show asB _ _=_ from rfl)];have f:∀z:Bool,(z=true->1000000000000000000<=c)->∃r g d,dO (.ref p) (.int m) (.int t) (.lst (ns.map D.int)) (.int c) z (S.set p (i3 ns (a+1) l t))=.ok (.int r) (S.set p (i3 ns g d t))/\0<=r/\r<m/\0<=g/\0<=d:=λz hz=>by
  unfold dO;cases z with
  | true=>
   rw[if_pos rfl,a7 (T7 b i _),a7 (kg n _),set_set,a7 (bC b _)];exact⟨_,a+1,c / m,rfl,MP _ (NC b),Mq _ b,by omega,Int.ediv_nonneg (Int.le_trans ⋯ (hz rfl)) (Int.le_of_lt b)⟩
  | false=>
   rw[if_neg Jt];obtain⟨r,e,q,u⟩:=iR b o k (S.set p (i3 ns (a+1) l t));exact⟨r,a+1,l,e,q,u,by omega,s⟩
 by_cases hz:(1000000000000000000:Int)<=c
 ·rw[JQ hz,if_pos rfl,a7 (Bz n),a7 (bO ns _)];have j:b7 .LtE (.int (a+1)) (.int (ns.length:Int)) (S.set p (i3 ns (a+1) l t))=.ok (.bl (decide (a+1<=(ns.length:Int)))) (S.set p (i3 ns (a+1) l t)):=rfl;rw[a7 j,a7 (show asB _ _=_ from rfl)];exact f _ λ_=>hz
 ·rw[JR hz,if_neg Jt];exact f _ λz=>by ext z
theorem uM(h:S[p]?=some (i3 ns a l t))(j:0<=a)(s:0<=l)(w:0<=t)(v:t<1000000)(g:0<m)(i:m<1073741824) :
  ∃r f b,kN (.ref p) (.int m) S=.ok (.int r) (S.set p (i3 ns f b (t+1)))/\0<=r/\r<m/\0<=f/\0<=b:=by
 unfold kN;rw[a7 (Ct h),a7 (cM _ _ S),a7 (yR h _)];have d:=sF (o':=i3 ns a l (t+1)) h;have u:b7 .Gt (.int l) (.int 0) (S.set p (i3 ns a l (t+1)))=.ok (.bl (decide (0<l))) (S.set p (i3 ns a l (t+1))):=rfl;rw[a7 (hW d),a7 u,a7 (show asB _ _=_ from rfl)];by_cases hz:0<l
 ·rw[JQ hz,if_pos rfl,a7 (hW d),a7 (bC g _),a7 (hW d),a7 (T7 g i _),a7 (kg d _),set_set];exact⟨_,a,l / m,rfl,MP _ (NC g),Mq _ g,j,Int.ediv_nonneg s (Int.le_of_lt g)⟩
 ·rw[JR hz,if_neg Jt,a7 (xt d),a7 (bO ns _)];have n:b7 .Gt (.int (ns.length:Int)) (.int 0) (S.set p (i3 ns a l (t+1)))=.ok (.bl (decide (0<(ns.length:Int)))) (S.set p (i3 ns a l (t+1))):=rfl;rw[a7 n,a7 (show asB _ _=_ from rfl)];have k:∀c:Int,∃r f b,J0 (.ref p) (.int m) (.int (t+1)) (.lst (ns.map D.int)) (.int c) (S.set p (i3 ns a l (t+1)))=.ok (.int r) (S.set p (i3 ns f b (t+1)))/\0<=r/\r<m/\0<=f/\0<=b:=λc=>by
   obtain⟨r,f,b,e,q⟩:=gZ d j s ∅ ∅ g i;rw[set_set]at e;exact⟨r,f,b,e,q⟩
  by_cases o:0<(ns.length:Int)
  ·rw[JQ o,if_pos rfl,a7 (Bz d),a7 (bO ns _),a7 (bC o _)];obtain⟨z,e⟩:=yH (ns:=ns) j ∅ (S.set p (i3 ns a l (t+1)));rw[a7 e];exact k z
  ·simp_all
mutual
noncomputable def szP:PyData->Nat
 | .none=>4
 | .bool _=>5
 | .int _=>13
 | .str x=>(PyData.shown (.str x)).length
 | .list xs=>mo xs+3
 | .tuple xs=>mo xs+3
 | .dict _=>0
noncomputable def mo:List PyData->Nat
 | []=>0
 | x::xs=>szP x+2+mo xs
end
def SmI(i:Int):Prop:=-999999999999<=i/\i<=999999999999
mutual
def Sm:PyData->Prop
 | .none=>True
 | .bool _=>True
 | .int i=>SmI i
 | .str _=>True
 | .list xs=>Sms xs
 | .tuple xs=>Sms xs
 | .dict _=>False
def Sms:List PyData->Prop
 | []=>True
 | x::xs=>Sm x/\Sms xs
end
mutual
theorem zX:∀p:PyData,Sm p->p.shown.length<=szP p
 | .none,_=>by decide
 | .bool b,_=>by ext b <;> decide
 | .int i,h=>PyData.shown_int_le2 h.1 h.2
 | .str x,_=>Ju _
 | .list xs,h=>by
  have c:=ig xs h;have a:=listText_len_le (PyData.shownAll xs);have d:=PyData.shownAll_length xs;simp only[PyData.shown,szP];omega
 | .tuple xs,h=>by
  have c:=ig xs h;have a:=tupleText_len_le (PyData.shownAll xs);have d:=PyData.shownAll_length xs;simp only[PyData.shown,szP];omega
 | .dict _,h=>h.elim
theorem ig:∀xs:List PyData,Sms xs->((PyData.shownAll xs).map (·.length)).sum+2 * xs.length<=mo xs
 | [],_=>by simp[PyData.shownAll,mo]
 | x::xs,h=>by
  have h1:=zX x h.1;have h2:=ig xs h.2;simp only[PyData.shownAll,mo,JI,List.sum_cons,KL];omega
end
theorem ia{i:Int}(h:i.natAbs<2 ^ 40):decide (i.natAbs.log2<1920)=true:=by
 refine JQ ?_;by_cases z:i.natAbs=0
 ·rw[z];decide
 ·have:=(Nat.log2_lt z).mpr h;omega
theorem BN(h:SmI i):PyData.showable (.int i)=true:=ia (by have:=h.1;have:=h.2;omega)
mutual
theorem jl:∀p:PyData,Sm p->p.showable=true
 | .none,_=>rfl
 | .bool b,_=>rfl
 | .int i,h=>BN h
 | .str x,_=>rfl
 | .list xs,h=>by simp only[PyData.showable];exact aB xs h
 | .tuple xs,h=>by simp only[PyData.showable];exact aB xs h
 | .dict _,h=>h.elim
theorem aB:∀xs:List PyData,Sms xs->PyData.showableAll xs=true
 | [],_=>rfl
 | x::xs,h=>by simp only[PyData.showableAll,jl x h.1,aB xs h.2,MK]
end
mutual
theorem jQ:∀p:PyData,Sm p->p.hasDict=false
 | .none,_=>rfl
 | .bool b,_=>rfl
 | .int i,h=>rfl
 | .str x,_=>rfl
 | .list xs,h=>by simp only[PyData.hasDict];exact ab xs h
 | .tuple xs,h=>by simp only[PyData.hasDict];exact ab xs h
 | .dict _,h=>h.elim
theorem ab:∀xs:List PyData,Sms xs->PyData.hasDictAll xs=false
 | [],_=>rfl
 | x::xs,h=>by simp only[PyData.hasDictAll,jQ x h.1,ab xs h.2,Bool.or_self]
end
structure Nice(p:PyData):Prop where
 sm:Sm p
 dp:p.depth<=60
 sz:szP p<=4000
theorem Nice.len(h:Nice p):p.shown.length<=4000:=JW (zX p h.sm) h.sz
theorem Nice.shows(h:Nice p):Shows p:=⟨jl p h.sm,jQ p h.sm,h.dp,by have:=h.len;rw[JS];omega⟩
theorem kI(e:i8 64 S d=some p)(h:Nice p)(hd:∀x,d=.str x->x.length<=4000):w5 S d=true:=by
 unfold w5;rw[e];simp;refine⟨⟨h.shows,h.len⟩,?_⟩;grind
theorem pP(h:SmI i):Nice (.int i):=⟨h,by show PyData.depth (.int i)<=60;simp[PyData.depth],by show(13:Nat)<=4000;decide⟩
theorem qM{i:Int}(h:SmI i):w5 S (.int i)=true:=kI rfl (pP h) (λx e=>by ext e)
theorem Bb(b:ds.length=fs.length)(a:ds.all (w5 S)=true):D5 c fs ds S=.ok (.ref S.length) (S++[.exc c (fs.zip ds)]):=by
 unfold D5;grind
theorem Eg(h:w5 S a=true):[a].all (w5 S)=true:=by simp[h]
theorem h8(b:Bool)(S:Sto):asB (.bl b) S=.ok b S:=rfl
def cJ(o:Option (Option Value))(x:String):Bool:=match o with
 | some (some (.builtin y))=>decide (y=x)
 | _=>false
theorem Q1(h:cJ o x=true):o=some (some (.builtin x)):=by
 unfold cJ at h;grind
def isNo(o:Option (Option Value)):Bool:=match o with
 | some none=>true
 | _=>false
theorem Z3(h:isNo o=true):o=some none:=by
 unfold isNo at h;grind
def isB(o:Option Bool)(b:Bool):Bool:=match o with
 | some c=>c==b
 | none=>false
theorem V1(h:isB o b=true):o=some b:=by
 unfold isB at h;grind
def xcB(K:PySem.W.Frag)(C:Addr):Bool:=
 cJ (PySem.W.findIn K (.ref C) "__getattribute__") "BaseException.__getattribute__" && (isNo (PySem.W.findIn K (.ref C) "__getattr__")&&(isB (PySem.W.mroIn K C (.type "BaseException")) true&&(isB (PySem.W.mroIn K C (.type "object")) true &&
 (PySem.W.hasDictIn K C&&(cJ (PySem.W.findIn K (.ref C) "__class__") "object.__class__" && (cJ (PySem.W.specialIn K (.builtin "object.__class__") "__get__") "getset_descriptor.__get__" && (isB (PySem.W.takesIn K (.builtin "object.__class__")) true &&
 (bN K C&&((PySem.W.clsIn K C).any (λa=>A6 a.mro)&&(cJ (PySem.W.findIn K (.ref C) "__setattr__") "object.__setattr__" && PySem.W.keepIn K (.ref C)))))))))))
theorem iH{K:PySem.W.Frag}{C:Addr}(h:xcB K C=true):XC K C:=by
 simp only[xcB,Jp]at h;obtain⟨d,e,l,m,j,f,g,i,k,a,b,c⟩:=h;exact⟨⟨Q1 d,Z3 e,V1 l,V1 m,j,Q1 f,Q1 g,V1 i⟩,k,a,Q1 b,c⟩
def eF(cs:List Addr)(a:Addr)(c:Nat):Addr:=cs.getD c a
structure RowB(K:PySem.W.Frag)(Γ:Gm)(cs:List Addr)(junk:Addr):Prop where
 xc:cs.all (xcB K)=true
 jk:bN K junk=false
 sub:((List.range cs.length).all λc=>(List.range cs.length).all λc0=>isB (PySem.W.kitOne K (.ref (eF cs junk c)) (.ref (eF cs junk c0))) (Γ.sub c c0))=true
 sV:(cs.all λC=>isB (PySem.W.kitOne K (.ref C) (.type "ValueError")) true)=true
 sT:(cs.all λC=>tys.all λt=>isB (PySem.W.kitOne K (.ref C) (.type t)) false)=true
 fl:(Γ.flds.all λg=>cs.all λC=>isNo (PySem.W.findIn K (.ref C) g))=true
 bl:(bnames.all λx=>(Γ.gl.lookup x).isSome||isNo (PySem.W.nsIn K mainGlobals x))=true
theorem FQ{K:PySem.W.Frag}{cs:List Addr}{a:Addr}(d:bN K a=false){c:Nat}(h:XC K (eF cs a c)):c<cs.length/\eF cs a c∈cs:=by
 by_cases b:c<cs.length
 ·refine⟨b,?_⟩;unfold eF;rw[KO,Jw b];exact JX b
 ·have e:eF cs a c=a:=by
   unfold eF;rw[KO,Kn (LC b)];rfl
  rw[e]at h;have:=h.ex;rw[d]at this;ext this
theorem RowB.st{Γ:Gm}{cs:List Addr}{j:Addr}{h:Heap}(B:RowB T.K Γ cs j)(X:T.K.In h)(G:h.Ns mainGlobals T.mg)(o:T.cl=eF cs j)(w:∀x d,Γ.gl.lookup x=some (.val d)->∃u v,T.mg x=some u/\RelV v u/\∀μ H,RD T.K μ H d v)
  (r:∀x c fs,Γ.gl.lookup x=some (.err c fs)->c<cs.length/\ErrAt T x c fs/\∀g∈fs,g∈Γ.flds) (hd:∀x k,Γ.gl.lookup x=some (.dct k)->sJ T x k):TxSt T Γ:=by
 have i:∀c,XC T.K (T.cl c)->c<cs.length/\T.cl c∈cs:=λc f=>by rw[o]at f ⊢;exact FQ B.jk f
 have p:=λg l c f=>by
  have:=(JM.mp B.fl) g l;exact Z3 ((JM.mp this) _ (i c f).2)
 refine⟨λx s y=>?_,w,λx c fs e=>?_,λx c c0 fs e f=>?_,λc f=>?_,λc f t z=>?_,p,hd⟩
 ·have:=(JM.mp B.bl) x s;rw[y]at this;exact PySem.W.mg_none_of X G (Z3 this)
 ·obtain⟨n,m,q⟩:=r x c fs e;exact⟨m,λg l=>p g (q g l) c m.xc⟩
 ·obtain⟨n,m,q⟩:=r x c0 fs e;have a:=(JM.mp B.sub) c (KE.mpr (i c f).1);have b:=(JM.mp a) c0 (KE.mpr n);rw[o];exact V1 b
 ·exact V1 ((JM.mp B.sV) _ (i c f).2)
 ·have a:=(JM.mp B.sT) _ (i c f).2;exact V1 ((JM.mp a) t z)
def dX(K:PySem.W.Frag):Sp:=λvs H Q _=>∃(a:Addr) (ns:List Int),vs=[.ref a]/\SqL K H a (ns.map V.int)/\∀H',Q (.bl true) H'
theorem nO{K:PySem.W.Frag}{cl:ClW}{run:List D->M D}(hr:∀ns:List Int,∃S',run [.scr (ns.map D.int)] []=.ok (.bl true) S'):∀vs H Q E,dX K vs H Q E->spD K cl 1 run vs H Q E:=by
 rintro vs H Q E ⟨a,ns,rfl,hS,q⟩;obtain⟨S',e⟩:=hr ns;refine⟨rfl,⟨[],[]⟩,[],[.scr (ns.map D.int)],.cons (.scr ?_ (RDs.ints ns)) .nil,⟨rfl,by simp,λn o a e=>by simp at e,λa m=>by simp at m⟩,?_⟩
 ·rcases hS with h | h
  ·exact .inl ⟨h,by simp,by simp⟩
  ·exact .inr h
 ·rw[e];intro μ' H' l r v rv;ext rv;exact q H'
theorem ln0{α:Type}{p:List α->Prop}{us:List α}(hl:us.length=0)(h:p []):p us:=by
 rw[List.length_eq_zero_iff.mp hl];exact h
theorem ln1{α:Type}{p:List α->Prop}{us:List α}(hl:us.length=1)(h:∀a,p [a]):p us:=by
 obtain⟨a,rfl⟩:=List.length_eq_one_iff.mp hl;exact h a
theorem lnS{α:Type}{p:List α->Prop}{us:List α}{n:Nat}(hl:us.length=n+1)(h:∀a ws,ws.length=n->p (a::ws)):p us:=by
 cases us with
 | nil=>ext hl
 | cons a ws=>exact h a ws (Nat.succ.inj hl)
theorem ln2{α:Type}{p:List α->Prop}{us:List α}(hl:us.length=2)(h:∀a b,p [a,b]):p us:=lnS hl λa _ e=>ln1 (p:=λw=>p (a::w)) e (h a)
theorem ln3{α:Type}{p:List α->Prop}{us:List α}(hl:us.length=3)(h:∀a b c,p [a,b,c]):p us:=lnS hl λa _ e=>ln2 (p:=λw=>p (a::w)) e (h a)
theorem ln4{α:Type}{p:List α->Prop}{us:List α}(hl:us.length=4)(h:∀a b c d,p [a,b,c,d]):p us:=lnS hl λa _ e=>ln3 (p:=λw=>p (a::w)) e (h a)
theorem Fv{fd:FuncData}{ps:List Str}{us:List Value}(hl:us.length=0)(h:bindArgs fd ⟨[],[]⟩=pure (ps.zip [])):bindArgs fd ⟨us,[]⟩=pure (ps.zip us):=ln0 (p:=λus=>bindArgs fd ⟨us,[]⟩=pure (ps.zip us)) hl h
theorem GU{fd:FuncData}{ps:List Str}{us:List Value}(hl:us.length=1)(h:∀a,bindArgs fd ⟨[a],[]⟩=pure (ps.zip [a])):bindArgs fd ⟨us,[]⟩=pure (ps.zip us):=ln1 (p:=λus=>bindArgs fd ⟨us,[]⟩=pure (ps.zip us)) hl h
theorem yu{fd:FuncData}{ps:List Str}{us:List Value}(hl:us.length=2)(h:∀a b,bindArgs fd ⟨[a,b],[]⟩=pure (ps.zip [a,b])):bindArgs fd ⟨us,[]⟩=pure (ps.zip us):=ln2 (p:=λus=>bindArgs fd ⟨us,[]⟩=pure (ps.zip us)) hl h
theorem AL{fd:FuncData}{ps:List Str}{us:List Value}(hl:us.length=3)(h:∀a b c,bindArgs fd ⟨[a,b,c],[]⟩=pure (ps.zip [a,b,c])):bindArgs fd ⟨us,[]⟩=pure (ps.zip us):=ln3 (p:=λus=>bindArgs fd ⟨us,[]⟩=pure (ps.zip us)) hl h
theorem Gg{fd:FuncData}{ps:List Str}{us:List Value}(hl:us.length=4)(h:∀a b c d,bindArgs fd ⟨[a,b,c,d],[]⟩=pure (ps.zip [a,b,c,d])):bindArgs fd ⟨us,[]⟩=pure (ps.zip us):=ln4 (p:=λus=>bindArgs fd ⟨us,[]⟩=pure (ps.zip us)) hl h
structure GF(K:PySem.W.Frag)(x:Str)(st:Stmt)(g:Addr):Prop where
 a:PySem.W.nsIn K mainGlobals x=some (some (.ref g))
 f:∃fd,Fun K x x st g fd
theorem gf_mk{K:PySem.W.Frag}{x:Str}{st:Stmt}{g:Addr}{oc:Value}{od an:Option Addr}{osl:Array (Option Value)}{kV doc pm cdv ct:Value}(a:PySem.W.nsIn K mainGlobals x=some (some (.ref g)))(l:K.lookup g=some ⟨oc,od,.func (PySem.W.fnOf x x (v5 st) (j6 st) (c9 st) .none kV doc pm an cdv ct),osl⟩)(c:PySem.W.codeIn K cdv x=true)(k:PySem.W.keepIn K (.ref g)=true):GF K x st g:=⟨a,_,jB l c k⟩
theorem fe{T:Tx}{h:Heap}(X:T.K.In h)(G:h.Ns mainGlobals T.mg){x:Str}{st:Stmt}{g:Addr}{m:List Str}{Tb:List Fd}{i n:Nat}(d:GF T.K x st g)(sc:dW (h9 st m)=true)(hb:∀(kV doc pm:Value)(an:Option Addr)(cdv ct:Value)(us:List Value),us.length=(h9 st m).ps.length->bindArgs (PySem.W.fnOf x x (v5 st) (j6 st) (c9 st) .none kV doc pm an cdv ct) ⟨us,[]⟩=pure ((h9 st m).ps.zip us))(hT:Tb[i]?=some (h9 st m))(hn:(h9 st m).ps.length=n):∃fd,Tb[i]?=some fd/\fd.ps.length=n/\FnTx T x fd:=by
 obtain⟨fd,F⟩:=d.f;exact⟨_,hT,hn,⟨g,_,_,st,F,rfl,rfl,bA sc,F.binds hb,Lg X G d.a⟩⟩
def Ca(T:Tx)(Tb:List Fd):List (Str×G)->Prop
 | []=>True
 | (x,.fn i n)::l=>(∃fd,Tb[i]?=some fd/\fd.ps.length=n/\FnTx T x fd)/\Ca T Tb l
 | _::l=>Ca T Tb l
theorem Gy{T:Tx}{Γ:Gm}{Tb:List Fd}(h:Ca T Tb Γ.gl):oA T Γ Tb:=λx i n e=>by
 have m:=L2.mem_of_lookup e;generalize Γ.gl=l at h m;induction l with
 | nil=>ext m
 | cons y l ih=>
  obtain⟨z,g⟩:=y;rcases JH.mp m with q | q
  ·ext q;exact h.1
  ·refine ih ?_ q;cases g with
   | fn j k=>exact h.2
   | _=>exact h
theorem R3{n:Nat}(I:Nat->Sto->List D->Prop)(a:∀S es,I n S es->src n S=some none)
  (c:∀i S es,i<n->I i S es->∃d b S1,src i S=some (some d)/\t d S=.ok b S1/\(if b=true then ∃y S2,f d S1=.ok y S2/\es.length<sizeLine/\I (i+1) S2 (es++[y])else I (i+1) S1 es)) :
  ∀(k i:Nat)(S:Sto)(es:List D),k+i=n->I i S es->∃es' S',g7 src t f (k+1) i es S=.ok es' S'/\I n S' es'
 | 0,i,S,es,j,h=>by
  have:i=n:=by omega
  subst this;refine⟨es,S,?_,h⟩;simp only[g7,a S es h]
 | k+1,i,S,es,j,h=>by
  obtain⟨d,b,S1,l,m,e⟩:=c i S es ∅ h;have g:g7 src t f (k+1+1) i es S=bind (t d) (λb=>if b=true then bind (f d) (λy=>if es.length<sizeLine then g7 src t f (k+1) (i+1) (es++[y])else bad)else g7 src t f (k+1) (i+1) es) S:=by
   conv=>lhs;unfold g7
   simp only[l]
  rw[g,a7 m];cases b with
  | true=>
   rw[if_pos rfl]at e ⊢;obtain⟨y,S2,p,o,q⟩:=e;rw[a7 p,if_pos o];exact R3 I a c k (i+1) S2 _ ∅ q
  | false=>
   rw[if_neg Jt]at e ⊢;exact R3 I a c k (i+1) S1 _ ∅ e
theorem rP{S:Sto}(l:ds.length<sizeLine)(h:∀d∈ds,f d S=.ok (g d) S):g7 (A2 ds) (λ_=>ret true) f (ds.length+1) 0 [] S=.ok (ds.map g) S:=by
 obtain⟨es,S',e,k,j⟩:=R3 (src:=A2 ds) (t:=λ_=>ret true) (λi S' es=>S'=S/\es=(ds.take i).map g) (λS es _=>by show some ds[ds.length]?=some none;rw[Kn (Ju _)])
  (λi S' es a ⟨b,c⟩=>by
   subst b c;refine⟨ds[i],true,S',?_,rfl,?_⟩
   ·show some ds[i]?=some (some ds[i]);rw[Jw a]
   ·rw[if_pos rfl];refine⟨g ds[i],S',h _ (JX a),?_,rfl,?_⟩
    ·grind
    ·rw[KN a,KW];rfl) ds.length 0 S [] ∅ ⟨rfl,rfl⟩
 grind
def Ok{b:Type}(m:M b)(S:Sto)(Q:b->Sto->Prop):Prop:=∃a S',m S=.ok a S'/\Q a S'
section
variable {α β:Type}{S S1:Sto}{m m':M α}{k:α->M β}{a:α}{Q Q':α->Sto->Prop}{P:β->Sto->Prop}
theorem Ok.ret(h:Q a S):Ok (ret a) S Q:=⟨a,S,rfl,h⟩
theorem Ok.of(e:m S=.ok a S1)(h:Q a S1):Ok m S Q:=⟨a,S1,e,h⟩
theorem Ok.bind(h:Ok m S λa S1=>Ok (k a) S1 P):Ok (L3.bind m k) S P:=by
 obtain⟨a,S1,e,b,S2,c,q⟩:=h;exact⟨b,S2,by rw[a7 e];exact c,q⟩
theorem Ok.eq(e:m S=.ok a S1)(h:Ok (k a) S1 P):Ok (L3.bind m k) S P:=Ok.bind ⟨a,S1,e,h⟩
theorem Ok.mono(h:Ok m S Q)(i:∀a S1,Q a S1->Q' a S1):Ok m S Q':=by
 obtain⟨a,S1,e,q⟩:=h;exact⟨a,S1,e,i _ _ q⟩
theorem Ok.cg(e:m=m')(h:Ok m' S Q):Ok m S Q:=e▸h
theorem Ok.cgS(e:m S=m' S)(h:Ok m' S Q):Ok m S Q:=by
 obtain⟨a,S1,b,q⟩:=h;exact⟨a,S1,by rw[e];exact b,q⟩
theorem Ok.ite{c:Prop}[Decidable c]{a m2:M α}(b:c->Ok a S Q)(d:¬ c->Ok m2 S Q):Ok (if c then a else m2) S Q:=by grind
end
theorem Ok.comp{n:Nat}(I:Nat->Sto->List D->Prop)(c:∀S es,I n S es->src n S=some none)
  (a:∀i S es,i<n->I i S es->∃d,src i S=some (some d)/\Ok (t d) S λb S1=>if b=true then Ok (f d) S1 λy S2=>es.length<sizeLine/\I (i+1) S2 (es++[y])else I (i+1) S1 es) {S:Sto} (h:I 0 S []) :
  Ok (g7 src t f (n+1) 0 []) S λes S'=>I n S' es:=by
 obtain⟨es,S',e,q⟩:=R3 I c (λi S es o h=>by
  obtain⟨d,l,b,S1,m,q⟩:=a i S es o h;refine⟨d,b,S1,l,m,?_⟩;cases b with
  | true=>
   rw[if_pos rfl]at q ⊢;obtain⟨y,S2,g,j,k⟩:=q;exact⟨y,S2,g,j,k⟩
  | false=>
   rw[if_neg Jt]at q ⊢;exact q) n 0 S [] ∅ h
 exact⟨es,S',e,q⟩
def FlI(I:L3.Env->Sto->Prop)(J:L3.Env->Sto->Prop)(R:D->Sto->Prop)(a:Fl)(S:Sto):Prop:=match a with
 | .nx ρ=>I ρ S
 | .ct ρ=>I ρ S
 | .bk ρ=>J ρ S
 | .rt d=>R d S
theorem Ok.for_{n:Nat}(I:Nat->L3.Env->Sto->Prop)(J:L3.Env->Sto->Prop)(R:D->Sto->Prop)(hend:∀ρ S,I n ρ S->src n S=some none)
  (step:∀i ρ S,i<n->I i ρ S->∃d ρ1,src i S=some (some d)/\tg d ρ=some ρ1/\Ok (body ρ1) S (FlI (I (i+1)) J R)) :
  ∀(k i:Nat)(ρ:L3.Env)(S:Sto),k+i=n->I i ρ S->Ok (u0 src tg body (k+1) i ρ) S λfl S'=>match fl with
   | .nx ρ'=>I n ρ' S'\/J ρ' S'
   | .rt d=>R d S'
   | _=>False
 | 0,i,ρ,S,hk,h=>by
  have:i=n:=by omega
  subst this;exact⟨.nx ρ,S,by simp only[u0,hend ρ S h],.inl h⟩
 | k+1,i,ρ,S,hk,h=>by
  obtain⟨d,ρ1,e1,e2,h2⟩:=step i ρ S ∅ h;have un:u0 src tg body (k+1+1) i ρ S=L3.bind (body ρ1) (λfl=>match fl with
    | .nx ρ2=>u0 src tg body (k+1) (i+1) ρ2
    | .ct ρ2=>u0 src tg body (k+1) (i+1) ρ2
    | .bk ρ2=>L3.ret (.nx ρ2)
    | .rt d=>L3.ret (.rt d)) S:=by
   conv=>lhs;unfold u0
   simp only[e1,e2]
   all_goals rfl
  refine Ok.cgS un (Ok.bind (h2.mono λfl S1 q=>?_));cases fl with
  | nx ρ2=>exact Ok.for_ I J R hend step k (i+1) ρ2 S1 ∅ q
  | ct ρ2=>exact Ok.for_ I J R hend step k (i+1) ρ2 S1 ∅ q
  | bk ρ2=>exact Ok.ret (.inr q)
  | rt d=>exact Ok.ret q
theorem Ok.while_(I:Nat->L3.Env->Sto->Prop)(J:L3.Env->Sto->Prop)(R:D->Sto->Prop)
  (step:∀k ρ S,I k ρ S->Ok (t ρ) S λb S1=>if b=true then Ok (body ρ) S1 (FlI (λρ2 S2=>∃j,j<k/\I j ρ2 S2) J R)else J ρ S1) :
  ∀(m k:Nat)(ρ:L3.Env)(S:Sto),k<m->I k ρ S->Ok (E5 t body m ρ) S λfl S'=>match fl with
   | .nx ρ'=>J ρ' S'
   | .rt d=>R d S'
   | _=>False
 | 0,k,ρ,S,hk,h=>by omega
 | m+1,k,ρ,S,hk,h=>by
  refine Ok.bind ((step k ρ S h).mono λb S1 q=>?_);cases b with
  | false=>
   rw[if_neg Jt]at q ⊢;exact Ok.ret q
  | true=>
   rw[if_pos rfl]at q ⊢;refine Ok.bind (q.mono λfl S2 q2=>?_);cases fl with
   | nx ρ2=>obtain⟨j,hj,q3⟩:=q2;exact Ok.while_ I J R step m j ρ2 S2 ∅ q3
   | ct ρ2=>obtain⟨j,hj,q3⟩:=q2;exact Ok.while_ I J R step m j ρ2 S2 ∅ q3
   | bk ρ2=>exact Ok.ret q2
   | rt d=>exact Ok.ret q2
theorem i2{c:Type}{l:List c}{h g:c->D}{p:c->Bool}{t:D->M Bool}{f:D->M D}{S:Sto}(s:l.length<sizeLine)(m:∀a∈l,t (h a) S=.ok (p a) S)(k:∀a∈l,p a=true->f (h a) S=.ok (g a) S):g7 (A2 (l.map h)) t f (l.length+1) 0 [] S=.ok ((l.filter p).map g) S:=by
 obtain⟨es,S',e,q,r⟩:=Ok.comp (src:=A2 (l.map h)) (λi S' es=>S'=S/\es=((l.take i).filter p).map g) (λS es _=>by show some (l.map h)[l.length]?=some none;rw[Kn (by simp)])
  (λi S' es b ⟨j,o⟩=>by
   subst j o;refine⟨h l[i],?_,p l[i],S',m _ (JX b),?_⟩
   ·show some (l.map h)[i]?=some (some (h l[i]));rw[JU,Jw b];rfl
   ·have n:=KN b;cases d:p l[i] with
    | true=>
     dsimp only;rw[if_pos rfl];refine⟨g l[i],S',k _ (JX b) d,?_,rfl,?_⟩
     ·grind
     ·grind
    | false=>
     dsimp only;rw[if_neg Jt];refine⟨rfl,?_⟩;rw[n,LJ,LG (by rw[d];exact Jt),NK,Kc]) ⟨rfl,rfl⟩
 grind
def Asc(x:Str):Prop:=∀c∈x.cps.toList,c<128
def cr(j:Nat):Nat:=1000000000000000000000000000000000000000+j
mutual
def Pln(j:Nat):D->Prop
 | .non=>True
 | .bl _=>True
 | .int i=>i.natAbs<=cr j
 | .str x=>x.length<=45+j/\Asc x
 | .tup ds=>Plns j ds
 | .lst ds=>Plns j ds
 | .scr _=>False
 | .ref _=>False
def Plns(j:Nat):List D->Prop
 | []=>True
 | d::ds=>Pln j d/\Plns j ds
end
mutual
noncomputable def py:D->PyData
 | .non=>.none
 | .bl b=>.bool b
 | .int i=>.int i
 | .str x=>.str x
 | .tup ds=>.tuple (pys ds)
 | .lst ds=>.list (pys ds)
 | .scr _=>.none
 | .ref _=>.none
noncomputable def pys:List D->List PyData
 | []=>[]
 | d::ds=>py d::pys ds
end
mutual
noncomputable def dp:D->Nat
 | .tup ds=>dps ds+1
 | .lst ds=>dps ds+1
 | _=>0
noncomputable def dps:List D->Nat
 | []=>0
 | d::ds=>max (dp d) (dps ds)
end
mutual
noncomputable def sz:D->Nat
 | .int _=>60
 | .str x=>10 * x.length+2
 | .tup ds=>szs ds+3
 | .lst ds=>szs ds+3
 | _=>5
noncomputable def szs:List D->Nat
 | []=>0
 | d::ds=>sz d+2+szs ds
end
theorem Plns.mem:∀{ds:List D},Plns j ds->∀d∈ds,Pln j d
 | _::_,h,d,hd=>by
  rcases JH.mp hd with rfl | hd
  ·exact h.1
  ·exact Plns.mem h.2 d hd
theorem Plns.of:∀{ds:List D},(∀d∈ds,Pln j d)->Plns j ds
 | [],_=>trivial
 | d::ds,h=>⟨h d (Jy ..),Plns.of λe a=>h e (JE _ a)⟩
mutual
theorem Pln.up:∀(d:D),Pln j d->Pln (j+1) d
 | .non,_=>trivial
 | .bl _,_=>trivial
 | .int i,h=>by have h:i.natAbs<=cr j:=h;show i.natAbs<=cr (j+1);unfold cr at *;omega
 | .str x,h=>⟨by have:=h.1;omega,h.2⟩
 | .tup ds,h=>Plns.up ds h
 | .lst ds,h=>Plns.up ds h
 | .scr _,h=>h.elim
 | .ref _,h=>h.elim
theorem Plns.up:∀(ds:List D),Plns j ds->Plns (j+1) ds
 | [],_=>trivial
 | d::ds,h=>⟨Pln.up d h.1,Plns.up ds h.2⟩
end
theorem kW:∀{ds:List D}{d:D},d∈ds->dp d<=dps ds
 | e::ds,d,h=>by
  rcases JH.mp h with rfl | h
  ·show dp d<=max (dp d) (dps ds);omega
  ·have:=kW h;show dp d<=max (dp e) (dps ds);omega
theorem pV:∀{ds:List D},(∀d∈ds,dp d<=n)->dps ds<=n
 | [],_=>Kg _
 | d::ds,h=>by
  have:=h d (Jy ..);have:=pV λe a=>h e (JE _ a);show max (dp d) (dps ds)<=n;omega
theorem kj:∀(xs ys:List D),szs (xs++ys)=szs xs+szs ys
 | [],_=>by simp[szs]
 | d::xs,ys=>by
  show sz d+2+szs (xs++ys)=sz d+2+szs xs+szs ys;rw[kj xs ys];omega
theorem jU:∀(xs:List D),2 * xs.length<=szs xs
 | []=>Ju _
 | d::xs=>by
  have:=jU xs;show 2 * (xs.length+1)<=sz d+2+szs xs;omega
theorem Bv(h:xs[i]?=some d):szs xs=szs (xs.take i)+(sz d+2)+szs (xs.drop (i+1)):=by
 have a:=(Js.mp h).1;have e:xs=xs.take i++(d::xs.drop (i+1)):=by
  have:=Js.mp h
  conv=>lhs;rw[<- List.take_append_drop i xs,Ma a]
  rw[this.2]
 conv=>lhs;rw[e,kj]
 show szs _+(sz d+2+szs _)=_;omega
mutual
theorem jR(S:Sto):∀(d:D)(n:Nat),Pln j d->dp d<n->i8 n S d=some (py d)
 | .non,n+1,_,_=>rfl
 | .bl _,n+1,_,_=>rfl
 | .int _,n+1,_,_=>rfl
 | .str _,n+1,_,_=>rfl
 | .tup ds,n+1,h,a=>by
  show(e9 (i8 n S) ds).map PyData.tuple=_;rw[bI S ds n h (by have:dps ds+1<n+1:=a;omega)];rfl
 | .lst ds,n+1,h,a=>by
  show(e9 (i8 n S) ds).map PyData.list=_;rw[bI S ds n h (by have:dps ds+1<n+1:=a;omega)];rfl
 | .scr _,_,h,_=>h.elim
 | .ref _,_,h,_=>h.elim
 | .non,0,_,h=>by omega
 | .bl _,0,_,h=>by omega
 | .int _,0,_,h=>by omega
 | .str _,0,_,h=>by omega
 | .tup _,0,_,h=>by omega
 | .lst _,0,_,h=>by omega
theorem bI(S:Sto):∀(ds:List D)(n:Nat),Plns j ds->dps ds<n->e9 (i8 n S) ds=some (pys ds)
 | [],n,_,_=>rfl
 | d::ds,n,h,hn=>by
  have hn:max (dp d) (dps ds)<n:=hn;simp only[e9,jR S d n h.1 ∅,bI S ds n h.2 ∅];rfl
end
theorem pJ(h:Asc x):PyData.strOk x=true:=by
 unfold PyData.strOk;rw[Array.all_eq_true'];intro c a;have:=h c (by simpa using a);grind
mutual
theorem gy:∀d:D,Pln j d->(py d).canLay0=true
 | .non,_=>rfl
 | .bl _,_=>rfl
 | .int _,_=>rfl
 | .str x,h=>by show PyData.canLay0 (.str x)=true;simp only[PyData.canLay0];exact pJ h.2
 | .tup ds,h=>by show PyData.canLay0 (.tuple (pys ds))=true;simp only[PyData.canLay0];exact cy ds h
 | .lst ds,h=>by show PyData.canLay0 (.list (pys ds))=true;simp only[PyData.canLay0];exact cy ds h
 | .scr _,h=>h.elim
 | .ref _,h=>h.elim
theorem cy:∀ds:List D,Plns j ds->PyData.canLayAll0 (pys ds)=true
 | [],_=>rfl
 | d::ds,h=>by show PyData.canLayAll0 (py d::pys ds)=true;simp only[PyData.canLayAll0,gy d h.1,cy ds h.2,MK]
end
mutual
theorem aS:∀d:D,(py d).depth<=dp d
 | .non=>by show PyData.depth .none<=_;simp[PyData.depth]
 | .bl b=>by show PyData.depth (.bool b)<=_;simp[PyData.depth]
 | .int i=>by show PyData.depth (.int i)<=_;simp[PyData.depth]
 | .str x=>by show PyData.depth (.str x)<=_;simp[PyData.depth]
 | .tup ds=>by show PyData.depth (.tuple (pys ds))<=dps ds+1;simp only[PyData.depth];have:=T9 ds;omega
 | .lst ds=>by show PyData.depth (.list (pys ds))<=dps ds+1;simp only[PyData.depth];have:=T9 ds;omega
 | .scr _=>by show PyData.depth .none<=_;simp[PyData.depth]
 | .ref _=>by show PyData.depth .none<=_;simp[PyData.depth]
theorem T9:∀ds:List D,PyData.depthAll (pys ds)<=dps ds
 | []=>by show PyData.depthAll []<=0;simp[PyData.depthAll]
 | d::ds=>by
  have:=aS d;have:=T9 ds;show PyData.depthAll (py d::pys ds)<=max (dp d) (dps ds);simp only[PyData.depthAll];omega
end
structure Any(j N:Nat)(d:D):Prop where
 pl:Pln j d
 dp:dp d<=3+j
 sz:sz d<=N
def inW(ws:List Str):D->Bool
 | .str x=>decide (x∈ws)
 | _=>false
theorem yA(ws:List Str)(x:Str):((ws.map PyData.str).any λy=>PyData.eqv y (.str x))=decide (x∈ws):=by
 induction ws with
 | nil=>rfl
 | cons w ws a=>
  rw[JI,Lv,a];rw[LL,MN,JJ,JJ,JH];have:PyData.eqv (.str w) (.str x)=(w==x):=by simp only[PyData.eqv]
  rw[this];constructor
  ·grind
  ·grind
theorem vL(a:∀x,p≠.str x)(ws:List Str):((ws.map PyData.str).any λy=>PyData.eqv y p)=false:=by
 induction ws with
 | nil=>rfl
 | cons w ws b=>
  rw[JI,Lv,b,Bool.or_false];ext p <;> first | (simp only[PyData.eqv];done) | exact absurd rfl (a _)
theorem EJ(h:Pln j d)(ws:List Str):((ws.map PyData.str).any λy=>PyData.eqv y (py d))=inW ws d:=by
 cases d with
 | str x=>exact yA ws x
 | scr _=>exact h.elim
 | ref _=>exact h.elim
 | _=>exact vL (λx e=>by ext e) ws
theorem bu(n:Nat)(S:Sto):∀ws:List Str,e9 (i8 (n+1) S) (ws.map D.str)=some (ws.map PyData.str)
 | []=>rfl
 | w::ws=>by
  have e:i8 (n+1) S (.str w)=some (.str w):=rfl;simp only[JI,e9,e,bu n S ws]
theorem fU:∀ws:List Str,(∀w∈ws,Asc w)->PyData.canLayAll0 (ws.map PyData.str)=true
 | [],_=>rfl
 | w::ws,h=>by simp only[JI,PyData.canLayAll0,PyData.canLay0,pJ (h w (Jy ..)),fU ws λv a=>h v (JE _ a),MK]
theorem gz(h:Any j N d)(b:j<=40){ws:List Str}(a:∀w∈ws,Asc w)(S:Sto):b7 .In d (.tup (ws.map D.str)) S=.ok (.bl (inW ws d)) S:=by
 show inD false d (.tup (ws.map D.str)) S=_;unfold inD;have e:i8 64 S (.tup (ws.map D.str))=some (.tuple (ws.map PyData.str)):=by
  show(e9 (i8 63 S) (ws.map D.str)).map PyData.tuple=_;rw[bu 62 S ws];rfl
 rw[jR S d 64 h.pl (by have:=h.dp;omega),e];show bT false (py d) (ws.map PyData.str) S=_;unfold bT;have hd:=aS d;rw[if_pos ⟨gy d h.pl,fU ws a,by have:=h.dp;omega⟩,EJ h.pl];rfl
theorem dw:∀a:List Bool,K0 (a.map D.bl)=some a
 | []=>rfl
 | b::a=>by simp only[JI,K0,dw a,NF]
theorem any_ok(a:List Bool)(S:Sto):yw (.lst (a.map D.bl)) S=.ok (.bl (a.any id)) S:=by
 show bind (lstOf (.lst (a.map D.bl))) _ S=_;rw[a7 (show lstOf (.lst (a.map D.bl)) S=.ok (a.map D.bl) S from rfl),dw];rfl
theorem all_ok(a:List Bool)(S:Sto):qL (.lst (a.map D.bl)) S=.ok (.bl (a.all id)) S:=by
 show bind (lstOf (.lst (a.map D.bl))) _ S=_;rw[a7 (show lstOf (.lst (a.map D.bl)) S=.ok (a.map D.bl) S from rfl),dw];rfl
theorem Any.at(h:Any j N (.tup ds))(hd:d∈ds):Any j N d:=by
 obtain⟨i,a,e⟩:=Me hd;have g:dps ds+1<=3+j:=h.dp;have b:szs ds+3<=N:=h.sz;have c:=kW hd;have f:=Bv (by rw[Jw a,e]);exact⟨Plns.mem h.pl d hd,by omega,by omega⟩
theorem Any.len(h:Any j N (.tup ds)):ds.length<=N:=by
 have h2:szs ds+3<=N:=h.sz;have:=jU ds;omega
mutual
noncomputable def plB:D->Bool
 | .non=>true
 | .bl _=>true
 | .int i=>decide (i.natAbs<=cr 0)
 | .str x=>decide (x.length<=45)&&x.cps.toList.all (· < 128)
 | .tup ds=>su ds
 | .lst ds=>su ds
 | .scr _=>false
 | .ref _=>false
noncomputable def su:List D->Bool
 | []=>true
 | d::ds=>plB d&&su ds
end
mutual
theorem rM:∀d:D,plB d=true->Pln 0 d
 | .non,_=>trivial
 | .bl _,_=>trivial
 | .int i,h=>by
  have h:decide (i.natAbs<=cr 0)=true:=h;exact(Kb h:i.natAbs<=cr 0)
 | .str x,h=>by
  have h:(decide (x.length<=45)&&x.cps.toList.all (· < 128))=true:=h;rw[Jp,JJ,JM]at h;exact⟨h.1,λc hc=>Kb (h.2 c hc)⟩
 | .tup ds,h=>dU ds h
 | .lst ds,h=>dU ds h
 | .scr _,h=>Bool.noConfusion h
 | .ref _,h=>Bool.noConfusion h
theorem dU:∀ds:List D,su ds=true->Plns 0 ds
 | [],_=>trivial
 | d::ds,h=>by
  have h:(plB d&&su ds)=true:=h;rw[Jp]at h;exact⟨rM d h.1,dU ds h.2⟩
end
def smB(n N:Nat)(d:D):Bool:=plB d&&decide (dp d<=n)&&decide (sz d<=N)
theorem aH(h:smB n N d=true):Pln 0 d/\dp d<=n/\sz d<=N:=by
 unfold smB at h;rw[Jp,Jp,JJ,JJ]at h;exact⟨rM d h.1.1,h.1.2,h.2⟩
theorem Pln.ups{d:D}(h:Pln 0 d):Pln j d:=by
 induction j with
 | zero=>exact h
 | succ j a=>exact a.up
theorem lF(n:Nat)(S:Sto):∀ns:List Int,e9 (i8 (n+1) S) (ns.map D.int)=some (ns.map PyData.int)
 | []=>rfl
 | b::a=>by
  have e:i8 (n+1) S (.int b)=some (.int b):=rfl;simp only[JI,e9,e,lF n S a]
theorem rQ:∀ns:List Int,PyData.canLayAll0 (ns.map PyData.int)=true
 | []=>rfl
 | b::a=>by simp only[JI,PyData.canLayAll0,PyData.canLay0,rQ a,MK]
theorem gC{i:Nat}(h:i<=ds.length):G3 ds none (some (i:Int))=ds.take i:=by
 have e:HT.sIx ds.length ds.length (some (i:Int))=i:=by
  show(if (i:Int)<0 then ((i:Int)+(ds.length:Int)).toNat else min (i:Int).toNat ds.length)=i;rw[if_neg ∅];simp;omega
 unfold G3;rw[e,HT.sIx_none];simp
theorem eW{i:Nat}(h:i<=ds.length):G3 ds (some (i:Int)) none=ds.drop i:=by
 have e:HT.sIx ds.length 0 (some (i:Int))=i:=by
  show(if (i:Int)<0 then ((i:Int)+(ds.length:Int)).toNat else min (i:Int).toNat ds.length)=i;rw[if_neg ∅];simp;omega
 unfold G3;rw[e,HT.sIx_none];rw[Le (by simp)]
theorem cat_tup(h:xs.length+ys.length<=sizeLine):o9 (.tup xs) (.tup ys) S=.ok (.tup (xs++ys)) S:=by
 show(if xs.length+ys.length<=sizeLine then ret (D.tup (xs++ys))else bad) S=_;rw[if_pos h];rfl
theorem v6(ds:List D)(S:Sto):D2 (.tup ds) S=.ok (.int ds.length) S:=rfl
theorem eA(ds:List D)(S:Sto):j4 (.tup ds) S=.ok (A2 ds,ds.length+1) S:=rfl
theorem iF{n:Nat}(h:n<1000)(S:Sto):y4 [.int (n:Int)] S=.ok (eV 0 n,n+1) S:=by
 unfold y4;have a:(n:Int)<1000:=by omega
 have b:(0:Int)<=n:=by omega
 have c:-(2 ^ 62)<=(n:Int)/\(n:Int)<2 ^ 62:=⟨Int.le_trans ⋯ b,Int.lt_trans a ⋯⟩;simp only[if_pos c,LO];rfl
theorem g5{i:Nat}{d:D}(S:Sto)(h:ds[i]?=some d):ixD (.tup ds) (.int (i:Int)) S=.ok d S:=by
 show bY (atI ds (i:Int)) S=_;rw[dz h];rfl
theorem Hb{i:Nat}{d:D}(S:Sto)(h:ds[i]?=some d):ixD (.lst ds) (.int (i:Int)) S=.ok d S:=by
 show bY (atI ds (i:Int)) S=_;rw[dz h];rfl
theorem Q4{α:Type}{src:Src}{l:List α}{h g:α->D}{p:α->Bool}{t:D->M Bool}{f:D->M D}{S:Sto}(hs:∀i,src i S=some (l.map h)[i]?)(hl:l.length<sizeLine)(ht:∀a∈l,t (h a) S=.ok (p a) S)(hf:∀a∈l,p a=true->f (h a) S=.ok (g a) S):g7 src t f (l.length+1) 0 [] S=.ok ((l.filter p).map g) S:=by
 obtain⟨es,S',e,e1,e2⟩:=Ok.comp (src:=src) (t:=t) (f:=f) (n:=l.length) (λi S' es=>S'=S/\es=((l.take i).filter p).map g) (λS' es q=>by obtain⟨q,_⟩:=q;subst q;rw[hs,Kn (by simp)])
  (λi S' es hi ⟨h1,h2⟩=>by
   subst h1 h2;refine⟨h l[i],?_,p l[i],S',ht _ (JX hi),?_⟩
   ·rw[hs,JU,Jw hi];rfl
   ·have ta:l.take (i+1)=l.take i++[l[i]]:=KN hi;cases hp:p l[i] with
    | true=>
     dsimp only;rw[if_pos rfl];refine⟨g l[i],S',hf _ (JX hi) hp,?_,rfl,?_⟩
     ·rw[Jr];have:=Lo p (l.take i);have:=List.length_take_le i l;omega
     ·rw[ta,LJ,KW,LH hp];rfl
    | false=>
     dsimp only;rw[if_neg Jt];refine⟨rfl,?_⟩;rw[ta,LJ,LG (by rw[hp];exact Jt),NK,Kc]) (S:=S) ⟨rfl,rfl⟩
 rw[e];subst e1 e2;rw[MJ]
theorem DT(n i:Nat)(S:Sto):eV 0 n i S=some ((List.range n).map λ(k:Nat)=>D.int (k:Int))[i]?:=by
 show some (if i<n then some (D.int (0+i))else none)=_;grind
theorem n4{α β:Type}{f:α->β}{l:List α}{i:Nat}{a:α}(h:l[i]?=some a):(l.map f)[i]?=some (f a):=by rw[JU,h];rfl
theorem oZ(x:Int):∀ns:List Int,((ns.map PyData.int).any λy=>PyData.eqv y (.int x))=decide (x∈ns)
 | []=>by simp
 | y::ns=>by
  simp only[JI,Lv,oZ x ns,PyData.eqv];rw[LL,MN,JJ,JJ,JH];constructor
  ·grind
  ·grind
theorem wL(x:Int)(ns:List Int)(S:Sto):b7 .In (.int x) (.tup (ns.map D.int)) S=.ok (.bl (decide (x∈ns))) S:=by
 have e:i8 64 S (.tup (ns.map D.int))=some (.tuple (ns.map PyData.int)):=by
  show(e9 (i8 63 S) (ns.map D.int)).map PyData.tuple=_;rw[lF 62 S ns];rfl
 show inD false (.int x) (.tup (ns.map D.int)) S=_;unfold inD;rw[e];show bT false (.int x) (ns.map PyData.int) S=_;unfold bT;have hd:PyData.depth (.int x)=0:=by simp[PyData.depth]
 rw[if_pos ⟨rfl,rQ ns,by rw[hd];omega⟩,oZ];rfl
def Ex(S S':Sto):Prop:=∃T,S'=S++T
theorem Ex.refl(S:Sto):Ex S S:=⟨[],by simp⟩
theorem Ex.trans(h:Ex a b)(k:Ex b c):Ex a c:=by
 obtain⟨t,rfl⟩:=h;obtain⟨u,rfl⟩:=k;exact⟨t++u,by simp⟩
theorem Ex.at{S S':Sto}(h:Ex S S'){q:Nat}(hq:q<S.length):S'[q]?=S[q]?:=by
 obtain⟨t,rfl⟩:=h;rw[Jz hq]
theorem GV(e:S[n]?=some (.lst es)):lstOf (.ref n) S=.ok es S:=by simp only[lstOf,e]
def Fw(ns:List Int)(p N:Nat)(S:Sto):Prop:=∃a l t:Int,S[p]?=some (i3 ns a l t)/\0<=a/\0<=l/\0<=t/\t+N<1000000
theorem Fw.less{p N K:Nat}{S:Sto}(h:Fw ns p N S)(g:K<=N):Fw ns p K S:=by
 obtain⟨a,l,t,e,b,d,c,f⟩:=h;exact⟨a,l,t,e,b,d,c,by omega⟩
theorem Fw.keep(h:Fw ns p N S)(e:S'[p]?=S[p]?):Fw ns p N S':=by
 obtain⟨a,l,t,c,b⟩:=h;exact⟨a,l,t,by rw[e];exact c,b⟩
theorem Fw.lt(h:Fw ns p N S):p<S.length:=by
 obtain⟨a,l,t,e,_⟩:=h;grind
theorem Fw.push(h:Fw ns p N S)(o:O):Fw ns p N (S++[o]):=h.keep (by rw[Jz h.lt])
def Xn{a:Type}(m:M a)(S:Sto)(Q:Nat->Sto->Prop):Prop:=∃n S',m S=.exn n S'/\Q n S'
theorem Xn.bind{k:α->M β}{S:Sto}{Q:Nat->Sto->Prop}(h:Xn m S Q):Xn (L3.bind m k) S Q:=by
 obtain⟨n,S',e,q⟩:=h;exact⟨n,S',by unfold L3.bind;rw[e],q⟩
theorem Xn.ok{k:α->M β}{S:Sto}{Q:Nat->Sto->Prop}(h:Ok m S λa S1=>Xn (k a) S1 Q):Xn (L3.bind m k) S Q:=by
 obtain⟨a,S1,e,n,S',b,q⟩:=h;exact⟨n,S',by unfold L3.bind;rw[e];exact b,q⟩
theorem Xn.cg(e:m=m')(h:Xn m' S Q):Xn m S Q:=e▸h
theorem Ok.nx(h:Ok m S Q):Ok (L3.nx m) S Q:=by
 obtain⟨a,S1,e,q⟩:=h;exact⟨a,S1,by unfold L3.nx;rw[e],q⟩
theorem Ok.try_{b:Nat->Bool}{c:Option Nat}{ρ:L3.Env}{S:Sto}{Q:Fl->Sto->Prop}(k:Ok (g ρ) S Q):Ok (X3 g b c h ρ) S Q:=by
 obtain⟨a,S1,e,q⟩:=k;exact⟨a,S1,by unfold X3;rw[e],q⟩
theorem Ok.caught{a:Nat->Bool}{b:Option Nat}{ρ:L3.Env}{S:Sto}{Q:Fl->Sto->Prop}(k:Xn (g ρ) S λn S1=>∃c fs,S1[n]?=some (.exc c fs)/\a c=true/\Ok (h (rW b n ρ)) S1 λd S2=>Q (jW b d) S2):Ok (X3 g a b h ρ) S Q:=by
 obtain⟨n,S1,e,c,fs,j,hs,i⟩:=k;obtain⟨d,S2,f,q⟩:=i;refine⟨jW b d,S2,?_,q⟩;unfold X3;rw[e];simp only[j,hs,if_true];unfold L3.bind L3.nx;rw[f];rfl
def nxt{d:Type}(q:EvK)(e:Lc)(c:List Stmt)(k:Fl->M d):Fl->M d:=λb=>match b with
 | .nx a=>i7 q e c a k
 | b=>k b
section
variable {α:Type}{q:EvK}{lc:Lc}{st:Stmt}{sts:List Stmt}{ρ:L3.Env}{k:Fl->M α}{S:Sto}{Q:α->Sto->Prop}{P:Nat->Sto->Prop}
theorem Ok.first(h:Ok (q.s lc st ρ (nxt q lc sts k)) S Q):Ok (i7 q lc (st::sts) ρ k) S Q:=h
theorem Ok.nxt(h:Ok (q.s lc st ρ (L3.nxt q lc sts k)) S Q):Ok (L3.nxt q lc (st::sts) k (.nx ρ)) S Q:=h
theorem Xn.first(h:Xn (q.s lc st ρ (nxt q lc sts k)) S P):Xn (i7 q lc (st::sts) ρ k) S P:=h
theorem Xn.nxt(h:Xn (q.s lc st ρ (L3.nxt q lc sts k)) S P):Xn (L3.nxt q lc (st::sts) k (.nx ρ)) S P:=h
theorem Ok.pos[Decidable c]{a b:M α}(h:c)(k:Ok a S Q):Ok (if c then a else b) S Q:=by rw[if_pos h];exact k
theorem Ok.neg[Decidable c]{a b:M α}(h:¬ c)(k:Ok b S Q):Ok (if c then a else b) S Q:=by rw[if_neg h];exact k
theorem Xn.pos[Decidable c]{a b:M α}(h:c)(k:Xn a S P):Xn (if c then a else b) S P:=by rw[if_pos h];exact k
theorem Xn.neg[Decidable c]{a b:M α}(h:¬ c)(k:Xn b S P):Xn (if c then a else b) S P:=by rw[if_neg h];exact k
end
def fin{b:Type}(κ:Fl->M b):Fl->M b:=λa=>match a with
 | .nx ρ=>κ (.nx ρ)
 | a=>κ a
theorem Xn.cgS(e:m S=m' S)(h:Xn m' S Q):Xn m S Q:=by
 obtain⟨n,S1,a,q⟩:=h;exact⟨n,S1,by rw[e];exact a,q⟩
theorem Xn.eq{k:α->M β}{S S1:Sto}{a:α}{Q:Nat->Sto->Prop}(e:m S=.ok a S1)(h:Xn (k a) S1 Q):Xn (L3.bind m k) S Q:=Xn.ok ⟨a,S1,e,h⟩
theorem Xn.mono(h:Xn m S Q)(i:∀n S1,Q n S1->Q' n S1):Xn m S Q':=by
 obtain⟨n,S1,e,q⟩:=h;exact⟨n,S1,e,i _ _ q⟩
theorem sQ{i:Nat}{x:D}{S:Sto}(h:i<ds.length)(n:ds.length<=1000) :
  Ok (bind (gF (.int (i:Int))) λc=>bind (slD (.tup ds) none c) λk=>bind (o9 k (.tup [x])) λb=>bind (o9 (.int (i:Int)) (.int 1)) λj=>bind (gF j) λf=>bind (slD (.tup ds) f none) λx6=>bind (o9 b x6) λx7=>ret x7) S λd S'=>d=.tup (ds.set i x)/\S'=S:=by
 have m:(1001:Nat)<=sizeLine:=by decide
 have e:((i:Int)+1)=((i+1:Nat):Int):=by omega
 have l:G3 ds none (some (i:Int))=ds.take i:=gC ∅;have g:G3 ds (some ((i:Int)+1)) none=ds.drop (i+1):=by rw[e];exact eW ∅
 refine Ok.eq rfl (Ok.eq (a:=.tup (ds.take i)) (by rw[<- l];rfl) (Ok.eq (cat_tup (by simp;omega)) (Ok.eq rfl (Ok.eq rfl (Ok.eq (a:=.tup (ds.drop (i+1))) (by rw[<- g];rfl) (Ok.eq (cat_tup (by simp;omega)) (Ok.ret ⟨?_,rfl⟩)))))));rw[List.set_eq_take_append_cons_drop,if_pos h,LN];rfl
theorem xQ(S:Sto)(a b:O):(S++[a]).set S.length b=S++[b]:=by simp
theorem BB{r:Nat}(h:r<100):Pln 0 (.int (r:Int)):=by
 show((r:Int)).natAbs<=cr 0;have:cr 0≥100:=by decide +kernel
 omega
theorem dh:∀{ds:List D},(∀d∈ds,sz d<=n)->szs ds<=(n+2) * ds.length
 | [],_=>Ju _
 | d::ds,h=>by
  have c:=h d (by simp);have b:=dh (ds:=ds) λx a=>h x (by simp[a]);show sz d+2+szs ds<=(n+2) * (ds.length+1);rw[Nat.mul_add];omega
theorem ph(ns:List Int):∃ms:List Int,G3 (ns.map D.int) none (some 63)=ms.map D.int:=⟨(ns.drop (HT.sIx ns.length 0 none)).take (HT.sIx ns.length ns.length (some 63)-HT.sIx ns.length 0 none),by simp[G3,List.map_drop,List.map_take]⟩
theorem Hr(h:n<=6):n<sizeLine:=Nat.lt_of_le_of_lt h ⋯
theorem X8(n:Nat)(S:Sto):eV 0 n n S=some none:=by
 show some (if n<n then _ else none)=some none;grind
theorem dC{n i:Nat}(h:i<n)(S:Sto):eV 0 n i S=some (some (.int (i:Int))):=by rw[DT,n4 (List.getElem?_range h)]
structure Sml(n N:Nat)(d:D):Prop where
 pl:Pln 0 d
 dp:dp d<=n
 sz:sz d<=N
def Smls(n N:Nat)(ds:List D):Prop:=∀d∈ds,Sml n N d
theorem Smls.nil:Smls n N []:=λd h=>by ext h
theorem Smls.cons(h:Sml n N d)(hs:Smls n N ds):Smls n N (d::ds):=λx a=>by
 rcases JH.mp a with z | z
 ·rw[z];exact h
 ·exact hs x z
theorem Smls.map{b:Type}{n N:Nat}{f:b->D}{l:List b}(h:∀a∈l,Sml n N (f a)):Smls n N (l.map f):=λx c=>by
 obtain⟨a,d,rfl⟩:=Ky.mp c;exact h a d
theorem Sml.mono{d:D}(h:Sml n N d)(b:n<=n')(a:N<=N'):Sml n' N' d:=⟨h.pl,JW h.dp b,JW h.sz a⟩
theorem Sml.up{n N a N':Nat}{d:D}(h:Sml n N d)(c:n<=a:=by decide)(b:N<=N':=by decide):Sml a N' d:=h.mono c b
theorem Sml.tup{ds:List D}(h:Smls n N ds)(a:ds.length<=m):Sml (n+1) ((N+2) * m+3) (.tup ds):=by
 have s:=dh λd hd=>(h d hd).sz;have b:=pV λd hd=>(h d hd).dp;refine⟨Plns.of λd hd=>(h d hd).pl,by show dps ds+1<=n+1;omega,?_⟩;show szs ds+3<=_;have:=Nat.mul_le_mul_left (N+2) a;omega
theorem Sml.nat{n N i:Nat}(h:i<100)(a:60<=N:=by decide):Sml n N (.int (i:Int)):=⟨BB h,Kg _,a⟩
theorem Sml.non{n N:Nat}(a:5<=N:=by decide):Sml n N .non:=⟨trivial,Kg _,a⟩
theorem Sml.bl{n N:Nat}{b:Bool}(a:5<=N:=by decide):Sml n N (.bl b):=⟨trivial,Kg _,a⟩
theorem Sml.w(h:smB n N d=true:=by decide +kernel):Sml n N d:=⟨(aH h).1,(aH h).2.1,(aH h).2.2⟩
theorem Sml.any(h:Sml n N d)(hn:n<=43):Any 40 N d:=⟨h.pl.ups,by have:=h.dp;omega,h.sz⟩
theorem E8(a b:Int)(S:Sto):b7 .Eq (.int a) (.int b) S=.ok (.bl (decide (a=b))) S:=rfl
theorem Fs(a b:Int)(S:Sto):b7 .NotEq (.int a) (.int b) S=.ok (.bl (!decide (a=b))) S:=rfl
theorem jq(a b:Int)(S:Sto):b7 .Lt (.int a) (.int b) S=.ok (.bl (decide (a<b))) S:=rfl
theorem zv(a b:Int)(S:Sto):b7 .GtE (.int a) (.int b) S=.ok (.bl (decide (b<=a))) S:=rfl
theorem cA(a b:Int)(S:Sto):b7 .Gt (.int a) (.int b) S=.ok (.bl (decide (b<a))) S:=rfl
theorem aU(a b:Nat)(S:Sto):o9 (.int (a:Int)) (.int (b:Int)) S=.ok (.int ((a+b:Nat):Int)) S:=by
 show R.ok (D.int ((a:Int)+(b:Int))) S=_;grind
theorem cj{a b:Nat}(h:b<=a)(S:Sto):eO (.int (a:Int)) (.int (b:Int)) S=.ok (.int ((a-b:Nat):Int)) S:=by
 show R.ok (D.int ((a:Int)-(b:Int))) S=_;grind
theorem nx_bind{k:α->M β}{S:Sto}{Q:β->Sto->Prop}(h:Ok m S λa S1=>Ok (k a) S1 Q):Ok (L3.bind (L3.nx m) k) S Q:=Ok.bind (Ok.nx h)
theorem d8(h:Ok m S λd S'=>d=a/\S'=S):m S=.ok a S:=by
 obtain⟨d,S',e,rfl,rfl⟩:=h;exact e
theorem raise_k{κ:Fl->M α}(b:ds.length=fs.length)(a:ds.all (w5 S)=true):Xn (L3.bind (D5 c fs ds) λd=>L3.bind (t7 d) κ) S λn S'=>n=S.length/\S'=S++[.exc c (fs.zip ds)]:=by
 refine Xn.ok ⟨_,_,Bb b a,Xn.bind ⟨S.length,S++[.exc c (fs.zip ds)],?_,rfl,rfl⟩⟩;simp[t7]
theorem Ok.loop{n:Nat}(I:Nat->L3.Env->Sto->Prop)(f:∀ρ S,I n ρ S->src n S=some none)
  (e:∀i ρ S,i<n->I i ρ S->∃d b,src i S=some (some d)/\tg d ρ=some b/\Ok (body b) S λc S'=>∃a,(c=.nx a\/c=.ct a)/\I (i+1) a S') {ρ:L3.Env} {S:Sto} (h:I 0 ρ S) :
  Ok (u0 src tg body (n+1) 0 ρ) S λc S'=>∃a,c=.nx a/\I n a S':=by
 refine(Ok.for_ I (λ_ _=>False) (λ_ _=>False) f (λi ρ S l h=>?_) n 0 ρ S ∅ h).mono ?_
 ·obtain⟨d,b,g,j,k⟩:=e i ρ S l h;refine⟨d,b,g,j,k.mono ?_⟩;rintro c S' ⟨a,rfl | rfl,q⟩
  ·exact q
  ·exact q
 ·grind
theorem Xn.for_{i0:Nat}(I:Nat->L3.Env->Sto->Prop)
  (e:∀i ρ S,i<i0->I i ρ S->∃d a,src i S=some (some d)/\tg d ρ=some a/\Ok (body a) S λl S'=>∃c,l=.nx c/\I (i+1) c S')
  (f:∀ρ S,I i0 ρ S->∃d a,src i0 S=some (some d)/\tg d ρ=some a/\Xn (body a) S P) :
  ∀(k i:Nat)(ρ:L3.Env)(S:Sto),i<=i0->i0<k+i->I i ρ S->Xn (u0 src tg body k i ρ) S P
 | 0,i,ρ,S,o,n,_=>by omega
 | k+1,i,ρ,S,o,n,h=>by
  have m:∀d a,src i S=some (some d)->tg d ρ=some a->u0 src tg body (k+1) i ρ S=L3.bind (body a) (λl=>match l with
    | .nx b=>u0 src tg body k (i+1) b
    | .ct b=>u0 src tg body k (i+1) b
    | .bk b=>L3.ret (.nx b)
    | .rt d=>L3.ret (.rt d)) S:=λd a j g=>by
   conv=>lhs;unfold u0
   simp only[j,g]
   all_goals rfl
  by_cases z:i=i0
  ·subst z;obtain⟨d,a,j,g,x⟩:=f ρ S h;exact Xn.cgS (m d a j g) (Xn.bind x)
  ·obtain⟨d,a,j,g,x⟩:=e i ρ S ∅ h;refine Xn.cgS (m d a j g) (Xn.ok (x.mono ?_));rintro _ S1 ⟨c,rfl,q⟩;exact Xn.for_ I e f k (i+1) c S1 ∅ ∅ q
def CI(n:Nat):D->Bool
 | .tup ds=>decide (ds.length=n)
 | _=>false
theorem pH(a b:Nat):decide ((a:Int)=(b:Int))=decide (a=b):=by grind
theorem wF{f:D->M D}{S:Sto}(a:ds.length<sizeLine)(b:∀d∈ds,f d S=.ok (.bl (p d)) S):g7 (A2 ds) (λ_=>ret true) f (ds.length+1) 0 [] S=.ok ((ds.map p).map D.bl) S:=by
 have c:=i2 (h:=id) (t:=λ_=>ret true) a (λ_ _=>rfl) (λd hd _=>b d hd);rw[List.map_id,La.mpr (λ_ _=>rfl)]at c;simp_all
theorem yL(h:CI m d=true):∃ds,d=.tup ds/\ds.length=m:=by
 cases d with
 | tup ds=>exact⟨ds,rfl,Kb h⟩
 | _=>ext h
theorem all_map(ds:List D)(p:D->Bool):(ds.map p).all id=ds.all p:=by rw[MS];rfl
theorem DP(h:inW ws d=true):∃w,d=.str w/\w∈ws:=by
 cases d with
 | str w=>exact⟨w,rfl,Kb h⟩
 | _=>ext h
theorem sd{c:Type}{p:D->Bool}{f:c->D}{q:c->Prop}(h:∀d,p d=true->∃b,f b=d/\q b):∀{ds:List D},ds.all p=true->∃a:List c,a.map f=ds/\∀b∈a,q b
 | [],_=>⟨[],rfl,λb z=>by cases z⟩
 | d::ds,e=>by
  rw[Kt,Jp]at e;obtain⟨b,rfl,g⟩:=h d e.1;obtain⟨a,rfl,hs⟩:=sd h e.2;exact⟨b::a,rfl,λx i=>by
   rcases JH.mp i with rfl | z
   ·exact g
   ·exact hs x z⟩
end L3
namespace L2
open PySem PySem.Spec PyProof.Rows
section
variable {prog:Program}{w:World}{A:Around}{elt target iter:Expr}{ifs:List Expr}{gens:List Comprehension}{scope:Scope}{pos:Pos}{k:Nat}{it acc:Value}{env:PySem.Env}
theorem rE(hg:gens[k]?=some ⟨target,iter,ifs,0⟩)(hl:gens[k+1]?=none):compTurn (.ListComp elt gens scope pos) k it acc env=(do
   standAt iter.pos
   match <- pyNext it with
   | none=>pure (.done .next)
   | some v=>
    letOwnedTupleGo target it v
    assign target env v
    let mut ok:=true
    for c in ifs do
     if ok then ok <- isTrue c env (eval c env)
    if ok then
     (do let _ <- call (.builtin "list.append") [acc,<- eval elt env])
    again (.compLoop (.ListComp elt gens scope pos) k it acc env)):=by
 unfold compTurn;simp only[hg,hl];rfl
theorem vw(hg:gens[k]?=some ⟨target,iter,ifs,0⟩)(hl:gens[k+1]?=some ⟨t1,i1,ifs1,0⟩):compTurn (.ListComp elt gens scope pos) k it acc env=(do
   standAt iter.pos
   match <- pyNext it with
   | none=>pure (.done .next)
   | some v=>
    letOwnedTupleGo target it v
    assign target env v
    let mut ok:=true
    for c in ifs do
     if ok then ok <- isTrue c env (eval c env)
    if ok then
     let x <- eval i1 env
     standAt i1.pos
     let x <- foldedSetIterable i1 env x
     let _ <- runOwn (.compStart (.ListComp elt gens scope pos) (k+1) (<- holding [x] (pyIter x)) acc env) env
    again (.compLoop (.ListComp elt gens scope pos) k it acc env)):=by
 unfold compTurn;simp only[hg,hl];rfl
abbrev BT:=(Shared->Prop)->Shared->Prop
def K6(prog:Program)(w:World)(A:Around)(e:Expr)(k:Nat)(it i:Value)(a:PySem.Env)(b:Expr)(ifs:List Expr)(B:BT):Prop:=
 ∀(I:Nat->Shared->Prop)(R:Result->Shared->Prop)(n:Nat)(s:Shared),(∀n s,I n s->wpAny (model prog w) A (pyNext it) (λr d=>match r with
   | none=>R (.ok .next) d
   | some v=>wpAny (model prog w) A (assign b a v) (λ_ g=>
     wpAny (model prog w) A (forIn ifs true λc r=>if r=true then do let h <- isTrue c a (eval c a);pure (ForInStep.yield h)else pure (ForInStep.yield r)) (λh f=>
      if h=true then B (λs'=>∃m,m<n/\I m s') f else ∃m,m<n/\I m f) (λ_ _=>False) g) (λ_ _=>False) d) (λ_ _=>False) s) ->
  I n s->codeAny (model prog w) A (.compLoop e k it i a) R s
def je(prog:Program)(w:World)(A:Around)(d:Expr)(e:Value)(c:PySem.Env):BT:=λP s=>wpAny (model prog w) A (eval d c) (λx a=>
 wpAny (model prog w) A (call (.builtin "list.append") [e,x]) (λ_ b=>P b) (λ_ _=>False) a) (λ_ _=>False) s
def tj(prog:Program)(w:World)(A:Around)(e h:Expr)(k:Nat)(g:Value)(d:PySem.Env):BT:=λP s=>wpAny (model prog w) A (eval h d) (λx b=>
 wpAny (model prog w) A (pyIter x) (λf c=>codeAny (model prog w) A (.compStart e (k+1) f g d) (λr a=>match r with
  | .ok _=>P a
  | .error _=>False) c) (λ_ _=>False) b) (λ_ _=>False) s
theorem L0(o:gens[k]?=some ⟨target,iter,ifs,0⟩)(u:gens[k+1]?=none)(t:∀v,letOwnedTupleGo target it v=pure ()) :
  K6 prog w A (.ListComp elt gens scope pos) k it acc env target ifs (je prog w A elt acc env):=by
 intro I R n s c h;refine NA rfl I (λn s p=>?_) n h;refine NO ?_;rw[rE o u];refine Jn (KF (Jn (JO (c n s p) (λr g b=>?_) λ_ _ h'=>h'.elim)));cases r with
 | none=>exact Jo b
 | some v=>
  refine Jn (ML (t v) ?_);refine Jn (JO b (λ_ m d=>Jn (JO d (λq l a=>?_) λ_ _ h'=>h'.elim)) λ_ _ h'=>h'.elim);cases q with
  | false=>exact Jo ⟨rfl,a⟩
  | true=>
   exact Jn (Jn (JO a (λx i f=>Jn (JO f (λ_ j e=>Jo (Jo ⟨rfl,e⟩)) λ_ _ h'=>h'.elim)) λ_ _ h'=>h'.elim))
theorem Y6(hg:gens[k]?=some ⟨target,iter,ifs,0⟩)(hl:gens[k+1]?=some ⟨t1,i1,ifs1,0⟩)(hfs:∀x,foldedSetIterable i1 env x=pure x)(ht:∀v,letOwnedTupleGo target it v=pure ()) :
  K6 prog w A (.ListComp elt gens scope pos) k it acc env target ifs (tj prog w A (.ListComp elt gens scope pos) i1 k acc env):=by
 intro I R n s turn h;refine NA rfl I (λn s hI=>?_) n h;refine NO ?_;rw[vw hg hl];refine Jn (KF (Jn (JO (turn n s hI) (λr s₁ h₁=>?_) λ_ _ h'=>h'.elim)));cases r with
 | none=>exact Jo h₁
 | some v=>
  refine Jn (ML (ht v) ?_);refine Jn (JO h₁ (λ_ s₂ h₂=>Jn (JO h₂ (λok s₃ h₃=>?_) λ_ _ h'=>h'.elim)) λ_ _ h'=>h'.elim);cases ok with
  | false=>exact Jo ⟨rfl,h₃⟩
  | true=>
   refine Jn (JO h₃ (λx s₄ h₄=>Jn (KF ?_)) λ_ _ h'=>h'.elim);rw[hfs x];refine Jn (Jo (Jn (Kf (JO h₄ (λitv s₅ h₅=>?_) λ_ _ h'=>h'.elim))));refine Jn (wpAny_runOwn (Ld h₅ λr s₆ h₆=>?_));cases r with
   | ok f=>exact Jo ⟨rfl,h₆⟩
   | error e=>exact h₆.elim
theorem DW(d:gens[k]?=some ⟨target,iter,ifs,0⟩)
  (b:codeAny (model prog w) A (.compLoop (.ListComp elt gens scope pos) k it acc env) R s)
  (h:wpAny (model prog w) A (pyIter it) (λa s'=>codeAny (model prog w) A (.compLoop (.ListComp elt gens scope pos) k a acc env) R s')
   (notedBy (model prog w) A env λx s'=>R (.error x) s') s) :
  codeAny (model prog w) A (.compStart (.ListComp elt gens scope pos) k it acc env) R s:=by
 refine NG ?_;refine wpAny_notedAt ?_;have c:(clausesOf (.ListComp elt gens scope pos))[k]?=some ⟨target,iter,ifs,0⟩:=d;unfold compStart;rw[c];refine Jn (wpAny_askSetting (wpAny_ite ?_));split
 ·first
   | exact Jn (Jo (Jo (And.intro rfl b)))
   | exact Jo (And.intro rfl b)
 ·refine Jn (Nz ?_);exact Jn (KF (Jn (JO h (λa s' h'=>Jo (And.intro rfl h')) λ_ _ x=>x)))
end
abbrev TBo(β:Type):=Nat->St->Hp->β->(β->Hp->Prop)->Prop
abbrev TB:=TBo (List V)
def tEl(te:TE):TB:=λa b H ys Q=>te b H λz H'=>H' a=some (.lst ys)/\ys.length<sizeLine/\Q (ys++[z]) (upd H' a (.lst (ys++[z])))
def uV{c:Type}(J:It)(h:TT)(k:Nat)(o:TBo c):TBo c:=λd f j ys Q=>∃W:Nat->Nat->c->Hp->Prop,(∃m,W 0 m ys j) /\
 ∀i m ys a,W i m ys a->(J.stop i a/\Q ys a)\/(J.go i a/\∀x g,J.yld i a x g->h (f.set k (some x)) g λb e=>
  if b=true then o d (f.set k (some x)) e ys (λn l=>∃m',m'<m/\W (i+1) m' n l)else ∃m',m'<m/\W (i+1) m' ys e)
def tLv{c:Type}(e:TI)(d:TT)(k:Nat)(g:TBo c):TBo c:=λa b H ys Q=>e b H λJ f=>uV J d k g a b f ys Q
def Zn(n k:Nat)(a:St):Prop:=∀i,k<i->i<n->a[i]?=some none
def J7{b:Type}(Y:Cx)(n k:Nat)(B:BT)(c:Nat)(e:TBo b):Prop:=∀(π:List (Addr×Obj)) (s:Shared) (a:St) (H:Hp) (ys:b) (Q:b->Hp->Prop) (P:Shared->Prop),Zn n k a->Inv Y π a H s->e c a H ys Q->(∀d H' s',Inv Y π a H' s'->Q d H'->P s')->B P s
section
variable {X:Cx}{pins0:List (Addr×Obj)}{N':List Str}{scope:Scope}{C:Addr}{fp0:List Addr}{s0:Shared}{H0:Hp}
theorem C6{a:Nat}{te:TE}{n k:Nat}(p:PE (b6 X pins0 N' scope C fp0 s0 H0) elt te):J7 (b6 X pins0 N' scope C fp0 s0 H0) n k (je X.prog X.w X.A elt (.ref a) (b6 X pins0 N' scope C fp0 s0 H0).env) a (tEl te):=by
 intro π s g H ys Q P _ I h r;refine g9 (thn (p π s g H _ I h) λz l ⟨y,d,i,f,b,c,q⟩=>?_);refine g9 (thn (U8 _ l _ d (.ref a) [y] (.ref a) [z] (λ_ H'=>H'=upd d a (.lst (ys++[y]))) i rfl (.cons f .nil) ⟨_,ys,y,rfl,rfl,b,c,rfl⟩) λ_ j ⟨_,e,o,_,m⟩=>?_);grind
theorem dm{n k:Nat}{x:Str}{px:Pos}{ifs:List Expr}{B:BT}{tc:TT}{β:Type}{tb:TBo β}{g it:Nat}{l:List Addr}{tn:Nat->Heap->Prop}{J:It}{π:List (Addr×Obj)}{f:St}{H:Hp}{s:Shared}{ys:β}{Q:β->Hp->Prop}{R:Result->Shared->Prop}
  (hc:X.calm=true) (hN:N'.Nodup) (hx0:N'[k]?=some x) (I:scope.names.lookup x=some .local)
  (L:K6 X.prog X.w X.A e k (.ref it) (.ref g) (b6 X pins0 N' scope C fp0 s0 H0).env (.Name x px) ifs B)
  (ht:PTL (b6 X pins0 N' scope C fp0 s0 H0) ifs tc) (t:J7 (b6 X pins0 N' scope C fp0 s0 H0) n k B g tb) (N:Turn X.prog X.w X.K (.Name x px) J l it tn)
  (c:∀{H':Hp},(∀b∈l,H' b=none)->∀b∈l,D3 (b6 X pins0 N' scope C fp0 s0 H0) π H' b)
  (I0:Inv (b6 X pins0 N' scope C fp0 s0 H0) π f H s) (st:tn 0 s.heap) (fr:∀b∈l,H b=none) (hσ:f[k]?=some none) (hz:Zn n k f) (h:uV J tc k tb g f H ys Q)
  (V:∀zs H' s',Inv (b6 X pins0 N' scope C fp0 s0 H0) π f H' s'->Q zs H'->R (.ok .next) s'):codeAny (model X.prog X.w) X.A (.compLoop e k (.ref it) (.ref g) (b6 X pins0 N' scope C fp0 s0 H0).env) R s:=by
 obtain⟨W,⟨m0,w0⟩,G⟩:=h;refine L (λn s'=>∃i ys H',Inv (b6 X pins0 N' scope C fp0 s0 H0) π f H' s'/\tn i s'.heap/\(∀b∈l,H' b=none)/\W i n ys H') R m0 s ?_ ⟨0,ys,H,I0,st,fr,w0⟩;rintro q s4 ⟨i,ys,y,I4,K,E,w4⟩;rcases G i q ys y w4 with ⟨D,q⟩ | ⟨go,A⟩
 ·refine thn (N.done (b6 X pins0 N' scope C fp0 s0 H0) rfl rfl rfl hc i π s4 _ y (λ_ _=>False) I4 (c E) K D) λr s5 ⟨Y,I5⟩=>?_;subst Y;exact V _ _ _ I5 q
 ·refine thn (N.item (b6 X pins0 N' scope C fp0 s0 H0) rfl rfl rfl hc i π s4 _ y (λ_ _=>False) I4 (c E) K go) λr s5 ⟨u,Y,h5⟩=>?_;subst Y;refine g9 (dL rfl (thn h5 λ_ Z ⟨O,H6,I6,r6,y6,m,S⟩=>?_));have T:=I6.pinned (c S) (N.obj _ _ m);refine thn (M0 (X:=(b6 X pins0 N' scope C fp0 s0 H0)) hN hx0 (.inl (KQ I)) (.inr (KQ I)) _ Z _ H6 O u (λσ2 y=>σ2=f.set k (some O)/\y=H6) T r6 ⟨rfl,rfl⟩) λ_ s7 ⟨σ7,H7,I7,e7,P⟩=>?_;subst e7 P;have a:∀{z:St}{w:Hp}{F:Shared},Inv (b6 X pins0 N' scope C fp0 s0 H0) (π++G8 l Z.heap) z w F->tn (i+1) F.heap/\∀b∈l,w b=none:=λ{z w F} p=>by
   refine⟨N.keep _ _ _ m λb t o e=>(p.pin (b,o) (JV _ (JV _ (u8 t e)))).1,λb t=>?_⟩;obtain⟨o,e,d⟩:=N.obj _ _ m b t;exact(p.pin (b,o) (JV _ (JV _ (u8 t e)))).2.1
  have wk:∀{H9:Hp}{s9:Shared},Inv (b6 X pins0 N' scope C fp0 s0 H0) (π++G8 l Z.heap) (f.set k (some O)) H9 s9->Inv (b6 X pins0 N' scope C fp0 s0 H0) π f H9 s9:=λ{H9 s9} M=>
   M.unpinned.weak (by simp) λj v e=>by
    by_cases hj:k=j
    ·grind
    ·grind
  refine g9 (thn (ht _ s7 _ _ _ I7 (A O _ y6)) λb F ⟨w,p,q8⟩=>?_);cases b with
  | false=>
   obtain⟨m',U,w'⟩:=q8;exact⟨m',U,i+1,ys,w,wk p,(a p).1,(a p).2,w'⟩
  | true=>
   rw[if_pos rfl]at q8 ⊢;exact t _ F _ w ys _ _ (λi h1 h2=>by rw[Kk ∅];exact hz i h1 h2) p q8 λzs H' s' M ⟨m',U,w'⟩=>⟨m',U,i+1,zs,H',wk M,(a M).1,(a M).2,w'⟩
theorem R6{a:List Comprehension}{pos:Pos}{n k:Nat}{x:Str}{w:Pos}{u:Expr}{ifs:List Expr}{B:BT}{E:TI}{G:TT}{U:Type}{F:TBo U}{c:Nat}(O:a[k+1]?=some ⟨.Name x w,u,ifs,0⟩)(z:k+1<n)
  (Y:X.calm=true) (W:N'.Nodup) (y:N'[k+1]?=some x) (v:scope.names.lookup x=some .local)
  (L:∀it,K6 X.prog X.w X.A (.ListComp elt a scope pos) (k+1) (.ref it) (.ref c) (b6 X pins0 N' scope C fp0 s0 H0).env (.Name x w) ifs B)
  (M:PI (b6 X pins0 N' scope C fp0 s0 H0) (.Name x w) u E) (T:PTL (b6 X pins0 N' scope C fp0 s0 H0) ifs G) (f:J7 (b6 X pins0 N' scope C fp0 s0 H0) n (k+1) B c F) :
  J7 (b6 X pins0 N' scope C fp0 s0 H0) n k (tj X.prog X.w X.A (.ListComp elt a scope pos) u k (.ref c) (b6 X pins0 N' scope C fp0 s0 H0).env) c (tLv E G (k+1) F):=by
 intro π s V H ys Q P hz I h J;refine g9 (thn (M π s V H _ I h) λv9 s9 R=>g9 (thn R λD p t=>?_));obtain⟨m,S,Z,J1,N,rfl,A,g,d,j,q⟩:=t;have o:∀e:Shared,e=p->codeAny (model X.prog X.w) X.A (.compLoop (.ListComp elt a scope pos) (k+1) (.ref m) (.ref c) (b6 X pins0 N' scope C fp0 s0 H0).env) (λr l=>match r with
  | .ok _=>P l
  | .error _=>False) e:=by
  rintro e rfl;exact dm Y W y v (L m) T f g (λz b f=>⟨z b f,(j b f).2⟩) A d (λb f=>(j b f).1) (hz _ (Kh _) z) (λi h1 K=>hz i ∅ K) q J
 exact DW O (o _ rfl) (g.self _ 0 _ _ _ d (o _ rfl))
end
def al(n:Nat)(caps:List Nat)(f:TI)(e:TT)(g:TB):TE:=λb H Q=>f b H λJ d=>∀a,d a=none->uV J e 0 g a (List.replicate n none++A8 caps b) (upd d a (.lst [])) [] λys c=>c a=some (.lst ys)/\Q (.ref a) c
section
variable {X:Cx}{elt iter:Expr}{x:Str}{px:Pos}{ifs:List Expr}{gens:List Comprehension}{scope:Scope}{pos:Pos}{N':List Str}{n:Nat}{caps:List Nat}{wi:TI}{tc:TT}{tb:TB}{B:Cx->Nat->BT}
theorem ax(Y:0<n)(T:CompText X.N X.env N' n caps scope)(hc:X.calm=true)(hN:N'.Nodup)(Z:N'[0]?=some x)(R:scope.names.lookup x=some .local)(hi:PI X (.Name x px) iter wi)
  (L:∀it j env,K6 X.prog X.w X.A (.ListComp elt (⟨.Name x px,iter,ifs,0⟩::gens) scope pos) 0 (.ref it) (.ref j) env (.Name x px) ifs (B { X with env:=env } j))
  (ht:∀π C k s H,PTL (b6 X π N' scope C k s H) ifs tc)
  (d:∀π C k s H j,J7 (b6 X π N' scope C k s H) n 0 (B { X with env:=(b6 X π N' scope C k s H).env } j) j tb)
  (hs:∀x,foldedSetIterable iter X.env x=pure x):PE X (.ListComp elt (⟨.Name x px,iter,ifs,0⟩::gens) scope pos) (al n caps wi tc tb):=by
 intro π s U H Q I h;have fr:∀x∈scope.names,x.2=NameKind.free->∃c,X.env.cells.lookup x.1=some c:=λx hx hk=>I.ok.has x.1 (T.free x hx hk).2;rw[eval_ListComp];refine Lw rfl hs (v7 fr) T.kind T.loc ?_;refine thn (hi π s U H _ I h) λv s1 h1=>thn h1 λitv s2 M=>?_;obtain⟨it,k,tn,J,O,rfl,S,K,D,F,M⟩:=M;have V:=M s2.heap.objs.size (S.hok.fresh (Ju _));have E:=λb d=>let ⟨o,e,_⟩:=K.obj _ _ D b d;Jx e
 refine JT (LU T.cell (by intro y hy;simp at hy) (λz f a=>?_) T.kind);have hC:(s2.heap.push { cls:=.type "list",dict:=none,data:=.seq ([]:List Value).toArray }).objs.size=s2.heap.objs.size+1:=KG ..;rw[hC]at f a;have r:=λb o e=>a.extBut b o (JF (Ko (Jx e))) (Jq _ (Jq _ e));have u:=a.extBut _ _ (JF (Kh _)) (Jq _ (JG _ rfl));have g:=K.keep _ _ _ D λb _ o e=>r b o e;have G:=P2 (t:=s2.toks+([]:List (Str×Value)).length) T S F E f r u;have A:∀{H':Hp},(∀b∈k,H' b=none)->∀b∈k,D3 (b6 X π N' scope (s2.heap.objs.size+1) k s2 O) [] H' b:=λY b d=>by
  refine⟨Y b d,(G.ok.exf b d).1,G.ok.exfs b d,.inl d,(G.ok.exf b d).2,λp hp=>?_⟩;have N:p∈X.pn++π:=by
   have:=hp;rwa [Kc]at this
  exact(F b d).2.2.2.2.2 p N
 have zn:∀i,i<n->(List.replicate n none++A8 caps U)[i]?=some none:=λi h=>by
  rw[Jz (by simpa using h),Kv,if_pos h]
 have l:∀W:Shared,W={ s2 with heap:=z,toks:=s2.toks+([]:List (Str×Value)).length } ->
   codeAny (model X.prog X.w) X.A (.compLoop (.ListComp elt (⟨.Name x px,iter,ifs,0⟩::gens) scope pos) 0 (.ref it) (.ref s2.heap.objs.size) (compEnvC scope (O3 X.env.cells scope.names) (s2.heap.objs.size+1) X.env))
    (compPost (model X.prog X.w) X.A X.xe none (EP X π U Q) (.ref s2.heap.objs.size) (s2.heap.objs.size+1)) W:=by
  rintro W rfl;refine dm hc hN Z R (L it _ _) (ht π _ k s2 O) (d π _ k s2 O _) K A G g (λb d=>by rw[a8 (JF (E b d))];exact(F b d).1) (zn 0 Y) (λi _ h=>zn i h) V λzs H4 s5 m ⟨_,q⟩=>?_;obtain⟨m5,P,_⟩:=id m.loc;refine⟨m5,P,λh' hs'=>?_⟩;refine⟨.ref s2.heap.objs.size,H4,?_,rfl,q⟩;refine S.call' m.os (Un.sameBut m.base hs' (KM _)) (m.hok.sameBut m.free hs') m.bare λb d=>?_;have:=F b d;exact⟨this.2.2.2.1,this.2.1,this.2.2.2.2.1,this.2.2.2.2.2⟩
 have w:=MA (l _ rfl) (K.self _ 0 _ _ _ g (l _ rfl));rw[<- hC]at w;exact w
theorem fw{iy:Nat}(S:swapsWith (.ListComp elt (⟨.Name x px,iter,ifs,0⟩::gens) scope pos) (some (.Name y py)) spos.line X.env=pure true)(R:X.N.Nodup)(hiy:X.N[iy]?=some y)(Z:Loc X.env.scope y)(hf:X.fn y=true\/X.env.scope.names.lookup y=some .local)
  (hn:0<n) (T:CompText X.N X.env N' n caps scope) (hc:X.calm=true) (hN:N'.Nodup) (hx0:N'[0]?=some x) (hxl:scope.names.lookup x=some .local) (hi:PI X (.Name x px) iter wi)
  (L:∀it k env,K6 X.prog X.w X.A (.ListComp elt (⟨.Name x px,iter,ifs,0⟩::gens) scope pos) 0 (.ref it) (.ref k) env (.Name x px) ifs (B { X with env:=env } k))
  (ht:∀π C l s H,PTL (b6 X π N' scope C l s H) ifs tc)
  (f:∀π C l s H k,J7 (b6 X π N' scope C l s H) n 0 (B { X with env:=(b6 X π N' scope C l s H).env } k) k tb)
  (hs:∀x,foldedSetIterable iter X.env x=pure x):PS X (.Assign [.Name y py] (.ListComp elt (⟨.Name x px,iter,ifs,0⟩::gens) scope pos) spos) (oh (al n caps wi tc tb) (Z5 iy)):=by
 intro π s σ H D I h;have fr:∀x∈scope.names,x.2=NameKind.free->∃c,X.env.cells.lookup x.1=some c:=λx hx hk=>I.ok.has x.1 (T.free x hx hk).2;rw[exec_Assign_Name_used _ _ _ _ S];refine Jn (KF (Jn ?_));refine Jn (JO (Lw rfl hs (v7 fr) T.kind T.loc ?_) (λ_ s' hq=>Jo (Jo hq)) λ_ _ e=>e);refine thn (hi π s σ H _ I h) λv s1 h1=>thn h1 λitv s2 U=>?_;obtain⟨it,l,tn,J,W,rfl,r,Q,K,O,U⟩:=U;have run:=U s2.heap.objs.size (r.hok.fresh (Ju _));have M:=λb f=>let ⟨o,e,_⟩:=Q.obj _ _ K b f;Jx e
 refine JT (LU T.cell (by intro y Z;simp at Z) (λF g d=>?_) T.kind);have hC:(s2.heap.push { cls:=.type "list",dict:=none,data:=.seq ([]:List Value).toArray }).objs.size=s2.heap.objs.size+1:=KG ..;rw[hC]at g d;have w:=λb o e=>d.extBut b o (JF (Ko (Jx e))) (Jq _ (Jq _ e));have A:=d.extBut _ _ (JF (Kh _)) (Jq _ (JG _ rfl));have j:=Q.keep _ _ _ K λb _ o e=>w b o e;have P:=P2 (t:=s2.toks+([]:List (Str×Value)).length) T r O M g w A;have G:∀{H':Hp},(∀b∈l,H' b=none)->∀b∈l,D3 (b6 X π N' scope (s2.heap.objs.size+1) l s2 W) [] H' b:=λhn b f=>by
  refine⟨hn b f,(P.ok.exf b f).1,P.ok.exfs b f,.inl f,(P.ok.exf b f).2,λp Y=>?_⟩;have V:p∈X.pn++π:=by
   have:=Y;rwa [Kc]at this
  exact(O b f).2.2.2.2.2 p V
 have zn:∀i,i<n->(List.replicate n none++A8 caps σ)[i]?=some none:=λi h=>by
  rw[Jz (by simpa using h),Kv,if_pos h]
 have m:∀s3:Shared,s3={ s2 with heap:=F,toks:=s2.toks+([]:List (Str×Value)).length } ->
   codeAny (model X.prog X.w) X.A (.compLoop (.ListComp elt (⟨.Name x px,iter,ifs,0⟩::gens) scope pos) 0 (.ref it) (.ref s2.heap.objs.size) (compEnvC scope (O3 X.env.cells scope.names) (s2.heap.objs.size+1) X.env))
    (compPost (model X.prog X.w) X.A X.xe (some (assign (.Name y py) X.env)) (λ_ s'=>SP X π D .next s') (.ref s2.heap.objs.size) (s2.heap.objs.size+1)) s3:=by
  rintro s3 rfl;refine dm hc hN hx0 hxl (L it _ _) (ht π _ l s2 W) (f π _ l s2 W _) Q G P j (λb f=>by rw[a8 (JF (M b f))];exact(O b f).1) (zn 0 hn) (λi _ h=>zn i h) run λzs H4 s5 u ⟨_,q⟩=>?_;obtain⟨m5,hn5,_⟩:=id u.loc;have IX:=r.call' u.os u.base u.hok u.bare λb f=>by
   have:=O b f;exact⟨this.2.2.2.1,this.2.1,this.2.2.2.2.1,this.2.2.2.2.2⟩
  have C0:s2.heap.objs.size<=s2.heap.objs.size+1:=KM _;have cC:∀z c,X.env.cells.lookup z=some c->c≠s2.heap.objs.size+1:=λz c e=>by
   obtain⟨v,oc,ho,_⟩:=r.cell z c e;exact JF (Ko (Jx ho))
  have lC:=JF (Ko r.lt);refine wpAny_assign_Name (cO (v:=.ref s2.heap.objs.size) IX R hiy Z rfl (λs6 I6 ⟨a,sb,N⟩=>?_) hf);have aC:s2.heap.objs.size+1≠a:=λz=>by
   rcases N with N | N
   ·grind
   ·exact cC _ _ N z.symm
  refine⟨m5,hn5.sameBut sb aC,λh' hs'=>?_⟩;refine⟨_,H4,I6.turned (λb o f e=>hs'.extBut b o f e) u.free lC.symm (.inr (JW r.sz C0)) cC (λp Y=>?_),q⟩;exact JF (Ko (Jx (r.pin p Y).1))
 have E:=MA (m _ rfl) (Q.self _ 0 _ _ _ j (m _ rfl));rw[<- hC]at E;exact E
end
end L2
namespace L3
open PySem PySem.Spec PyProof.Rows L2
def lvM(src:Src)(t:D->M Bool)(b:D->List D->M (List D)):Nat->Nat->List D->M (List D)
 | 0,_,_=>bad
 | m+1,i,es=>λS=>match src i S with
  | none=>.bad
  | some none=>.ok es S
  | some (some d)=>bind (t d) (λz=>if z=true then bind (b d es) (λes'=>lvM src t b m (i+1) es')else lvM src t b m (i+1) es) S
abbrev TBM:=Env->List D->M (List D)
def elM(f:Env->M D):TBM:=λρ es=>bind (f ρ) λy=>if es.length<sizeLine then ret (es++[y])else bad
def lvB(c:Env->M (Src×Nat))(t:Env->M Bool)(k:Nat)(b:TBM):TBM:=λρ es=>bind (c ρ) λa=>lvM a.1 (λd=>t (ρ.set k (some d))) (λd=>b (ρ.set k (some d))) a.2 0 es
def E4(n:Nat)(caps:List Nat)(ρ:Env):Env:=List.replicate n none++A9 caps ρ
def V2(n:Nat)(caps:List Nat)(c:Env->M (Src×Nat))(t:Env->M Bool)(b:TBM)(ρ:Env):M (List D):=bind (c ρ) λa=>lvM a.1 (λd=>t ((E4 n caps ρ).set 0 (some d))) (λd=>b ((E4 n caps ρ).set 0 (some d))) a.2 0 []
theorem Ft(src:Src)(t:D->M Bool)(b:D->List D->M (List D))(m i:Nat)(es:List D)(κ:List D->M α)(S:Sto):bind (lvM src t b (m+1) i es) κ S=(match src i S with
  | none=>.bad
  | some none=>κ es S
  | some (some d)=>bind (t d) (λz=>if z=true then bind (b d es) (λes'=>bind (lvM src t b m (i+1) es') κ)else bind (lvM src t b m (i+1) es) κ) S):=by
 cases h:src i S with
 | none=>exact(cD (by simp only[lvM,h];rfl)).trans rfl
 | some o=>
  cases o with
  | none=>exact(cD (by simp only[lvM,h];rfl)).trans rfl
  | some d=>
   refine(cD (m':=bind (t d) (λz=>if z=true then bind (b d es) (λes'=>lvM src t b m (i+1) es')else lvM src t b m (i+1) es)) (by simp only[lvM,h])).trans ?_;rw[N7];congr 1;congr 1;funext z;cases z with
   | true=>rw[if_pos rfl,if_pos rfl,N7]
   | false=>rfl
section
variable {K:PySem.W.Frag}{cl:ClW}{xe:Addr->Hp->Prop}
structure Hl(K:PySem.W.Frag)(cl:ClW)(μ1:Mp)(H1:Hp)(acc:Addr)(μ:Mp)(H:Hp)(S:Sto)(ys:List V)(es:List D):Prop where
 h:HLat μ1 H1 acc μ H
 n:acc∉μ.pl
 a:H acc=some (.lst ys)
 r:Rep K cl μ S H
 d:RDs K μ H es ys
theorem Hl.later{b H H':Hp}{a:Addr}{S S':Sto}{ys:List V}{es:List D}(h:Hl K cl μ1 b a μ H S ys es)(l:Lat μ H μ' H')(r:Rep K cl μ' S' H'):Hl K cl μ1 b a μ' H' S' ys es:=
 ⟨h.h.step l,l.out h.a h.n,l.oth _ _ h.a h.n,r,h.d.later l⟩
theorem EnvOk.laterU{H a:Hp}{ρ:Env}{b:L2.St}(h:EnvOk K μ H ρ b)(l:LatU μ H μ1 a):EnvOk K μ1 a ρ b:=⟨h.1,λi d e=>let ⟨v,q,r⟩:=h.2 i d e;⟨v,q,r.laterU l⟩⟩
theorem LatU.tr{H b h:Hp}{S:Sto}(u:LatU μ H μ1 b)(e:μ1.rs=μ.rs)(r:Rep K cl μ1 S b)(l:LatU μ1 b μ2 h):LatU μ H μ2 h:=by
 have g:∀a,b a=none->a∈μ.pl\/a∈μ.rs\/H a=none:=λa q=>by
  by_cases c:a∈μ.pl
  ·exact .inl c
  ·by_cases d:a∈μ.rs
   ·exact .inr (.inl d)
   ·refine .inr (.inr ?_);cases e:H a with
    | none=>rfl
    | some o=>rw[(u.out a o e c d).1]at q;ext q
 have j:∀a,b a=none->a∉μ.rs:=λa q m=>by
  obtain⟨_,w,p⟩:=r.res a (by rw[e];exact m);rw[p]at q;ext q
 refine⟨λn a e=>l.pre n a (u.pre n a e),λa o e c d=>?_,λa f=>?_,λa f=>?_⟩
 ·obtain⟨i,t,s⟩:=u.out a o e c d;exact l.oth a o i t s
 ·rcases l.new a f with q | q
  ·exact u.new a q
  ·grind
 ·rcases l.rsw a f with q | q
  ·exact u.rsw a q
  ·rcases g a q with z | z | z
   ·have:a∈μ1.pl:=by
     obtain⟨n,k⟩:=List.mem_iff_getElem?.mp z;exact List.mem_iff_getElem?.mpr ⟨n,u.pre n a k⟩
    exact absurd this (r.notin q)
   ·exact .inl z
   ·exact .inr z
def Reads(K:PySem.W.Frag)(cl:ClW)(xe:Addr->Hp->Prop)(a:Mp)(d:Hp)(c:Addr)(i:TB)(b:TBM):Prop:=
 ∀(h:Type)(κ:List D->M h)(f:h->Sto->Mp->Hp->Prop)(g:L2.St)(H:Hp)(ys:List V)(Q:List V->Hp->Prop)(μ:Mp)(S:Sto)(ρ:Env)(es:List D),Hl K cl a d c μ H S ys es->EnvOk K μ H ρ g->Post K cl xe a d (bind (b ρ es) κ S) f ->
  (∀e vs μ' S' H',Hl K cl a d c μ' H' S' vs e->LatU μ H μ' H'->Post K cl xe a d (κ e S') f->Q vs H')->i c g H ys Q
variable {μ1:Mp}{H1:Hp}{acc:Addr}
theorem J2(d:H1 acc=none){f:Env->M D}:Reads K cl xe μ1 H1 acc (tEl (tD K cl xe f)) (elM f):=by
 intro w κ t u H ys Q μ S ρ es h r p i;unfold elM at p;rw[N7]at p;refine⟨μ,S,ρ,r,h.r,(Post.at p h.h).imp λy S2 μ2 s c k g v q=>?_⟩;have b:=h.later c k;have j:=b.h.rs;by_cases hz:es.length<sizeLine
 ·rw[if_pos hz]at g;refine⟨b.a,by rw[<- h.d.length];exact hz,i (es++[y]) _ μ2 S2 _ ⟨⟨⟨b.h.r.pre,λa o e n=>?_,b.h.r.new,b.h.r.rsw⟩,j⟩,b.n,b8,cQ j b.a k,cL j (b.d.append (.cons q .nil))⟩ ?_ g⟩
  ·rw[a8 (b9 e d)];exact b.h.r.oth a o e n
  ·refine⟨c.pre,λa o e l m=>?_,c.new,c.r.rsw⟩;rw[a8 (λz=>m (by rw[h.h.rs,z];exact Jy))];exact c.oth a o e l
 ·rw[if_neg hz]at g;exact g.elim
theorem cG{F:TB}{b:TBM}(hb:Reads K cl xe μ1 H1 acc F b){N:Type}{κ:List D->M N}{l:N->Sto->Mp->Hp->Prop}{G:L2.St}{H:Hp}{ys:List V}{Q:List V->Hp->Prop}{μ:Mp}{S:Sto}{ρ:Env}{es:List D}{O:Nat}
  (h:Hl K cl μ1 H1 acc μ H S ys es) (U:EnvOk K μ H ρ G)
  (W:∀i μ2 a S2 w v,Hl K cl μ1 H1 acc μ2 a S2 w v->LatU μ H μ2 a->bf K cl J i μ2 a S2 (src i S2))
  (p:Post K cl xe μ1 H1 (bind (lvM src (λd=>t (ρ.set k (some d))) (λd=>b (ρ.set k (some d))) O 0 es) κ S) l)
  (n:∀j vs μ' S' H',Hl K cl μ1 H1 acc μ' H' S' vs j->LatU μ H μ' H'->Post K cl xe μ1 H1 (κ j S') l->Q vs H'):uV J (tBo K cl xe t) k F acc G H ys Q:=by
 refine⟨λi m ys a=>∃μ2 S2 es,Hl K cl μ1 H1 acc μ2 a S2 ys es/\LatU μ H μ2 a/\Post K cl xe μ1 H1 (bind (lvM src (λd=>t (ρ.set k (some d))) (λd=>b (ρ.set k (some d))) m i es) κ S2) l,⟨O,μ,S,es,h,(Lat.refl _ _).r.u,p⟩,?_⟩;rintro i m ys a ⟨μ2,S2,es,f,g,c⟩;have r:=f.h.rs.trans h.h.rs.symm;cases m with
 | zero=>exact c.elim
 | succ m=>
  have y:=W i μ2 a S2 ys es f g;rw[Ft]at c;cases E:src i S2 with
  | none=>rw[E]at c;exact c.elim
  | some o=>
   rw[E]at c y;cases o with
   | none=>exact .inl ⟨y,n es ys μ2 S2 a f g c⟩
   | some d=>
    obtain⟨R,Y⟩:=y;refine .inr ⟨R,λx H3 hy=>?_⟩;obtain⟨u,B,s⟩:=Y x H3 hy;have I:=f.later u B;have e:=((U.laterU g).later u).set s k;refine⟨μ2,S2,_,e,B,(Post.at c I.h).imp λz T A Z q L P=>?_⟩;have C:=I.later q L;have u5:=g.tr r f.r (u.trans q).r.u;cases z with
    | false=>grind
    | true=>
     refine vy ?_;rw[if_pos rfl]at P;exact hb _ _ l _ Z ys _ A T _ es C (e.later q) P λj vs μ' S' H' X u6 p6=>⟨m,Kh _,μ',S',j,X,u5.tr (C.h.rs.trans h.h.rs.symm) L u6,p6⟩
theorem R8{d:TB}{b:TBM}(r:Reads K cl xe μ1 H1 acc d b):Reads K cl xe μ1 H1 acc (tLv (tIt K cl xe fi) (tBo K cl xe t) k d) (lvB fi t k b):=by
 intro z κ A y H ys Q μ S ρ es h e p c;unfold lvB at p;rw[N7]at p;refine⟨μ,S,ρ,e,h.r,(Post.at p h.h).imp λx w o v a f s J l=>?_⟩;have m:=h.later a f;exact cG r m (e.later a) (λi μ2 j S2 _ _ q u=>l i μ2 j S2 u q.r) s λg vs μ' S' H' q u n=>c g vs μ' S' H' q (a.r.u.tr a.rsv f u) n
theorem fy(n:Nat)(caps:List Nat)(a:EnvOk K μ H ρ σ):EnvOk K μ H (E4 n caps ρ) (List.replicate n none++A8 caps σ):=by
 have c:EnvOk K μ H (A9 caps ρ) (A8 caps σ):=by
  have c:=lG (caps:=caps) a .non;exact⟨by simpa using c.1,λi d e=>by simpa using c.2 (i+1) d (by simpa using e)⟩
 refine⟨by simp[E4,c.1],λi d e=>?_⟩;unfold E4 at e;by_cases b:i<n
 ·grind
 ·rw[Ka (by simp;omega)]at e ⊢;simp at e ⊢;exact c.2 _ _ e
theorem jr{r:TB}{b:TBM}(F:∀f g c,g c=none->Reads K cl xe f g c r b){v:Type}{κ:List D->M v}{w:v->Sto->Mp->Hp->Prop}{s:L2.St}{H:Hp}{Q:VK}{μ:Mp}{S:Sto}{ρ:Env}(u:EnvOk K μ H ρ s)(x:Rep K cl μ S H)
  (p:Post K cl xe μ H (bind (V2 n caps fi t b ρ) κ S) w)
  (k:∀f g c j vs μ' S' H',g c=none->c∉f.rs->Hl K cl f g c μ' H' S' vs j->Post K cl xe f g (κ j S') w->Q (.ref c) H'):al n caps (tIt K cl xe fi) (tBo K cl xe t) r s H Q:=by
 unfold V2 at p;rw[N7]at p;refine⟨μ,S,ρ,u,x,p.bind.imp λG S1 f g y h A J C c d=>?_⟩;have l:=h.notrs d;have z:Hl K cl f g c (f.hold c) (upd g c (.lst [])) S1 [] []:=by
  refine⟨⟨⟨λ_ _ e=>e,λa o e _=>by rw[a8 (b9 e d)];exact e,λa m=>.inl m,λa m=>?_⟩,rfl⟩,h.notin d,b8,av h d,.nil⟩;rcases JH.mp (m)with rfl | m
  ·exact .inr d
  ·exact .inl m
 exact cG (F f g c d) z (aO h d (fy n caps (u.later y))) (λi μ2 B S2 _ _ q _=>C i μ2 B S2 q.h.r.u q.r) A λj vs μ' S' H' q _ E=>⟨q.a,k f g c j vs μ' S' H' d l q E⟩
theorem Y9{f:TB}{b:TBM}(i:∀c d a,d a=none->Reads K cl xe c d a f b){g:L2.St}{H:Hp}{Q:VK}{μ:Mp}{S:Sto}{ρ:Env}(k:EnvOk K μ H ρ g)(j:Rep K cl μ S H)
  (p:Post K cl xe μ H (V2 n caps fi t b ρ S) λds _ μ' H'=>∀a ys,LstAt μ' H' a ys->RDs K μ' H' ds ys->Q (.ref a) H'):al n caps (tIt K cl xe fi) (tBo K cl xe t) f g H Q:=by
 refine jr i k j (by rw[k6];exact p) λc d a l vs μ' S' H' _ e q h=>?_;refine h μ'.free H' (q.h.lat (Lat.refl _ _)) (aX q.r) a vs ⟨q.a,q.n,?_⟩ (fb q.d);show a∉μ'.rs.tail;rw[q.h.rs];exact e
theorem wg{m:TB}{b:TBM}(D:∀f j c,j c=none->Reads K cl xe f j c m b){s:L2.St}{H:Hp}{Q:VK}{μ:Mp}{S:Sto}{ρ:Env}(C:EnvOk K μ H ρ s)(B:Rep K cl μ S H)
  (p:Post K cl xe μ H (bind (V2 n caps fi t b ρ) newL S) λd _ μ' H'=>∀v,RD K μ' H' d v->Q v H'):al n caps (tIt K cl xe fi) (tBo K cl xe t) m s H Q:=by
 refine jr D C B p λf j c es ys μ2 S2 r x i q h=>?_;simp only[newL]at h;by_cases hz:es.length<=sizeLine
 ·rw[if_pos hz]at h;have k:=q.h.rs;have E:RDs K ⟨μ2.pl++[c],f.rs⟩ r es ys:=q.d.move (λn a e=>by
   rw[Jz (Js.mp e).1];exact e) λa u e y l=>⟨e,λz=>by
    rcases JY.mp z with z | z
    ·exact y z
    ·exact l (by rw[k,JK.mp z];exact Jy),λz=>l (by rw[k];exact JE _ z)⟩
  have g:=gB (ob:=.lst es) k i q.a q.r ⟨ys,b8,by rw[gJ q.a];exact E⟩;rw[gJ q.a]at g;refine h ⟨μ2.pl++[c],f.rs⟩ r ⟨λn a e=>?_,λa o e n=>q.h.r.oth a o e n,λa A=>?_,rfl⟩ g _ (.ref ?_)
  ·have w:=q.h.r.pre n a e;rw[Jz (Js.mp w).1];exact w
  ·rcases JY.mp A with z | z
   ·exact q.h.r.new a z
   ·grind
  ·show(μ2.pl++[c])[S2.length]?=some c;rw[<- q.r.len];simp
 ·rw[if_neg hz]at h;exact h.elim
end
section
variable {K:PySem.W.Frag}{μ:Mp}{H:Hp}
mutual
theorem zK:∀(d:D){v:V}{q:PyData},kP d=some q->RD K μ H d v->DAt K H v q/\HT.kDHt q=true
 | .non,_,_,e,r=>by ext r;ext e;exact⟨.non,rfl⟩
 | .bl b,_,_,e,r=>by ext r;ext e;exact⟨.bl b,rfl⟩
 | .int i,_,_,e,r=>by ext r;ext e;exact⟨.int i,rfl⟩
 | .str x,_,_,e,r=>by ext r;ext e;exact⟨.str x,rfl⟩
 | .tup ds,_,q,e,r=>by
  rw[kP]at e;obtain⟨ps,e1,rfl⟩:=Ks.mp e;cases r with
  | tup h rs=>
   obtain⟨a,b⟩:=rO ds e1 rs;exact⟨.tup h.sq a,by rw[HT.kDHt];exact b⟩
 | .lst _,_,_,e,_=>by ext e
 | .scr _,_,_,e,_=>by ext e
 | .ref _,_,_,e,_=>by ext e
theorem rO:∀(ds:List D){vs:List V}{f:List PyData},kPs ds=some f->RDs K μ H ds vs->DAll K H vs f/\HT.kDsHt f=true
 | [],_,_,e,r=>by ext r;ext e;exact⟨.nil,rfl⟩
 | d::ds,_,f,e,r=>by
  rw[kPs]at e;cases r with
  | cons i k=>
   cases c:kP d with
   | none=>rw[c]at e;ext e
   | some p=>
    cases g:kPs ds with
    | none=>rw[c,g]at e;ext e
    | some ps=>
     rw[c,g]at e;ext e;obtain⟨a,b⟩:=zK d c i;obtain⟨j,h⟩:=rO ds g k;exact⟨.cons a j,by rw[HT.kDsHt,b,h];rfl⟩
end
end
section
variable {X:Cx}{μ:Mp}{H:Hp}{s:Shared}{π:List (Addr×Obj)}{σ:L2.St}
theorem kL(e:y0 d=some k):∃ps,kP d=some (.tuple ps)/\(PyData.tuple ps).canLay0=true/\(PyData.tuple ps).depth<=6/\HT.nrmHt (.tuple ps)=k:=by
 unfold y0 at e;grind
theorem eD(I:Inv X π σ H s){d:D}{k:PyData}{b:Addr}(e:y0 d=some k)(r:RD X.K μ H d (.ref b)):(HT.keyK X.prog X.w).is s.heap k b:=by
 obtain⟨ps,j,g,h,i⟩:=kL e;obtain⟨a,c⟩:=zK d j r;obtain⟨f,l⟩:=a.reads I rfl;exact⟨_,f,l,c,g,h,i⟩
theorem eH(e:y0 d=some k)(r:RD X.K μ H d v):∃b,v=.ref b:=by
 obtain⟨ps,e1,_⟩:=kL e;cases r with
 | tup _ _=>exact⟨_,rfl⟩
 | non=>ext e1
 | bl _=>ext e1
 | int _=>ext e1
 | str _=>ext e1
 | lst _ _=>ext e1
 | scr _ _=>ext e1
 | ref _=>ext e1
def XAt(X:Cx)(μ:Mp)(H:Hp)(p:D×D)(x:PyData×Addr×Value):Prop:=y0 p.1=some x.1/\RD X.K μ H p.1 (.ref x.2.1)/\∃v,RelV v x.2.2/\RD X.K μ H p.2 v
theorem hX:∀{a:List (D×D)} {es:List DictEntry},Paired (fz X.K X.w μ H) a es->∃xs:List (PyData×Addr×Value),es=xs.map (entryOfKey (HT.keyK X.prog X.w))/\Paired (XAt X μ H) a xs
 | _,_,.nil=>⟨[],rfl,.nil⟩
 | _,_,.cons (b:=e) ⟨b,v,q,d,a2,a3,c,a5,a6⟩ t=>by
  obtain⟨xs,g,f⟩:=hX t;refine⟨(q,b,e.val)::xs,?_,.cons ⟨a3,a2,v,a5,a6⟩ f⟩;rw[JI,<- g];congr 1;obtain⟨h,k,u⟩:=e;have d:k=.ref b:=d;have c:h=HT.hTHt X.w q:=c;rw[d,c];rfl
theorem uQ:∀{a:List (D×D)} {xs:List (PyData×Addr×Value)},Paired (XAt X μ H) a xs->Paired (fz X.K X.w μ H) a (xs.map (entryOfKey (HT.keyK X.prog X.w)))
 | _,_,.nil=>.nil
 | _,_,.cons ⟨e,d,v,b,c⟩ t=>.cons ⟨_,v,_,rfl,d,e,rfl,b,c⟩ (uQ t)
theorem iT:∀{a:List (D×D)} {xs:List (PyData×Addr×Value)},Paired (XAt X μ H) a xs->(a.map λp=>y0 p.1)=(xs.map (·.1)).map some
 | _,_,.nil=>rfl
 | _,_,.cons ⟨b,_⟩ t=>by rw[JI,JI,JI,iT t,b]
theorem DV{xs:List PyData}(h:(xs.map some).Nodup):xs.Nodup:=by grind
theorem Ck(I:Inv X π σ H s):∀{a:List (D×D)} {xs:List (PyData×Addr×Value)},Paired (XAt X μ H) a xs->∀x∈xs,(HT.keyK X.prog X.w).is s.heap x.1 x.2.1
 | _,_,.nil,x,m=>by ext m
 | _,_,.cons ⟨c,b,_⟩ t,x,m=>by
  rcases JH.mp m with rfl | m
  ·exact eD I c b
  ·exact Ck I t x m
theorem wA(I:Inv X π σ H s){a:Addr}{b:List (D×D)}{es:List DictEntry}(e:H a=some (DE a es))(f:pT b)(r:Paired (fz X.K X.w μ H) b es):∃xs,s.heap.DictOfH (HT.keyK X.prog X.w) a xs/\Paired (XAt X μ H) b xs:=by
 obtain⟨xs,h,c⟩:=hX r;obtain⟨o,g,i,j,d,_⟩:=(I.hok a _ e).1;refine⟨xs,⟨o,es.toArray,g,i,j,d,h,Ck I c,?_⟩,c⟩;have:=f.2;rw[iT c]at this;grind
theorem xD{s:Shared}{d a:Addr}{xs:List (PyData×Addr×Value)}{k:PyData}{v:Value}{Q:Unit->Shared->Prop}{o:Obj}{es:Array DictEntry}(h:(HT.keyK P w).room A)(i:(HT.keyK P w).is s.heap k a)
  (b:s.heap.get? d=some o) (g:o.ExactDict) (hd:o.data=.dict es es.size) (c:es.toList=xs.map (entryOfKey (HT.keyK P w))) (n:∀x∈xs,(HT.keyK P w).is s.heap x.1 x.2.1) (f:(xs.map (·.1)).Nodup) (hz:xs.length<=sizeLine)
  (q:∀h' o' es',h'.get? d=some o'->o'.ExactDict->o'.data=.dict es' es'.size->es'.toList=(storedH xs k a v).map (entryOfKey (HT.keyK P w))->Heap.SameBut d s.heap h'->Q () { s with heap:=h',toks:=s.toks+(HT.keyK P w).draws k }):wpAny (model P w) A (dictSet d (.ref a) v) Q E s:=by
 unfold dictSet;try with_reducible refine Kf ?_
 refine Jn ((HT.keyK P w).pyHash h i ?_);unfold dictSetHashed;try with_reducible refine Kf ?_
 have r:es.size=xs.length:=by rw[<- Mc,c,Jr]
 refine Jn (wpAny_dictFind_heap h i b hd c n f (λz=>?_) λj p z=>?_)
 ·refine Jn (Nz (wpAny_updateDictKeys b hd ?_));refine q _ _ _ (Kj _ b (Obj.isFreed_of_dict (Obj.data_mapDictKeys hd _))) (g.mapDictKeys _) (by rw[Obj.data_mapDictKeys hd,Array.size_push]) ?_ (KZ ..);rw[storedH_new (atKey_none_of_get z)];simp[c,entryOfKey]
 ·refine Jn (Nz (Jn (wpAny_updateDict b hd (wpAny_point ?_))));refine q _ _ _ (Kj _ b (Obj.isFreed_of_dict (Obj.data_mapDict hd _))) (g.mapDict _) (by rw[Obj.data_mapDict hd,Array.size_modify]) ?_ (KZ ..);rw[storedH_old (atKey_of_get f z)];have m:=modify_map_putAt (entryOfKey (HT.keyK P w)) (λe:DictEntry=>{ e with val:=v }) k v (λ_ _=>rfl) f z;rw[<- c]at m;obtain⟨l⟩:=es;simpa using m
theorem we(I:Inv X π σ H s){a:Addr}{b:List (D×D)}{es:List DictEntry}(e:H a=some (DE a es))(f:pT b)(r:Paired (fz X.K X.w μ H) b es):∃xs o,s.heap.get? a=some o/\o.ExactDict/\o.data=.dict es.toArray es.toArray.size/\es=xs.map (entryOfKey (HT.keyK X.prog X.w))/\(∀x∈xs,(HT.keyK X.prog X.w).is s.heap x.1 x.2.1)/\(xs.map (·.1)).Nodup/\Paired (XAt X μ H) b xs:=by
 obtain⟨xs,g,c⟩:=hX r;obtain⟨o,k,h,i,d,j⟩:=(I.hok a _ e).1;refine⟨xs,o,h,i,by rw[d,j,Jv],g,Ck I c,?_,c⟩;have:=f.2;rw[iT c]at this;grind
def V6(a:List (D×D))(k:PyData):Option D:=(a.find? λp=>decide (y0 p.1=some k)).map (·.2)
def nR(a:List (D×D))(k:PyData)(d v:D):List (D×D):=if (V6 a k).isSome=true then a.map (λp=>if y0 p.1=some k then (p.1,v)else p)else a++[(d,v)]
theorem jI:∀{c:List (D×D)} {xs:List (PyData×Addr×Value)},Paired (XAt X μ H) c xs->match V6 c k with
  | some d=>∃b u,atKey xs k=some (b,u)/\∃v,RelV v u/\RD X.K μ H d v
  | none=>atKey xs k=none
 | _,_,.nil=>rfl
 | _,_,.cons (a:=p) (b:=x) ⟨a1,a2,v,a3,a4⟩ t=>by
  have e:=jI (k:=k) t;unfold V6 atKey at e ⊢;rw[Kx,Kx,a1];by_cases q:x.1=k
  ·grind
  ·grind
theorem nF{a:List (D×D)}{xs:List (PyData×Addr×Value)}(r:Paired (XAt X μ H) a xs):(V6 a k).isSome=(atKey xs k).isSome:=by
 have:=jI (k:=k) r;grind
theorem kZ{v:D}{u:Value}{vv:V}(e:RelV vv u)(d:RD X.K μ H v vv):∀{c:List (D×D)} {xs:List (PyData×Addr×Value)},Paired (XAt X μ H) c xs->Paired (XAt X μ H) (c.map (λp=>if y0 p.1=some k then (p.1,v)else p)) (xs.map (putAt k u))
 | _,_,.nil=>.nil
 | _,_,.cons (a:=p) (b:=x) ⟨a1,a2,w,a3,a4⟩ t=>by
  rw[JI,JI];refine .cons ?_ (kZ e d t);unfold putAt;by_cases q:x.1=k
  ·rw[if_pos (by rw[a1,q])];have:(if (x.1==k)=true then (x.1,x.2.1,u)else x)=(x.1,x.2.1,u):=by rw[if_pos (by rw[q];exact beq_self_eq_true k)]
   first
   | (rw[if_pos q];exact⟨a1,a2,vv,e,d⟩)
   | (rw[this];exact⟨a1,a2,vv,e,d⟩)
   | (simp;exact⟨by rw[a1,q],a2,vv,e,d⟩)
  ·rw[if_neg (by rw[a1];exact λz=>q (JZ z))];first
   | (rw[if_neg q];exact⟨a1,a2,w,a3,a4⟩)
   | (simp;exact⟨a1,a2,w,a3,a4⟩)
theorem Hh{d v:D}{b:Addr}{u:Value}{vv:V}{a:List (D×D)}{xs:List (PyData×Addr×Value)}(r:Paired (XAt X μ H) a xs)(l:y0 d=some k)(m:RD X.K μ H d (.ref b))(g:RelV vv u)(i:RD X.K μ H v vv):Paired (XAt X μ H) (nR a k d v) (storedH xs k b u):=by
 unfold nR storedH;rw[nF r];split
 ·exact kZ g i r
 ·have c:∀{f:List (D×D)} {e:List (PyData×Addr×Value)},Paired (XAt X μ H) f e->Paired (XAt X μ H) (f++[(d,v)]) (e++[(k,b,u)]):=by
   intro f e h;induction h with
   | nil=>exact .cons ⟨l,m,vv,g,i⟩ .nil
   | cons h _ j=>exact .cons h j
  exact c r
theorem pB{d v:D}{a:List (D×D)}(g:y0 d=some k)(b:pT a)(j:a.length<sizeLine):pT (nR a k d v):=by
 unfold nR;split
 ·refine⟨by rw[Jr];exact b.1,?_⟩;rw[Lf];have:((λp:D×D=>y0 p.1) ∘ λp=>if y0 p.1=some k then (p.1,v)else p)=λp=>y0 p.1:=by
   funext p;show y0 (if y0 p.1=some k then (p.1,v)else p).1=_;split <;> rfl
  rw[this];exact b.2
 ·rename_i h;refine⟨by rw[JP,KP];omega,?_⟩;rw[KW,Mx];refine⟨b.2,by simp,λx e y c z=>h ?_⟩;obtain⟨p,f,i⟩:=Ky.mp e;have c:y=y0 d:=by simpa using c
  unfold V6;rw[Option.isSome_map,List.find?_isSome];exact⟨p,f,JQ (by rw[i,z,c,g])⟩
end
def wP(a:List (Str×D))(x:D):M Bool:=match x with
 | .str z=>ret (a.lookup z).isNone
 | _=>bad
def W2(a:List (Str×D))(x:D):M D:=match x with
 | .str z=>ret ((a.lookup z).getD .non)
 | _=>bad
section
variable {X:Cx}{a:Addr}{es:Array DictEntry}{n:Nat}
def rNI(K:PySem.W.Frag)(a:Addr):R2:=λx y H Q=>y=.ref a/\∃z r,x=.str z/\PySem.W.nsIn K a z=some r/\Q (.bl r.isNone) H
theorem GE(c:X.K.lookup a=some ⟨.type "dict",none,.dict es n,#[]⟩) (h:PySem.W.KeysLit X.w.params es.toList) (hs:(a==sysModules)=false):OpR X (compareOp .NotIn) (rNI X.K a):=by
 intro π s l H x y v u Q I j k ⟨d,z,r,f,e,q⟩;subst f d;obtain⟨t,rfl⟩:=j;ext k;have i:=NJ (prog:=X.prog) (λb o g=>I.kIn b o g) c h;refine wpAny_notIn_of (NT X.prog X.w z t) hs i ?_;rw[NQ c e];refine⟨.bl (!r.isSome),H,I.tok _,rfl,?_⟩;grind
theorem Gb(c:X.K.lookup a=some ⟨.type "dict",none,.dict es n,#[]⟩) (k:PySem.W.KeysLit X.w.params es.toList) (hs:(a==sysModules)=false):MtR X "dict.get" (λx vs H Q=>x=.ref a/\∃z r v,vs=[.str z]/\PySem.W.nsIn X.K a z=some r/\RelV v (r.getD .none)/\Q v H):=by
 intro π s p H x vs v us Q I l g ⟨h,z,r,f,m,e,j,q⟩;subst h m;ext l;obtain⟨u,rfl,t,rfl⟩:=g.one;have d:=NJ (prog:=X.prog) (λb o i=>I.kIn b o i) c k;refine call_meetsIn PySem.F.slot_dict_get d.typeIs PySem.F.entry_dict_get (PySem.F.args_dict_get_2 _ _) (meets_dict_get (strKind X.prog X.w) a (NT X.prog X.w z t) hs) ⟨_,d,?_⟩;rw[NQ c e];exact⟨f,H,I.tok _,j,q⟩
variable {e:Expr}{to:TE}{t:TA}{apos cpos:Pos}{p:Pos}{x:Str}
theorem GM(k:X.K.lookup a=some ⟨.type "dict",none,.dict es n,#[]⟩) (N:PySem.W.KeysLit X.w.params es.toList) (hs:(a==sysModules)=false) (B:Gl X x) (O:X.mg x=some (.ref a)) (F:(x==("__debug__" : Str))=false) (o:PE X e to) (l:noStar e=true) (L:v8 (.Name x p)=true) (K:E1 [e]=true) (c:(apos.endLine==cpos.line)=true) :
  PE X (.Call (.Attribute (.Name x p) "get" apos) [e] [] cpos) (λd H Q=>to d H λy f=>∃z r v,y=.str z/\PySem.W.nsIn X.K a z=some r/\RelV v (r.getD .none)/\Q v f):=by
 intro π s d H Q I h;have i:[e].all noStar=true:=by rw[Kt,l];rfl
 refine wpAny_Call_method_late (D7 L) (iq i K) c rfl (thn (Y7 (v:=.ref a) B O rfl F π s d H _ I (show tC (.ref a) d H (λy f=>y=.ref a/\f=H) from ⟨rfl,rfl⟩)) λv m ⟨y,f,j,J,D,A⟩=>?_);subst D A;ext J;have g:=j.kIn a _ k;refine⟨"dict","dict.get",PySem.F.plainAttrs_dict,PySem.F.slot_dict_get,PySem.F.type_dict_get,⟨_,g,rfl⟩,λb M=>(by ext M;exact⟨_,g,rfl⟩),?_⟩;rw[g6 l];refine Mu rfl (Calls.evalArgs_plain ?_);refine Ll (thn (o π m d f _ j h) λu s2 ⟨y,G,C,t,w⟩=>Ls ?_);obtain⟨z,r,v,rfl,P,E,q⟩:=w;exact Gb k N hs π s2 d G (.ref a) [.str z] _ [u] Q C rfl (.cons t .nil) ⟨rfl,z,r,v,rfl,P,E,q⟩
end
def Ei:RuT:=.of (vCompare.at (vI.pr ((v1.at (vE .NotIn)).pr ((v1.at vName).pr vI))))
 (λΓ lc ⟨_,_,⟨x,_⟩,_⟩=>m9 x&&glB lc.sc x&&au Γ x)
 (λr Γ _ lc ⟨a,_,⟨x,_⟩,_⟩ ρ=>(match Γ.gl.lookup x with
   | some (.dct kvs)=>bind (r.e lc a ρ) (wP kvs)
   | _=>bad))
 (λq Γ _ lc ⟨a,_,⟨x,_⟩,_⟩ ρ _ k=>(match Γ.gl.lookup x with
   | some (.dct kvs)=>q.e lc a ρ λy=>bind (wP kvs y) k
   | _=>bad))
 (by
  intro T k r Γ C lc X ⟨a,_,⟨x,p⟩,pos⟩ R TX h hi;show PT X (.Compare a [.NotIn] [(.Name x p)] pos) _;dsimp only at hi ⊢;simp only[Jp]at hi;obtain⟨⟨h1,h2⟩,h3⟩:=hi;obtain⟨n1,n2,n3⟩:=n9 h1;cases e1:Γ.gl.lookup x with
  | none=>simp only[au,e1]at h3;ext h3
  | some g=>
   cases g with
   | dct kvs=>
    obtain⟨ad,es,n,hm,hl,hk,hs,hz,hv⟩:=TX.dct x kvs e1;refine PT.imp (jO (GE (X:=X) (by rw[h.K];exact hl) (by rw[h.w];exact hk) hs) (R.ex h a) (Y7 (v:=.ref ad) (h.gl h2) (by rw[h.mg];exact hm) rfl n1) rfl) λσ H Q ⟨μ,S,ρ,eo,rp,q⟩=>?_;refine⟨μ,S,ρ,eo,rp,q.bind.imp λy S2 μ2 H2 l2 r2 p2 u ru=>?_⟩;cases y with
    | str z=>
     ext ru;have hb:∀r,PySem.W.nsIn T.K ad z=some r->r.isNone=(kvs.lookup z).isNone:=λr er=>by
      cases e2:kvs.lookup z with
      | none=>rw[hz z e2]at er;ext er;rfl
      | some d=>obtain⟨u,v,f1,_⟩:=hv z d e2;rw[f1]at er;ext er;rfl
     obtain⟨r,er⟩:∃r,PySem.W.nsIn T.K ad z=some r:=by
      cases e2:kvs.lookup z with
      | none=>exact⟨_,hz z e2⟩
      | some d=>obtain⟨u,v,f1,_⟩:=hv z d e2;exact⟨_,f1⟩
     refine⟨rfl,z,r,rfl,by rw[h.K];exact er,?_⟩;rw[hb r er];exact⟨_,rfl,p2 μ2 H2 (Lat.refl _ _) r2⟩
    | _=>exact p2.elim
   | val d=>simp only[au,e1]at h3;ext h3
   | fn i n=>simp only[au,e1]at h3;ext h3
   | err c fs=>simp only[au,e1]at h3;ext h3)
 (by
  intro r q Γ C lc ⟨a,_,⟨x,p⟩,pos⟩ ρ _ k h;dsimp only;cases Γ.gl.lookup x with
  | none=>rfl
  | some g=>
   cases g with
   | dct kvs=>simp only[h.e,bind_assoc]
   | _=>rfl)
def He:RuE:=.of (vCall.at ((vAttribute.at (vName.pr vI)).pr (v1.pr (v0.pr vI))))
 (λΓ lc ⟨⟨⟨x,_⟩,n,apos⟩,a,_,cpos⟩=>decide (n = "get")&&m9 x&&glB lc.sc x&&au Γ x&&noStar a&&E1 [a]&&(apos.endLine==cpos.line))
 (λr Γ _ lc ⟨⟨⟨x,_⟩,_,_⟩,a,_,_⟩ ρ=>(match Γ.gl.lookup x with
   | some (.dct kvs)=>bind (r.e lc a ρ) (W2 kvs)
   | _=>bad))
 (λq Γ _ lc ⟨⟨⟨x,_⟩,_,_⟩,a,_,_⟩ ρ _ k=>(match Γ.gl.lookup x with
   | some (.dct kvs)=>q.e lc a ρ λy=>bind (W2 kvs y) k
   | _=>bad))
 (by
  intro T k r Γ C lc X ⟨⟨⟨x,p⟩,n,apos⟩,a,_,cpos⟩ R TX h hi;show PE X (.Call (.Attribute (.Name x p) n apos) [a] [] cpos) _;dsimp only at hi ⊢;simp only[Jp,JJ]at hi;obtain⟨⟨⟨⟨⟨⟨rfl,h1⟩,h2⟩,h3⟩,h4⟩,h5⟩,h6⟩:=hi;obtain⟨n1,n2,n3⟩:=n9 h1;cases e1:Γ.gl.lookup x with
  | none=>simp only[au,e1]at h3;ext h3
  | some g=>
   cases g with
   | dct kvs=>
    obtain⟨ad,es,n,hm,hl,hk,hs,hz,hv⟩:=TX.dct x kvs e1;refine PE.imp (GM (X:=X) (by rw[h.K];exact hl) (by rw[h.w];exact hk) hs (h.gl h2) (by rw[h.mg];exact hm) n1 (R.ex h a) h4 rfl h5 (by simpa using h6)) λσ H Q ⟨μ,S,ρ,eo,rp,q⟩=>?_;refine⟨μ,S,ρ,eo,rp,q.bind.imp λy S2 μ2 H2 l2 r2 p2 u ru=>?_⟩;cases y with
    | str z=>
     ext ru;cases e2:kvs.lookup z with
     | none=>
      simp only[W2,e2]at p2;exact⟨z,none,.non,rfl,by rw[h.K];exact hz z e2,rfl,p2 μ2 H2 (Lat.refl _ _) r2 _ .non⟩
     | some d=>
      simp only[W2,e2]at p2;obtain⟨u,v,f1,f2,f3⟩:=hv z d e2;exact⟨z,some u,v,rfl,by rw[h.K];exact f1,f2,p2 μ2 H2 (Lat.refl _ _) r2 v (by rw[h.K];exact f3 μ2 H2)⟩
    | _=>exact p2.elim
   | val d=>simp only[au,e1]at h3;ext h3
   | fn i n=>simp only[au,e1]at h3;ext h3
   | err c fs=>simp only[au,e1]at h3;ext h3)
 (by
  intro r q Γ C lc ⟨⟨⟨x,p⟩,n,apos⟩,a,_,cpos⟩ ρ _ k h;dsimp only;cases Γ.gl.lookup x with
  | none=>rfl
  | some g=>
   cases g with
   | dct kvs=>simp only[h.e,bind_assoc]
   | _=>rfl)
def bP(ws:List Str):List Str:=HT.metKHt (λi=>ws.getD i "") ws.length
section
variable {X:Cx}{e:Expr}{te:TE}{p p2 pos pos2:Pos}{cl:ClW}{xe:Addr->Hp->Prop}
theorem eR:∀{ws:List Str}{a:List Value},Vals (ws.map V.str) a->∀(i:Nat)(v:Value),a[i]?=some v->∃t,v=.str (ws.getD i "") t
 | [],_,h,i,v,e=>by ext h;ext e
 | w::ws,_,h,i,v,e=>by
  cases h with
  | cons r t=>
   cases i with
   | zero=>ext e;exact r
   | succ i=>exact eR t i v e
end
def eU(x:D):M D:=bind (lstOf x) λes=>match x with
 | .ref n=>λS=>(match es[es.length-1]? with
  | some y=>.ok y (S.set n (.lst es.dropLast))
  | none=>.bad)
 | _=>bad
section
variable {X:Cx}{cl:ClW}{xe:Addr->Hp->Prop}{a:Expr}{f:Env->M D}
theorem vD(ho:PE X a (tD X.K cl xe f))(hb:v8 a=true)(hl:(apos.endLine==cpos.line)=true):PE X (.Call (.Attribute a "pop" apos) [] [] cpos) (tD X.K cl xe λρ=>bind (f ρ) eU):=by
 refine PE.imp (De Ms PySem.F.slot_list_pop PySem.F.type_list_pop BA ho (D7 hb) hl) λσ H Q ⟨μ,S,ρ,eo,rp,p⟩=>⟨μ,S,ρ,eo,rp,p.bind.imp λx S1 μ1 H1 l1 r1 p1 xv rx=>?_⟩;obtain⟨ty,_,ea⟩:=aa μ1 S1 H1 x xv _ rx r1 p1.bind;obtain⟨l,xs,ds,rfl,h1,h2,e2⟩:=j0 rx r1 p1.bind;have p1:=p1.ok_bind e2;cases rx with
 | ref e=>
  have ml:=JL e;have la:Lat μ1 H1 μ1 (upd H1 l (.lst xs.dropLast)):=Lat.wrote ml;cases q:ds[ds.length-1]? with
  | none=>rw[q]at p1;exact p1.elim
  | some y=>
   rw[q]at p1;obtain⟨v,hv,rv⟩:=h2.get q;have hl2:=h2.length;have t:=h2.take (ds.length-1);rw[<- List.dropLast_eq_take,hl2,<- List.dropLast_eq_take]at t;exact⟨ty,l,xs,v,rfl,rfl,h1,by rw[<- hl2];exact hv,p1 μ1 _ la (r1.wrote e ⟨_,b8,t.later la⟩) _ (rv.later la)⟩
 | _=>exact p1.elim
end
def rM0(m:Str)(op:D->M D)(ok:∀{T:Tx}{k:Nat}{lc:Lc}{X:Cx}{xe:Addr->Hp->Prop}{o:Expr}{apos cpos:Pos}{f:Env->M D},CxOk T k lc X->PE X o (tD X.K T.cl xe f)->v8 o=true->(apos.endLine==cpos.line)=true->PE X (.Call (.Attribute o m apos) [] [] cpos) (tD X.K T.cl xe λρ=>bind (f ρ) op)):RuE where
 is _ _ e:=match e with
  | .Call (.Attribute o n apos) [] [] cpos=>decide (n=m)&&v8 o&&(apos.endLine==cpos.line)
  | _=>false
 run r _ _ lc e ρ:=match e with
  | .Call (.Attribute o _ _) [] [] _=>bind (r.e lc o ρ) op
  | _=>bad
 ok {T k r Γ C lc X} e R TX h hi:=by
  split at hi
  ·simp only[Jp,JJ]at hi;obtain⟨⟨rfl,h1⟩,h2⟩:=hi;exact ok h (R.ex h _) h1 h2
  ·ext hi
 runK q _ _ lc e ρ _ k:=match e with
  | .Call (.Attribute o _ _) [] [] _=>q.e lc o ρ λx=>bind (op x) k
  | _=>bad
 eq e ρ _ k h:=by
  split
  ·simp only[h.e,bind_assoc]
  ·first
   | rfl
   | (rename_i hn;split;exact(hn _ _ _ _ rfl).elim;rfl)
def Ed:RuE:=rM0 "pop" eU λ_ b a c=>vD b a c
def O2:List DictEntry->Option (List Str)
 | []=>some []
 | ⟨_,.str x _,_⟩::es=>(O2 es).map (x::·)
 | _=>none
theorem lE:∀{es:List DictEntry}{ks:List Str},O2 es=some ks->z∉ks->es.find? (λx=>x.key.isStr z)=none/\es.any (λx=>x.refKey)=false
 | [],_,_,_=>⟨rfl,rfl⟩
 | ⟨h,k,v⟩::es,ks,e,hz=>by
  cases k with
  | str x t=>
   simp only[O2]at e;obtain⟨js,e1,rfl⟩:=Ks.mp e;obtain⟨a,b⟩:=lE e1 λq=>hz (JE _ q);have ne:(x==z)=false:=Kz.mpr λq=>hz (by rw[q];exact Jy ..);constructor
   ·rw[Kx];show(match (x==z) with
     | true=>_
     | false=>_)=_
    rw[ne];exact a
   ·rw[Lv,b];rfl
  | _=>simp only[O2]at e;ext e
theorem zJ{K:PySem.W.Frag}{a:Addr}{es:Array DictEntry}{n:Nat}{c:List Str}{b:List (Str×D)}(i:K.lookup a=some ⟨.type "dict",none,.dict es n,#[]⟩) (f:O2 es.toList=some c) (hs:b.map Prod.fst=c) {z:Str} (hz:b.lookup z=none):PySem.W.nsIn K a z=some none:=by
 have g:z∉c:=by
  rw[<- hs];intro q;obtain⟨⟨k,d⟩,m,e⟩:=Ky.mp q;have e:=e;subst e;exact absurd (List.lookup_eq_none_iff.mp hz _ m) (by simp)
 obtain⟨h,j⟩:=lE f g;unfold PySem.W.nsIn;grind
def W4(x k v:D):M D:=match x with
 | .ref n=>λS=>match S[n]? with
  | some (.dcT kvs)=>(match y0 k with
   | some q=>if kvs.length<sizeLine then .ok .non (S.set n (.dcT (nR kvs q k v)))else .bad
   | none=>.bad)
  | _=>.bad
 | _=>bad
section
variable {X:Cx}{cl:ClW}{xe:Addr->Hp->Prop}
theorem HN(hu:X.A.units+80<cLine):(HT.keyK X.prog X.w).room X.A.in1:=by
 show X.A.units+1+8<cLine;omega
theorem Ge{P:Program}{w:World}{H:Hp}{h:Heap}{a:Addr}{es:List DictEntry}(e:∃o ep,h.get? a=some o/\o.ExactDict/\o.data=.dict es.toArray ep/\ep=es.length):ObjOk P w H h a (DE a es):=by
 obtain⟨o,ep,e1,e2,e3⟩:=e;exact⟨⟨o,ep,e1,e2,e3⟩,⟨o,e1⟩,λh1 h2 ⟨o,ep,a1,a2,a3⟩ k=>⟨o,ep,k o a1,a2,a3⟩⟩
end
abbrev Cl1:=Str×Pos×Expr×List Expr
def cl1:Comprehension->Option Cl1:=(vG.at (vName.pr vI)).o λv=>(v.1.1,v.1.2,v.2.1,v.2.2)
theorem T4(h:cl1 c=some a):c=⟨.Name a.1 a.2.1,a.2.2.1,a.2.2.2,0⟩:=by
 obtain⟨v,rfl,rfl⟩:=Vw.o_ok h;rfl
section
variable (r:Ev)(q:EvK)(lc:Lc)(elt:Expr)(a b c:Cl1)(scope:Scope)(ρ:Env)
def lvE(l:Lc)(k:Nat)(a:Cl1)(t:TBM):TBM:=lvB (r.i l (.Name a.1 a.2.1) a.2.2.1) (testsE r l a.2.2.2) k t
def lvK(l:Lc)(k:Nat)(a:Cl1)(t:TBM):TBM:=lvB (λρ=>q.i l (.Name a.1 a.2.1) a.2.2.1 ρ ret) (testsK q l a.2.2.2) k t
def nE(xs:List Str)(t:Lc->TBM):M (List D):=match e9 (e8 lc.N) (g0 scope) with
 | some caps=>nx (V2 xs.length caps (r.i lc (.Name a.1 a.2.1) a.2.2.1) (testsE r (c8 lc scope xs) a.2.2.2) (t (c8 lc scope xs)) ρ)
 | none=>bad
def nK(xs:List Str)(t:Lc->TBM){c:Type}(k:List D->M c):M c:=match e9 (e8 lc.N) (g0 scope) with
 | some caps=>bind (nx (q.i lc (.Name a.1 a.2.1) a.2.2.1 ρ λb=>lvM b.1 (λd=>testsK q (c8 lc scope xs) a.2.2.2 ((E4 xs.length caps ρ).set 0 (some d))) (λd=>t (c8 lc scope xs) ((E4 xs.length caps ρ).set 0 (some d))) b.2 0 [])) k
 | none=>bad
def rK:M (List D):=nE r lc a scope ρ [a.1,b.1] λl=>lvE r l 1 b (elM (r.e l elt))
def jf:M (List D):=nE r lc a scope ρ [a.1,b.1,c.1] λl=>lvE r l 1 b (lvE r l 2 c (elM (r.e l elt)))
def za{c:Type}(k:List D->M c):M c:=nK q lc a scope ρ [a.1,b.1] (λl=>lvK q l 1 b (elM λρ=>q.e l elt ρ ret)) k
def yx{d:Type}(k:List D->M d):M d:=nK q lc a scope ρ [a.1,b.1,c.1] (λl=>lvK q l 1 b (lvK q l 2 c (elM λρ=>q.e l elt ρ ret))) k
end
section
variable {r:Ev}{q:EvK}(h:EqK r q)
include h
theorem zi(l:Lc)(k:Nat)(a:Cl1)(t:TBM):lvK q l k a t=lvE r l k a t:=by
 have e:testsK q l a.2.2.2=testsE r l a.2.2.2:=funext λρ=>tests_eq h _ ρ;simp only[lvK,lvE,h.i,k6,e]
theorem Hi(c:Lc)(a:Cl1)(b:Scope)(ρ:Env)(xs:List Str)(t t':Lc->TBM)(d:t'=t){e:Type}(k:List D->M e):nK q c a b ρ xs t' k=bind (nE r c a b ρ xs t) k:=by
 subst d;unfold nK nE;cases e9 (e8 c.N) (g0 b) with
 | none=>rfl
 | some caps=>simp only[h.i,tests_eq h,V2]
theorem wy(e:Lc)(d:Expr)(a b:Cl1)(c:Scope)(ρ:Env){f:Type}(k:List D->M f):za q e d a b c ρ k=bind (rK r e d a b c ρ) k:=
 Hi h e a c ρ _ _ _ (by funext l;simp only[zi h,h.e,k6]) k
theorem xA(f:Lc)(e:Expr)(a b c:Cl1)(d:Scope)(ρ:Env){g:Type}(k:List D->M g):yx q f e a b c d ρ k=bind (jf r f e a b c d ρ) k:=
 Hi h f a d ρ _ _ _ (by funext l;simp only[zi h,h.e,k6]) k
end
abbrev S2V:=Str×Pos×Expr×Comprehension×Comprehension×Scope×Pos×Pos
def s2v:Stmt->Option S2V:=(vAssign.at ((v1.at vName).pr ((vListComp.at (vI.pr (v2.pr vI))).pr vI))).o λv=>(v.1.1,v.1.2,v.2.1.1,v.2.1.2.1.1,v.2.1.2.1.2,v.2.1.2.2.1,v.2.1.2.2.2,v.2.2)
theorem BV(h:s2v e=some v):e=.Assign [.Name v.1 v.2.1] (.ListComp v.2.2.1 [v.2.2.2.1,v.2.2.2.2.1] v.2.2.2.2.2.1 v.2.2.2.2.2.2.1) v.2.2.2.2.2.2.2:=by
 obtain⟨v,rfl,rfl⟩:=Vw.o_ok h;rfl
def As:RuS where
 is _ lc e:=match s2v e with
  | some (g,p,f,m,o,c,d,pos)=>match cl1 m,cl1 o with
   | some a,some b=>T1 lc g&&p9 lc c [a.1,b.1]&&i9 a.2.2.1&&i9 b.2.2.1&&swB lc (.ListComp f [m,o] c d) c g p
   | _,_=>false
  | none=>false
 run r _ _ lc e ρ:=match s2v e with
  | some (g,p,f,m,o,c,d,pos)=>match cl1 m,cl1 o with
   | some a,some b=>bind (bind (rK r lc f a b c ρ) λds=>ret (.lst ds)) (O6 lc g ρ)
   | _,_=>bad
  | none=>bad
 ok {T k r Γ C lc X} e R TX h hf u:=by
  cases O:s2v e with
  | none=>grind
  | some v=>
   have he:=BV O;obtain⟨g,p,f,m,o,c,d,pos⟩:=v;simp only[O]at u;cases Z:cl1 m with
   | none=>grind
   | some a=>
    cases V:cl1 o with
    | none=>grind
    | some b=>
     simp only[Z,V]at u;have e1:=T4 Z;have e2:=T4 V;rw[Jp,Jp,Jp,Jp]at u;obtain⟨⟨⟨⟨hg,hc⟩,hn⟩,K⟩,hb⟩:=u;have F:=hg;rw[T1,Jp,Kd]at F;obtain⟨⟨i,u⟩,hl⟩:=F;have J:X.N[i]?=some g:=by rw[h.N];exact k0 u
     have M:L2.Loc X.env.scope g:=by rw[h.sc];exact y7 hl
     have L:X.fn g=true\/X.env.scope.names.lookup g=some .local:=.inl (h.fn1 hf);have N:=zo h f [m,o] c g p pos d;rw[hb]at N;rw[he];simp;obtain⟨x,px,E,ifs⟩:=a;obtain⟨y,U,j,t⟩:=b;rw[e1,e2]at N ⊢;unfold rK nE;cases hm:e9 (e8 lc.N) (g0 c) with
     | none=>exact PS.imp bQ λD σ H ⟨μ,S,ρ,P,W,p⟩=>p.bind.elim
     | some caps=>
      obtain⟨t1,A,Q,z,I⟩:=u7 h hc hm;have e4:=λπ C l s H=>PE.x0 (R.ex (f9 h z I A π C l s H) f);have q0:=λπ C l s H=>PTL.x0 (tests_ok (ifs:=ifs) R (f9 h z I A π C l s H));have q1:=λπ C l s H=>PTL.x0 (tests_ok (ifs:=t) R (f9 h z I A π C l s H));have i1:=λπ C l s H=>PI.x0 (R.ix (f9 h z I A π C l s H) (.Name y U) j);refine fj (k:=k) u ?_;exact PS.imp (fw (n:=2) (B:=λY w=>tj Y.prog Y.w Y.A (.ListComp f [⟨.Name x px,E,ifs,0⟩,⟨.Name y U,j,t,0⟩] c d) j 0 (.ref w) Y.env) N h.nd' J M L ⋯ t1 (h.calm z) A rfl (Q x (by simp)) (PI.x0 (R.ix h _ _))
       (λit w env=>Y6 rfl rfl (i4 K) λ_=>rfl)
       q0
       (λπ C l s H w=>R6 rfl ⋯ (h.calm z) A rfl (Q y (by simp)) (λit=>L0 rfl rfl λ_=>rfl) (i1 π C l s H) (q1 π C l s H) (C6 (e4 π C l s H)))
       (i4 hn)) λD σ H ⟨μ,S,ρ,P,W,p⟩=>Y9 (λ_ _ _ G=>R8 (J2 G)) P W p
 runK q _ _ lc e ρ _ k:=match s2v e with
  | some (g,p,f,m,o,c,d,pos)=>match cl1 m,cl1 o with
   | some a,some b=>za q lc f a b c ρ λds=>v9 lc g ρ (.lst ds) k
   | _,_=>bad
  | none=>bad
 eq e ρ _ k h:=by
  cases s2v e with
  | none=>rfl
  | some v=>
   obtain⟨g,p,f,m,o,c,d,pos⟩:=v;dsimp only;cases cl1 m with
   | none=>rfl
   | some a=>
    cases cl1 o with
    | none=>rfl
    | some b=>simp only[wy h,bind_assoc,g8,bF]
abbrev R3V:=Expr×Comprehension×Comprehension×Comprehension×Scope×Pos×Pos
def r3v:Stmt->Option R3V:=(vReturn.at ((vS.at (vListComp.at (vI.pr (v3.pr vI)))).pr vI)).o λv=>(v.1.1,v.1.2.1.1,v.1.2.1.2.1,v.1.2.1.2.2,v.1.2.2.1,v.1.2.2.2,v.2)
theorem CG(h:r3v e=some v):e=.Return (some (.ListComp v.1 [v.2.1,v.2.2.1,v.2.2.2.1] v.2.2.2.2.1 v.2.2.2.2.2.1)) v.2.2.2.2.2.2:=by
 obtain⟨v,rfl,rfl⟩:=Vw.o_ok h;rfl
theorem xX(R:EvOk T k r)(h:CxOk T k lc X){i:Expr}{x y z:Str}{v t o pos:Pos}{g b c:Expr}{ifs f e:List Expr}{a:Scope}(V:p9 lc a [x,y,z]=true)(K:i9 g=true)(A:i9 b=true)(D:i9 c=true) :
  PE X (.ListComp i [⟨.Name x v,g,ifs,0⟩,⟨.Name y t,b,f,0⟩,⟨.Name z o,c,e,0⟩] a pos) (tD X.K T.cl (xOf X) λρ=>bind (jf r lc i (x,v,g,ifs) (y,t,b,f) (z,o,c,e) a ρ) newL):=by
 unfold jf nE;cases W:e9 (e8 lc.N) (g0 a) with
 | none=>exact PE.imp (f8 (cl:=T.cl) (xe:=xOf X)) λI H Q ⟨μ,S,ρ,E,F,p⟩=>p.bind.elim
 | some caps=>
  obtain⟨J,l,w,j,q⟩:=u7 h V W;have O:∀π C d s H,PE (b6 X π ([x,y,z]++g0 a) a C d s H) i (tD X.K T.cl x0 (r.e (c8 lc a [x,y,z]) i)):=λπ C d s H=>PE.x0 (R.ex (f9 h j q l π C d s H) i);have N:∀π C d s H,PTL (b6 X π ([x,y,z]++g0 a) a C d s H) ifs (tBo X.K T.cl x0 (testsE r (c8 lc a [x,y,z]) ifs)):=λπ C d s H=>PTL.x0 (tests_ok R (f9 h j q l π C d s H));have U:∀π C d s H,PTL (b6 X π ([x,y,z]++g0 a) a C d s H) f (tBo X.K T.cl x0 (testsE r (c8 lc a [x,y,z]) f)):=λπ C d s H=>PTL.x0 (tests_ok R (f9 h j q l π C d s H));have G:∀π C d s H,PI (b6 X π ([x,y,z]++g0 a) a C d s H) (.Name y t) b (tIt X.K T.cl x0 (r.i (c8 lc a [x,y,z]) (.Name y t) b)):=λπ C d s H=>PI.x0 (R.ix (f9 h j q l π C d s H) (.Name y t) b);have M:∀π C d s H,PTL (b6 X π ([x,y,z]++g0 a) a C d s H) e (tBo X.K T.cl x0 (testsE r (c8 lc a [x,y,z]) e)):=λπ C d s H=>PTL.x0 (tests_ok R (f9 h j q l π C d s H));have P:∀π C d s H,PI (b6 X π ([x,y,z]++g0 a) a C d s H) (.Name z o) c (tIt X.K T.cl x0 (r.i (c8 lc a [x,y,z]) (.Name z o) c)):=λπ C d s H=>PI.x0 (R.ix (f9 h j q l π C d s H) (.Name z o) c);refine PE.imp (ax (n:=3) (B:=λY m=>tj Y.prog Y.w Y.A (.ListComp i [⟨.Name x v,g,ifs,0⟩,⟨.Name y t,b,f,0⟩,⟨.Name z o,c,e,0⟩] a pos) b 0 (.ref m) Y.env) ⋯ J (h.calm j) l rfl (w x (by simp)) (PI.x0 (R.ix h _ _))
   (λit m L=>Y6 rfl rfl (i4 A) λ_=>rfl)
   N
   (λπ C d s H m=>R6 rfl ⋯ (h.calm j) l rfl (w y (by simp)) (λit=>Y6 rfl rfl (i4 D) λ_=>rfl) (G π C d s H) (U π C d s H)
    (R6 rfl ⋯ (h.calm j) l rfl (w z (by simp)) (λit=>L0 rfl rfl λ_=>rfl) (P π C d s H) (M π C d s H) (C6 (O π C d s H))))
   (i4 K)) λI H Q ⟨μ,S,ρ,E,F,p⟩=>?_
  dsimp only at p;rw[ya]at p;exact wg (λ_ _ _ u=>R8 (R8 (J2 u))) E F p.nx
def An:RuS where
 is _ lc e:=match r3v e with
  | some (i,j,l,m,f,g,pos)=>match cl1 j,cl1 l,cl1 m with
   | some a,some b,some c=>decide (("return" : Str)∈lc.mu)&&(p9 lc f [a.1,b.1,c.1]&&i9 a.2.2.1&&i9 b.2.2.1&&i9 c.2.2.1)
   | _,_,_=>false
  | none=>false
 run r _ _ lc e ρ:=match r3v e with
  | some (i,j,l,m,f,g,pos)=>match cl1 j,cl1 l,cl1 m with
   | some a,some b,some c=>bind (bind (jf r lc i a b c f ρ) newL) λd=>ret (.rt d)
   | _,_,_=>bad
  | none=>bad
 ok {T k r Γ C lc X} e R TX h hf hi:=by
  cases s:r3v e with
  | none=>grind
  | some v=>
   have B:=CG s;obtain⟨i,j,l,m,f,g,pos⟩:=v;simp only[s]at hi;cases u:cl1 j with
   | none=>grind
   | some a=>
    cases t:cl1 l with
    | none=>grind
    | some b=>
     cases p:cl1 m with
     | none=>grind
     | some c=>
      simp only[u,t,p]at hi;have z:=T4 u;have A:=T4 t;have w:=T4 p;rw[Jp,Jp,Jp,Jp]at hi;obtain⟨_,⟨⟨x,y⟩,n⟩,o⟩:=hi;rw[B];rw[z,A,w];exact ky (xX R h x y n o)
 runK q _ _ lc e ρ _ k:=match r3v e with
  | some (i,j,l,m,f,g,pos)=>match cl1 j,cl1 l,cl1 m with
   | some a,some b,some c=>yx q lc i a b c f ρ λds=>bind (newL ds) λd=>k (.rt d)
   | _,_,_=>bad
  | none=>bad
 eq e ρ _ k h:=by
  cases r3v e with
  | none=>rfl
  | some v=>
   obtain⟨i,j,l,m,f,g,pos⟩:=v;dsimp only;cases cl1 j with
   | none=>rfl
   | some a=>
    cases cl1 l with
    | none=>rfl
    | some b=>
     cases cl1 m with
     | none=>rfl
     | some c=>simp only[xA h,bind_assoc,g8]
theorem cm(src:Src)(t:Env->M Bool)(f:Env->M D)(mk:D->Env):∀m i es,G9 src t f mk m i es=lvM src (λd=>t (mk d)) (λd=>elM f (mk d)) m i es
 | 0,_,_=>rfl
 | m+1,i,es=>by
  funext S;simp only[G9,lvM,elM,N7];cases src i S with
  | none=>rfl
  | some o=>
   cases o with
   | none=>rfl
   | some d=>
    refine congrFun (congrArg (bind (t (mk d))) (funext λb=>?_)) S;cases b with
    | false=>exact cm src t f mk m (i+1) es
    | true=>
     refine congrArg (bind (f (mk d))) (funext λy=>?_);by_cases z:es.length<sizeLine
     ·rw[if_pos z,if_pos z];exact cm src t f mk m (i+1) _
     ·rw[if_neg z,if_neg z];rfl
theorem hR(src:Src)(t:Env->M Bool)(c:Env->M (Src×Nat))(e:Env->M Bool)(f:Env->M D)(a:Env):∀m i es,P1 src t c e f a m i es=lvM src (λd=>t (some d::none::a)) (λd=>lvB c e 1 (elM f) (some d::none::a)) m i es
 | 0,_,_=>rfl
 | m+1,i,es=>by
  funext S;simp only[P1,lvM,lvB,N7];cases src i S with
  | none=>rfl
  | some o=>
   cases o with
   | none=>rfl
   | some d=>
    refine congrFun (congrArg (bind (t (some d::none::a))) (funext λb=>?_)) S;cases b with
    | false=>exact hR src t c e f a m (i+1) es
    | true=>
     refine congrArg (bind (c (some d::none::a))) (funext λh=>?_);rw[cm];exact congrArg (bind (lvM h.1 (λg=>e (some d::some g::a)) (λg=>elM f (some d::some g::a)) h.2 0 es)) (funext λes'=>hR src t c e f a m (i+1) es')
section
variable {X:Cx}{cl:ClW}{xe:Addr->Hp->Prop}{elt iter iter2:Expr}{x y:Str}{px py pos:Pos}{ifs ifs2:List Expr}{scope:Scope}{N':List Str}{caps:List Nat}{fi fi1:Env->M (Src×Nat)}{t t1:Env->M Bool}{f:Env->M D}
theorem EF:km caps fi t f=V2 1 caps fi t (elM f):=funext λρ=>congrArg (bind (fi ρ)) (funext λsm=>cm ..)
theorem JB:dB caps fi t fi1 t1 f=V2 2 caps fi t (lvB fi1 t1 1 (elM f)):=funext λρ=>congrArg (bind (fi ρ)) (funext λsm=>hR ..)
theorem lH(T:CompText X.N X.env N' 1 caps scope)(k:X.calm=true)(h:N'.Nodup)(d:N'[0]?=some x)(e:scope.names.lookup x=some .local)(l:PI X (.Name x px) iter (tIt X.K cl xe fi))
  (i:∀π C c s H,PTL (b6 X π N' scope C c s H) ifs (tBo X.K cl xe t)) (m:∀π C c s H,PE (b6 X π N' scope C c s H) elt (tD X.K cl xe f)) (n:i9 iter=true) :
  PE X (.ListComp elt [⟨.Name x px,iter,ifs,0⟩] scope pos) (ey X.K cl xe (km caps fi t f)):=
 PE.imp (ax (B:=λY a=>je Y.prog Y.w Y.A elt (.ref a) Y.env) ⋯ T k h d e l (λit a g=>L0 rfl rfl λ_=>rfl) i (λπ C c s H a=>C6 (m π C c s H)) (i4 n)) λq H Q ⟨μ,S,ρ,j,o,p⟩=>Y9 (λ_ _ _ b=>J2 b) j o (by rw[EF]at p;exact p)
theorem yb(T:CompText X.N X.env N' 2 caps scope)(m:X.calm=true)(l:N'.Nodup)(j:N'[0]?=some x)(k:N'[1]?=some y)(h:scope.names.lookup x=some .local)(i:scope.names.lookup y=some .local)(r:PI X (.Name x px) iter (tIt X.K cl xe fi))
  (w:∀π C a s H,PTL (b6 X π N' scope C a s H) ifs (tBo X.K cl xe t)) (d:∀π C a s H,PI (b6 X π N' scope C a s H) (.Name y py) iter2 (tIt X.K cl xe fi1)) (e:∀π C a s H,PTL (b6 X π N' scope C a s H) ifs2 (tBo X.K cl xe t1)) (u:∀π C a s H,PE (b6 X π N' scope C a s H) elt (tD X.K cl xe f)) (v:i9 iter=true) (g:i9 iter2=true) :
  PE X (.ListComp elt [⟨.Name x px,iter,ifs,0⟩,⟨.Name y py,iter2,ifs2,0⟩] scope pos) (ey X.K cl xe (dB caps fi t fi1 t1 f)):=
 PE.imp (ax (B:=λY b=>tj Y.prog Y.w Y.A (.ListComp elt [⟨.Name x px,iter,ifs,0⟩,⟨.Name y py,iter2,ifs2,0⟩] scope pos) iter2 0 (.ref b) Y.env) ⋯ T m l j h r (λit b q=>Y6 rfl rfl (i4 g) λ_=>rfl) w
  (λπ C a s H b=>R6 rfl ⋯ m l k i (λit=>L0 rfl rfl λ_=>rfl) (d π C a s H) (e π C a s H) (C6 (u π C a s H))) (i4 v)) λz H Q ⟨μ,S,ρ,n,o,p⟩=>Y9 (λ_ _ _ c=>R8 (J2 c)) n o (by rw[JB]at p;exact p)
end
def CC:RuE:=.of (vListComp.at (vI.pr ((v1.at (vG.at (vName.pr vI))).pr vI)))
 (λ_ d ⟨_,⟨⟨x,_⟩,b,_⟩,a,_⟩=>p9 d a [x]&&i9 b)
 (λr _ _ d ⟨c,⟨⟨x,e⟩,b,ifs⟩,a,_⟩ ρ=>bind (J6 r d c x e b ifs a ρ) λds=>ret (.lst ds))
 (λq _ _ d ⟨c,⟨⟨x,e⟩,b,ifs⟩,a,_⟩ ρ _ k=>cv q d c x e b ifs a ρ λds=>k (.lst ds))
 (by
  intro T k r Γ C d X ⟨c,⟨⟨x,e⟩,b,ifs⟩,a,pos⟩ R p h f;show PE X (.ListComp c [⟨(.Name x e),b,ifs,0⟩] a pos) _;dsimp only at f;rw[Jp]at f;show PE X _ (tD X.K T.cl (xOf X) λρ=>bind (J6 r d c x e b ifs a ρ) λds=>ret (.lst ds));unfold J6;cases n:e9 (e8 d.N) (g0 a) with
  | none=>exact f8
  | some caps=>
   obtain⟨o,j,m,g,l⟩:=u7 h f.1 n;exact eE (lH o (h.calm g) j rfl (m x (by simp)) (PI.x0 (R.ix h _ _)) (λπ C i s H=>PTL.x0 (tests_ok R (f9 h g l j π C i s H))) (λπ C i s H=>PE.x0 (R.ex (f9 h g l j π C i s H) c)) f.2))
 (by
  intro _ _ _ _ _ ⟨_,⟨⟨_,_⟩,_,_⟩,_,_⟩ ρ _ k h;simp only[fN h,bind_assoc,g8])
def Cv:RuE:=.of (vListComp.at (vI.pr ((v2.at ((vG.at (vName.pr vI)).pr (vG.at (vName.pr vI)))).pr vI)))
 (λ_ f ⟨_,⟨⟨⟨x,_⟩,c,_⟩,⟨⟨y,_⟩,b,_⟩⟩,a,_⟩=>p9 f a [x,y]&&i9 c&&i9 b)
 (λr _ _ f ⟨e,⟨⟨⟨x,j⟩,c,ifs⟩,⟨⟨y,i⟩,b,d⟩⟩,a,_⟩ ρ=>bind (aA r f e x y j i c b ifs d a ρ) λds=>ret (.lst ds))
 (λq _ _ f ⟨e,⟨⟨⟨x,j⟩,c,ifs⟩,⟨⟨y,i⟩,b,d⟩⟩,a,_⟩ ρ _ k=>hV q f e x y j i c b ifs d a ρ λds=>k (.lst ds))
 (by
  intro T k r Γ C f X ⟨e,⟨⟨⟨x,j⟩,c,ifs⟩,⟨⟨y,i⟩,b,d⟩⟩,a,pos⟩ R v h n;show PE X (.ListComp e [⟨(.Name x j),c,ifs,0⟩,⟨(.Name y i),b,d,0⟩] a pos) _;dsimp only at n;rw[Jp,Jp]at n;show PE X _ (tD X.K T.cl (xOf X) λρ=>bind (aA r f e x y j i c b ifs d a ρ) λds=>ret (.lst ds));unfold aA;cases t:e9 (e8 f.N) (g0 a) with
  | none=>exact f8
  | some caps=>
   obtain⟨u,m,p,l,o⟩:=u7 h n.1.1 t;exact eE (yb u (h.calm l) m rfl rfl (p x (by simp)) (p y (by simp)) (PI.x0 (R.ix h _ _)) (λπ C g s H=>PTL.x0 (tests_ok R (f9 h l o m π C g s H))) (λπ C g s H=>PI.x0 (R.ix (f9 h l o m π C g s H) _ _)) (λπ C g s H=>PTL.x0 (tests_ok R (f9 h l o m π C g s H))) (λπ C g s H=>PE.x0 (R.ex (f9 h l o m π C g s H) e)) n.1.2 n.2))
 (by
  intro _ _ _ _ _ ⟨_,⟨⟨⟨_,_⟩,_,_⟩,⟨⟨_,_⟩,_,_⟩⟩,_,_⟩ ρ _ k h;simp only[qK h,bind_assoc,g8])
def lW:RuS:=.of (vAssign.at ((v1.at vName).pr ((vListComp.at (vI.pr ((v1.at (vG.at (vName.pr vI))).pr vI))).pr vI)))
 (λ_ d ⟨⟨x,_⟩,⟨_,⟨⟨y,_⟩,b,_⟩,a,_⟩,_⟩=>T1 d x&&p9 d a [y]&&i9 b)
 (λr _ _ d ⟨⟨x,_⟩,⟨c,⟨⟨y,f⟩,b,ifs⟩,a,_⟩,_⟩ ρ=>bind (bind (J6 r d c y f b ifs a ρ) λds=>ret (.lst ds)) (O6 d x ρ))
 (λq _ _ d ⟨⟨x,_⟩,⟨c,⟨⟨y,f⟩,b,ifs⟩,a,_⟩,_⟩ ρ _ k=>cv q d c y f b ifs a ρ λds=>v9 d x ρ (.lst ds) k)
 (by
  intro T k r Γ C d X ⟨⟨x,p⟩,⟨c,⟨⟨y,f⟩,b,ifs⟩,a,e⟩,pos⟩ R Z h P j;show PS X (.Assign [(.Name x p)] (.ListComp c [⟨(.Name y f),b,ifs,0⟩] a e) pos) _;dsimp only at j;rw[Jp,Jp]at j;obtain⟨⟨E,Q⟩,L⟩:=j;rw[T1,Jp,Kd]at E;obtain⟨⟨i,j⟩,U⟩:=E;have o:X.N[i]?=some x:=by rw[h.N];exact k0 j
  have u:L2.Loc X.env.scope x:=by rw[h.sc];exact y7 U
  have t:X.fn x=true\/X.env.scope.names.lookup x=some .local:=.inl (h.fn1 P);have z:=zo h c [⟨.Name y f,b,ifs,0⟩] a x p pos e;show PS X _ (sD X.K T.cl (xOf X) λρ=>bind (bind (J6 r d c y f b ifs a ρ) λds=>ret (.lst ds)) (O6 d x ρ));unfold J6;cases O:e9 (e8 d.N) (g0 a) with
  | none=>exact PS.imp bQ λD W H ⟨μ,S,ρ,F,K,p⟩=>p.bind.elim
  | some caps=>
   obtain⟨J,w,M,v,G⟩:=u7 h Q O;have A:=λπ C m s H=>PTL.x0 (tests_ok (ifs:=ifs) R (f9 h v G w π C m s H));have N:=λπ C m s H=>PE.x0 (R.ex (f9 h v G w π C m s H) c);refine fj (k:=k) j ?_;cases I:swB d (.ListComp c [⟨.Name y f,b,ifs,0⟩] a e) a x p with
   | false=>
    rw[I]at z;exact nv h.nd' o u (lH J (h.calm v) w rfl (M y (by simp)) (PI.x0 (R.ix h _ _)) A N L) z t
   | true=>
    rw[I]at z;exact PS.imp (fw (n:=1) (B:=λY g=>je Y.prog Y.w Y.A c (.ref g) Y.env) z h.nd' o u t ⋯ J (h.calm v) w rfl (M y (by simp)) (PI.x0 (R.ix h _ _)) (λit g V=>L0 (k:=0) rfl rfl λ_=>rfl) A (λπ C m s H g=>C6 (N π C m s H)) (i4 L)) λD W H ⟨μ,S,ρ,F,K,p⟩=>Y9 (λ_ _ _ l=>J2 l) F K (by rw[EF]at p;exact p))
 (by
  intro _ _ _ _ _ ⟨⟨_,_⟩,⟨_,⟨⟨_,_⟩,_,_⟩,_,_⟩,_⟩ ρ _ k h;simp only[fN h,bind_assoc,g8,bF])
end L3
namespace HT
open PySem PySem.Spec PyProof.Rows
section
variable {prog:Program}{w:World}{K:Type}[DecidableEq K]{knd:KeyKind prog w K}{A:Around}{R:Result->Shared->Prop}{I:Addr}{fp wr:List Addr}{G:Array GenState->Array GenState->Prop}{n:Nat}{P:Nat->Value->Prop}{St:Nat->Shared->Prop}
abbrev Met(knd:KeyKind prog w K)(h:Heap)(B:Addr)(f:Nat->K)(i:Nat):Prop:=h.SetOf knd B (λk=>decide (k∈metKHt f i)) (metKHt f i).length
theorem qJ{h:Heap}{B:Addr}{S S':K->Bool}{n n':Nat}(t:h.SetOf knd B S n)(e:∀k,S k=S' k)(en:n=n'):h.SetOf knd B S' n':=by
 cases funext e;ext en;exact t
theorem JD(W:WalksS prog w A.in1 I fp wr G n P St)(B:Addr)(E:B∉fp)(f:Nat->K)(M:∀i v,P i v->knd.is (f i) v=true/\v.scannable=true)(a:n+1<scanBound) :
  ∀(k i:Nat)(s:Shared),n-i=k->i<=n->St i s->Met knd s.heap B f i->(∀z,Moved (B::wr) G s z->Met knd z.heap B f n->R (.ok (.ret .none)) z)->codeAny (model prog w) A (.builtin "set.update.loop" ⟨[.ref B,.ref I],[]⟩) R s:=by
 have u:=λh=>E (W.sub _ h);have D:∀b∈wr,b∈B::wr:=λb a=>JE _ a;have mv:∀{i:Nat}{s z:Shared},Moved wr G s z->Met knd s.heap B f i->Met knd z.heap B f i:=λm ⟨o,es,ep,tb,ho,r⟩=>⟨o,es,ep,tb,m.heap B _ u ho,r⟩;intro k;induction k with
 | zero=>
  intro i s N F st t q;obtain rfl:i=n:=by omega
  refine NL Mg ?_;rw[Around.under_plainId Lb _];exact Jn (W.done s _ _ st λz m=>Jo (q z (m.mono D) (mv m t)))
 | succ k O=>
  intro i s N F st t q;have C:i<n:=by omega
  refine NL Mg ?_;rw[Around.under_plainId Lb _];refine Jn (W.item i s _ _ C st λv z J r m=>?_);obtain⟨x,H⟩:=M i v J;refine Jn (Kf (Kf (Jn (knd.pyHash x ?_))));have l:=mv m t;refine wpAny_setAddHashed_of x H l (by have:=metK_le f i;omega) λg y d=>?_;have j:Met knd g B f (i+1):=qJ d (λQ=>by
   rw[metK_s];by_cases c:f i∈metKHt f i
   ·rw[if_pos c];by_cases e:Q=f i
    ·subst e;simp[c]
    ·simp[e]
   ·rw[if_neg c];simp) (by
   rw[metK_s];by_cases c:f i∈metKHt f i
   ·simp[c]
   ·simp[c])
  refine Jo ⟨plainId_quiet Lb _,O (i+1) _ ∅ C (W.frame _ z _ _ r (KM _) λb a o e=>?_) j λL m2 p=>?_⟩
  ·rw[y.2 b (λh:b=B=>E (h▸a))];exact e
  ·refine q L (Moved.trans W.gtrans ((m.mono D).then_heap (KM _) λb o a e=>?_) m2) p;rw[y.2 b (λh:b=B=>a (h▸Jy))];exact e
end
section
variable {prog:Program}{w:World}{K:Type}[DecidableEq K]{knd:KeyKind prog w K}{A:Around}{E:Value->Shared->Prop}{s:Shared}
theorem callK{t:Addr}{its:Array Value}(f:Nat->K){Q:Value->Shared->Prop}(hh:A.handled=none)(ht:s.heap.IsTuple t its)(hf:∀i v,its[i]?=some v->knd.is (f i) v=true/\v.scannable=true)(hb:its.size+1<scanBound)
  (h:∀(g:Heap)(tk:Nat),Met knd g s.heap.objs.size f its.size->(∀b o,b<s.heap.objs.size->s.heap.get? b=some o->g.get? b=some o)->Q (.ref s.heap.objs.size) { s with heap:=g,toks:=tk }):wpAny (model prog w) A (call (.type "set") [.ref t]) Q E s:=by
 obtain⟨c,tl,m1⟩:=PySem.F.called_set.mro;have m2:=PySem.F.called_set.made;have m3:=PySem.F.called_set.sub;refine LP (NG ?_);show wpAny _ _ (callAny (.type "set") _) _ _ _;refine Jo ⟨Code.quiet_builtin _ (by decide +kernel),NL PySem.F.entry_type_call ?_⟩;rw[Around.under_plain (weight_type_call_type "set" [.ref t] []) rfl];have m4:=PySem.F.called_set.notType;have m5:=PySem.F.called_set.canCreate;have m6:=PySem.F.typeCall_set_1 (.ref t)
 repeat (any_goals (first | assumption | wp_step))
 refine Ld (code_set_new_1 (.ref t) (E:=E) (Q₁:=λr z=>∃led:Bool,r=.ref s.heap.objs.size/\z={ s with heap:=s.heap.push (cT led) }) λled=>⟨led,rfl,rfl⟩) λr z hr=>?_
 match r,hr with
 | .error _,hr=>exact hr
 | .ok .next,hr=>exact hr.elim
 | .ok .brk,hr=>exact hr.elim
 | .ok .cont,hr=>exact hr.elim
 | .ok (.ret r),hr=>
  obtain⟨led,rfl,rfl⟩:=hr;have tT:Shared.TypeIs { s with heap:=s.heap.push (cT led) } (.ref s.heap.objs.size) "set":=⟨_,JG _ rfl,rfl⟩;have m7:=PySem.F.called_set.init.lookup;have m8:=PySem.F.called_set.init.bind (.ref s.heap.objs.size)
  repeat (any_goals (first | assumption | wp_step))
  refine Ld (LS (R:=wants (λr z=>r=.none/\∃g tk,z={ s with heap:=g,toks:=tk }/\Met knd g s.heap.objs.size f its.size/\∀b o,b<s.heap.objs.size->s.heap.get? b=some o->g.get? b=some o) E) PySem.F.called_set.init.plain PySem.F.entry_set_init (check_set_init_1 tT ?_)) λr z hr=>?_
  ·obtain⟨ob,eo,ec,n,ed⟩:=ht;obtain⟨cls,dict,data,slots⟩:=ob;dsimp only at ec ed;subst ec ed;have e1:=Jq (cT led) eo;have t1:(s.heap.push (cT led)).IsTuple t its:=⟨_,e1,rfl,n,rfl⟩;have lt:=Jx eo;have q1:=F.sub_tuple_set;have q2:=F.sub_tuple_frozenset;have q3:(Value.type "tuple" == Value.type "dict")=false:=by decide
   unfold Builtin.«set.__init__» noKeywords Builtin.Frozenset.updateFrom;generalize hp:pyIter=pI
   wp_walk
   subst hp;refine Ln t1 (Jn (wpAny_runValue ?_));have ne:t≠(s.heap.push (cT led)).objs.size:=by rw[KG];exact JF (Ko lt)
   have nS:s.heap.objs.size∉[(s.heap.push (cT led)).objs.size,t]:=by
    rw[KG];simp only[JH,LF,NP,not_or];exact⟨JF (Kh _),Nat.ne_of_gt lt⟩
   have h3:A.in1.in1.in1.handled=none:=by simp[hh]
   refine JD ((Walks.tuple h3 _ t ne its).toS) s.heap.objs.size nS f hf hb (its.size-0) 0 _ ∅ (Kg _) ⟨⟨_,JG _ rfl,rfl,rfl⟩,t1.push _⟩ ?_ ?_
   ·exact qJ ((setObjOf_fresh (knd:=knd) led).setOf (Jq _ (JG _ rfl)) (by unfold scanBound;omega)) (λk=>by simp[metKHt]) rfl
   ·rintro⟨g,gn,dr,tk,os⟩ mv hS;have z1:gn=s.gens:=mv.gens;have z2:dr=s.drawn:=mv.drawn;have z3:os=s.os:=mv.os;subst z1 z2 z3;refine Jo ?_;show wpAny _ _ (ret Value.none) _ _ _;refine Jo ⟨rfl,g,tk,rfl,hS,λb o hb e=>mv.heap b o ?_ (Jq _ (Jq _ e))⟩;simp only[JH,LF,NP,not_or];exact⟨JF hb,by rw[KG];exact JF (Ko hb)⟩
  ·match r,hr with
   | .error _,hr=>exact hr
   | .ok .next,hr=>exact hr.elim
   | .ok .brk,hr=>exact hr.elim
   | .ok .cont,hr=>exact hr.elim
   | .ok (.ret r),hr=>
    obtain⟨rfl,g,tk,rfl,hS,hk⟩:=hr
    repeat (any_goals (first | assumption | wp_step))
    exact h _ _ hS hk
end
end HT
namespace L3
open PySem PySem.Spec PyProof.Rows L2
section
variable {X:Cx}{e:Expr}{te:TE}{p p2 pos pos2:Pos}{cl:ClW}{xe:Addr->Hp->Prop}
def qW(K:PySem.W.Frag)(te:TE):TE:=λc H Q=>te c H λx b=>∃a ws,x=.ref a/\SqT K b a (ws.map V.str)/\ws.length<4000/\Q (.int ((bP ws).length:Nat)) b
theorem io(L:X.calm=true)(F:Gl X "len") (ml:X.mg "len" = none) (hs:Gl X "set") (ms:X.mg "set" = none) (T:PE X e te) (w:noStar e=true):PE X (.Call (.Name "len" p) [.Call (.Name "set" p2) [e] [] pos2] [] pos) (qW X.K te):=by
 intro π s C H Q I h;have hh:X.A.handled=none:=I.ok.hd L;refine Kr (C5 I F ml PySem.boot_len ?_ ⋯ ⋯);refine LB ?_ rfl rfl;show wpAny _ _ (spliced ((false,eval (.Call (.Name "set" p2) [e] [] pos2) X.env)::backTo pos (starEach [] X.env))) _ _ s;refine Ll ?_;refine Kr (C5 I hs ms (by rfl) ?_ ⋯ ⋯);refine Ku ?_ (g6 w) rfl;rw[g6 w];show wpAny _ _ (spliced ((false,eval e X.env)::backTo pos2 (starEach [] X.env))) _ _ s;refine Ll (thn (T π s C H _ I h) λu A ⟨x,M,E,K,a,ws,e1,R,hz,q⟩=>?_);subst e1;ext K;refine Ls ?_;have j:∀(c:List Value),c.length=ws.length->Vals (ws.map V.str) c->A.heap.IsTuple a c.toArray ->
   wpAny (model X.prog X.w) X.A (call (.type "set") [.ref a]) (λv z=>wpAny (model X.prog X.w) X.A (spliced (backTo pos (starEach [] X.env))) (λvs s2=>wpAny (model X.prog X.w) X.A (call (.builtin "len") (v::vs)) (EP X π C Q) X.xe s2) X.xe z) X.xe A:=λc d O m=>by
  refine HT.callK (knd:=strKind X.prog X.w) (λi=>ws.getD i "") hh m (λi v Z=>?_) (by rw[Jv,d];show ws.length+1<4096;omega) λg J r S=>?_
  ·obtain⟨t,rfl⟩:=eR O i v (by rw[<- MF];exact Z);exact⟨NT _ _ _ _,rfl⟩
  ·refine Ls ?_;have W:c.toArray.size=ws.length:=by rw[Jv,d]
   rw[W]at r;obtain⟨o,es,ep,t,ho,k,hd,_,_,l,Y,f⟩:=r;have B:es.size<4096:=l;refine PySem.call_len_set ho k hd Y ∅ ?_;have G:es.size=(bP ws).length:=f;rw[G];exact⟨.int ((bP ws).length:Nat),M,E.kept (t':=J+1+1) λb ob D=>S b ob (Jx D) D,⟨_,rfl⟩,q⟩
 obtain⟨c,y,⟨ob,P,N,n,U⟩,hsz⟩:=E.tuple R;exact j c (by rw[<- y.length,Jr]) y ⟨ob,P,N,n,U⟩
def D6(d:D):M D:=match d with
 | .tup ds=>(match j3 ds with
  | some ws=>if ws.length<4000 then ret (.int ((bP ws).length:Nat))else bad
  | none=>bad)
 | _=>bad
theorem iJ{f:Env->M D}(hc:X.calm=true)(hl:Gl X "len") (ml:X.mg "len" = none) (hs:Gl X "set") (ms:X.mg "set" = none) (he:PE X e (tD X.K cl xe f)) (hn:noStar e=true):PE X (.Call (.Name "len" p) [.Call (.Name "set" p2) [e] [] pos2] [] pos) (tD X.K cl xe λρ=>bind (f ρ) D6):=
 PE.imp (io hc hl ml hs ms he hn) λσ H Q ⟨μ,S,ρ,eo,rp,p⟩=>⟨μ,S,ρ,eo,rp,p.bind.imp λd S1 μ1 H1 l1 r1 p1 v rv=>by
  cases rv with
  | @tup a xs ds ht rs=>
   simp only[D6]at p1;cases e3:j3 ds with
   | none=>rw[e3]at p1;exact p1.elim
   | some ws=>
    rw[e3]at p1;obtain⟨hz,p1⟩:=Post.guard p1;have:=cn e3 rs;subst this;exact⟨_,ws,rfl,ht.sq,hz,p1 μ1 H1 (Lat.refl _ _) r1 _ (.int _)⟩
  | _=>exact False.elim p1⟩
end
def uK:RuE:=.of (vF (v1.at (vF v1)))
 (λΓ b ⟨⟨x,_⟩,⟨⟨y,_⟩,a,_⟩,_⟩=>decide (x = "len")&&decide (y = "set")&&(Γ.gl.lookup ("len" : Str)).isNone&&(Γ.gl.lookup ("set" : Str)).isNone&&glB b.sc "len" && glB b.sc "set" && !quiet b&&noStar a)
 (λr _ _ b ⟨⟨_,_⟩,⟨⟨_,_⟩,a,_⟩,_⟩ ρ=>bind (r.e b a ρ) D6)
 (λq _ _ b ⟨⟨_,_⟩,⟨⟨_,_⟩,a,_⟩,_⟩ ρ _ k=>q.e b a ρ λd=>bind (D6 d) k)
 (by
  intro T k r Γ C b X ⟨⟨l,m⟩,⟨⟨p,u⟩,t,s⟩,f⟩ R e h c;show PE X (.Call (.Name l m) [(.Call (.Name p u) [t] [] s)] [] f) _;dsimp only at c;simp only[Jp,JJ,Kq,Kl]at c;obtain⟨⟨⟨⟨⟨⟨⟨rfl,rfl⟩,i⟩,g⟩,o⟩,v⟩,j⟩,n⟩:=c;exact iJ (h.calm j) (h.gl o) (e.none h ⋯ i) (h.gl v) (e.none h ⋯ g) (R.ex h _) n)
 (by
  intro _ _ _ _ _ ⟨⟨_,_⟩,⟨⟨_,_⟩,_,_⟩,_⟩ ρ _ k h;simp only[h.e,bind_assoc])
end L3
namespace L2
open PySem PySem.Spec PyProof.Rows
section
variable {X:Cx}{π:List (Addr×Obj)}{σ:St}{H:Hp}{s:Shared}{N':List Str}{k:Nat}{caps:List Nat}{scope:Scope}{fp:List Addr}
theorem gG(T:CompText X.N X.env N' k caps scope)(I:Inv X π σ H s)(hf:∀b∈fp,D3 X π H b)(D:∀b∈fp,b<s.heap.objs.size){h':Heap}{m:Str->Option Value}{t:Nat}
  (Y:h'.Ns (s.heap.objs.size+1) m) (h:∀b o,s.heap.get? b=some o->h'.get? b=some o) (ha:ObjOk X.prog X.w (upd H s.heap.objs.size u) h' s.heap.objs.size u) :
  Inv (b6 X π N' scope (s.heap.objs.size+1) fp s H) [] (List.replicate k none++A8 caps σ) (upd H s.heap.objs.size u) { s with heap:=h',toks:=t }:=by
 have Q:=kt T I hf (KM _) D;have V:∀x∈scope.names,x.2=NameKind.free->∃c,X.env.cells.lookup x.1=some c:=λx R h=>I.ok.has x.1 (T.free x R h).2;have a:=D4 scope.names [] V λx c e=>by simp at e
 have w:=I.hok.fresh (Ju _);have lt:∀b u,H b=some u->b<s.heap.objs.size:=λb u e=>I.hok.lt e;refine⟨Q,rfl,I.bare,Un.laid h (Ju _) w,⟨m,Y,λi x v S G e3=>?_⟩,λx c e=>?_,?_,λx c e=>?_,λp W=>?_,I.hok.laid h (Ju _) ha,?_⟩
 ·by_cases hi:i<k
  ·grind
  ·rw[Ka (by simpa using LC hi)]at G;rw[KC]at G;obtain⟨j,hj,Z⟩:=gc G;obtain⟨y,h1,O,F⟩:=T.cps _ _ hj;have M:k+(i-k)=i:=by omega
   rw[M]at O;have K:=JZ (O.symm.trans S);subst K;have f:=(T.free (y,.free) (mem_of_lookup F) rfl).2;obtain⟨mX,hnX,E⟩:=I.loc;obtain⟨u,r,l⟩:=E j y v h1 Z (by rcases f with z | z;exact .inr (.inl z);exact .inr (.inr z));refine⟨u,r,?_⟩;rcases l with ⟨J,_⟩ | ⟨_,c,hc,q⟩
   ·have g:X.env.scope.names.lookup y=some .local:=J;rcases f with z | z
    ·rw[g]at z;ext z
    ·rw[g]at z;ext z
   ·obtain⟨N,A⟩:=Kd.mp (P6 scope.names [] y (mem_of_lookup F));have:=JZ ((a y N A).symm.trans hc);subst this;obtain⟨C,B,hd⟩:=q;exact .inr ⟨M8 F,N,A,C,h _ _ B,hd⟩
 ·obtain⟨v,C,B,hd⟩:=I.cell x c (a x c e);exact⟨v,C,h _ _ B,hd⟩
 ·show upd H s.heap.objs.size u (s.heap.objs.size+1)=none;rw[a8 (MI _)];exact I.hok.fresh (KM _)
 ·obtain⟨v,C,B,hd⟩:=I.cell x c (a x c e);rw[a8 (JF (Jx B))];exact I.freeC x c (a x c e)
 ·have L:p∈X.pn++π:=by
   have:=W;rwa [Kc]at this
  obtain⟨e,n,U,nf,d⟩:=I.pin p L;refine⟨h _ _ e,?_,JF (Ko (Jx e)),λP=>?_,d⟩
  ·rw[a8 (JF (Jx e))];exact n
  ·rcases JH.mp (I.stkSub p.1 P)with z | z
   ·exact U z
   ·exact nf z
 ·show _=N'.length;rw[T.len,JP,KC];unfold A8;rw[Jr]
end
section
variable {prog:Program}{w:World}{A:Around}{kx vx target iter:Expr}{ifs:List Expr}{gens:List Comprehension}{scope:Scope}{pos:Pos}{k:Nat}{it:Value}{acc:Addr}{env:PySem.Env}
theorem tU(hg:gens[k]?=some ⟨target,iter,ifs,0⟩)(hl:gens[k+1]?=none):compTurn (.DictComp kx vx gens scope pos) k it (.ref acc) env=(do
   standAt iter.pos
   match <- pyNext it with
   | none=>pure (.done .next)
   | some v=>
    letOwnedTupleGo target it v
    assign target env v
    let mut ok:=true
    for c in ifs do
     if ok then ok <- isTrue c env (eval c env)
    if ok then
     (do
      let kv <- eval kx env
      let vv <- holding [kv] (eval vx env)
      standAt { kx.pos with endLine:=vx.pos.endLine,endCol:=vx.pos.endCol }
      holding [kv,vv] (dictSet acc kv vv))
    again (.compLoop (.DictComp kx vx gens scope pos) k it (.ref acc) env)):=by
 unfold compTurn;simp only[hg,hl];rfl
def oV(prog:Program)(w:World)(A:Around)(h g:Expr)(e:Addr)(c:PySem.Env):BT:=λP s=>wpAny (model prog w) A (eval h c) (λf b=>wpAny (model prog w) A (eval g c) (λvv a=>
 wpAny (model prog w) A (dictSet e f vv) (λ_ d=>P d) (λ_ _=>False) a) (λ_ _=>False) b) (λ_ _=>False) s
theorem tQ(u:gens[k]?=some ⟨target,iter,ifs,0⟩)(y:gens[k+1]?=none)(x:∀v,letOwnedTupleGo target it v=pure ()) :
  K6 prog w A (.DictComp kx vx gens scope pos) k it (.ref acc) env target ifs (oV prog w A kx vx acc env):=by
 intro I R n s c h;refine NA rfl I (λn s t=>?_) n h;refine NO ?_;rw[tU u y];refine Jn (KF (Jn (JO (c n s t) (λr o a=>?_) λ_ _ h'=>h'.elim)));cases r with
 | none=>exact Jo a
 | some v=>
  refine Jn (ML (x v) ?_);refine Jn (JO a (λ_ i d=>Jn (JO d (λq p b=>?_) λ_ _ h'=>h'.elim)) λ_ _ h'=>h'.elim);cases q with
  | false=>exact Jo ⟨rfl,b⟩
  | true=>
   refine Jn (Jn (JO b (λz m e=>Jn (Kf (JO e (λvv l g=>Jn (KF (Kf (JO g (λ_ j f=>Jo ⟨rfl,f⟩) λ_ _ h'=>h'.elim)))) λ_ _ h'=>h'.elim))) λ_ _ h'=>h'.elim))
end
end L2
namespace L3
open PySem PySem.Spec PyProof.Rows L2
def AD(K:PySem.W.Frag)(cl:ClW)(xe:Addr->Hp->Prop)(a:Addr)(i v:V)(H:Hp)(Q:Hp->Prop):Prop:=∃μ S n y z,μ.pl[n]?=some a/\RD K μ H y i/\RD K μ H z v/\Rep K cl μ S H/\Post K cl xe μ H (W4 (.ref n) y z S) λ_ _ _ H'=>Q H'
theorem yd(hu:X.A.units+80<cLine)(hw:cl.w=X.w)(π:List (Addr×Obj))(s:Shared)(σ:L2.St)(H:Hp)(a:Addr)(i v:V)(iv u:Value)(Q:Hp->Prop)(E:Value->Shared->Prop)(I:L2.Inv X π σ H s)(ri:RelV i iv)(rv:RelV v u)(h:AD X.K cl xe a i v H Q) :
  wpAny (model X.prog X.w) X.A (dictSet a iv u) (λ_ s'=>∃H',L2.Inv X π σ H' s'/\Q H') E s:=by
 obtain⟨μ,S,n,y,z,h,ry,rz,rp,p⟩:=h;have m:=JL h;simp only[W4]at p;cases q1:S[n]? with
 | none=>rw[q1]at p;exact p.elim
 | some ob=>
  rw[q1]at p;cases ob with
  | lst _=>exact p.elim
  | exc _ _=>exact p.elim
  | dct _=>exact p.elim
  | dcT kvs=>
   obtain⟨es,h1,h2,h3,h4⟩:=rp.ats n _ a q1 h;rw[hw]at h4;cases q2:y0 y with
   | none=>rw[q2]at p;exact p.elim
   | some k=>
    rw[q2]at p;by_cases hl:kvs.length<sizeLine
    ·simp only[if_pos hl]at p;obtain⟨b,rfl⟩:=eH q2 ry;ext ri;obtain⟨xs,o,f1,f2,f3,f4,f5,f6,xx⟩:=we I h1 h3 h4;have lx:xs.length<=sizeLine:=by rw[<- Paired.length xx];exact Ny hl
     refine xD (by show X.A.units+8<cLine;omega) (eD I q2 ry) f1 f2 f3 f4 f5 f6 lx λh' o' es' g1 g2 g3 g4 hs=>?_;have px:=Hh xx q2 ry rv rz;have w1:Lat μ H μ (upd H a (DE a es'.toList)):=Lat.wrote m;refine⟨upd H a (DE a es'.toList),Y8 I (by rw[h1];exact True.intro) hs ⟨o',g1⟩ (Ge ⟨o',_,g1,g2,by rw[Array.toArray_toList];exact g3,rfl⟩),?_⟩;refine p μ _ w1 (rp.wrote h ⟨es'.toList,b8,h2,pB q2 h3 hl,?_⟩);have pe:=uQ px;rw[<- g4]at pe;rw[hw];exact Paired.mono (λ_ _ ⟨b,v,z,a1,a2,a3,a4,a5,a6⟩=>⟨b,v,z,a1,a2.later w1,a3,a4,a5,a6.later w1⟩) pe
    ·simp only[if_neg hl]at p;exact p.elim
def wb(K:PySem.W.Frag)(cl:ClW)(xe:Addr->Hp->Prop)(e h:TE):TBo Unit:=λa b H _ Q=>e b H λc f=>h b f λvv d=>AD K cl xe a c vv d λg=>Q () g
def ce(caps:List Nat)(e:TI)(g:TT)(f:TBo Unit):TE:=λb H Q=>e b H λJ c=>∀a,c a=none->(a==sysModules)=false->uV J g 0 f a (List.replicate 1 none++A8 caps b) (upd c a (DE a [])) () λ_ d=>Q (.ref a) d
theorem lp{a:List (Addr×Obj)}{N':List Str}{b:Scope}{C:Addr}{c:List Addr}{e:Shared}{f:Hp}{m i:Expr}{d:Nat}{j l:TE}{n k:Nat}(o:X.A.units+80<cLine)(w:cl.w=X.w)(D:PE (b6 X a N' b C c e f) m j)(v:PE (b6 X a N' b C c e f) i l) :
  J7 (b6 X a N' b C c e f) n k (oV X.prog X.w X.A m i d (b6 X a N' b C c e f).env) d (wb X.K cl xe j l):=by
 intro π s g H ys Q P _ I h A;refine g9 (thn (D π s g H _ I h) λB L ⟨y,F,E,t,u⟩=>g9 (thn (v π L g F _ E u) λvv s2 ⟨z,J,p,G,r⟩=>?_));exact thn (yd (X:=b6 X a N' b C c e f) o w π s2 g J d y z B vv _ _ p t G r) λ_ x ⟨M,K,q⟩=>A () M x K q
def mD:M D:=λS=>.ok (.ref S.length) (S++[.dcT []])
def dcM(src:Src)(t:D->M Bool)(a b:D->M D)(r:D):Nat->Nat->M Unit
 | 0,_=>bad
 | m+1,i=>λS=>match src i S with
  | none=>.bad
  | some none=>.ok () S
  | some (some d)=>bind (t d) (λz=>if z=true then bind (a d) λk=>bind (b d) λv=>bind (W4 r k v) λ_=>dcM src t a b r m (i+1)else dcM src t a b r m (i+1)) S
def dJ(caps:List Nat)(e:Env->M (Src×Nat))(t:Env->M Bool)(b c:Env->M D)(ρ:Env):M D:=bind (e ρ) λa=>bind mD λr=>bind (dcM a.1 (λd=>t ((E4 1 caps ρ).set 0 (some d))) (λd=>b ((E4 1 caps ρ).set 0 (some d))) (λd=>c ((E4 1 caps ρ).set 0 (some d))) r a.2 0) λ_=>ret r
theorem ET(src:Src)(t:D->M Bool)(a b:D->M D)(r:D)(m i:Nat)(κ:Unit->M α)(S:Sto):bind (dcM src t a b r (m+1) i) κ S=(match src i S with
  | none=>.bad
  | some none=>κ () S
  | some (some d)=>bind (t d) (λz=>if z=true then bind (a d) λk=>bind (b d) λv=>bind (W4 r k v) λ_=>bind (dcM src t a b r m (i+1)) κ else bind (dcM src t a b r m (i+1)) κ) S):=by
 cases h:src i S with
 | none=>exact(cD (by simp only[dcM,h];rfl)).trans rfl
 | some o=>
  cases o with
  | none=>exact(cD (by simp only[dcM,h];rfl)).trans rfl
  | some d=>
   refine(cD (m':=bind (t d) (λz=>if z=true then bind (a d) λk=>bind (b d) λv=>bind (W4 r k v) λ_=>dcM src t a b r m (i+1)else dcM src t a b r m (i+1))) (by simp only[dcM,h])).trans ?_;rw[N7];congr 1;congr 1;funext z;cases z with
   | true=>rw[if_pos rfl,if_pos rfl,N7];simp only[N7]
   | false=>rfl
theorem sS{K:PySem.W.Frag}{cl:ClW}{xe:Addr->Hp->Prop}{caps:List Nat}{fi:Env->M (Src×Nat)}{t:Env->M Bool}{F C:Env->M D}{V:L2.St}{H:Hp}{Q:VK}{μ:Mp}{S:Sto}{ρ:Env}(Z:EnvOk K μ H ρ V)(rp:Rep K cl μ S H)
  (p:Post K cl xe μ H (dJ caps fi t F C ρ S) λd _ μ' H'=>∀v,RD K μ' H' d v->Q v H'):ce caps (tIt K cl xe fi) (tBo K cl xe t) (wb K cl xe (tD K cl xe F) (tD K cl xe C)) V H Q:=by
 refine⟨μ,S,ρ,Z,rp,p.bind.imp λB S1 c w l1 r1 p1 J yl b g s=>?_⟩;have j:Lat c w (c.push b) (upd w b (DE b [])):=by
  refine⟨λn a e=>?_,λa o e n=>by rw[a8 (b9 e g)];exact e,λa m=>?_,rfl⟩
  ·show(c.pl++[b])[n]?=some a;rw[Jz (Js.mp e).1];exact e
  ·rcases JY.mp (m)with z | z
   ·exact .inl z
   ·grind
 have r2:Rep K cl (c.push b) (S1++[.dcT []]) (upd w b (DE b [])):=r1.pushed g (λa u e=>by rw[a8 (b9 e g)];exact e) ⟨[],b8,s,⟨Kg _,by simp⟩,.nil⟩;have r:(c.push b).pl[S1.length]?=some b:=by
  show(c.pl++[b])[S1.length]?=some b;rw[<- r1.len];simp
 have p2:Post K cl xe (c.push b) (upd w b (DE b [])) ((bind (dcM B.1 (λd=>t ((E4 1 caps ρ).set 0 (some d))) (λd=>F ((E4 1 caps ρ).set 0 (some d))) (λd=>C ((E4 1 caps ρ).set 0 (some d))) (.ref S1.length) B.2 0) λ_=>ret (.ref S1.length)) (S1++[.dcT []])) λd _ μ' H'=>∀v,RD K μ' H' d v->Q v H':=Post.later p1 j;have G:=(fy 1 caps (Z.later l1)).later j;refine⟨λi m _ l=>∃f q,Lat (c.push b) (upd w b (DE b [])) f l/\Rep K cl f q l/\Post K cl xe f l ((bind (dcM B.1 (λd=>t ((E4 1 caps ρ).set 0 (some d))) (λd=>F ((E4 1 caps ρ).set 0 (some d))) (λd=>C ((E4 1 caps ρ).set 0 (some d))) (.ref S1.length) m i) λ_=>ret (.ref S1.length)) q) λd _ μ' H'=>∀v,RD K μ' H' d v->Q v H',⟨B.2,_,_,Lat.refl _ _,r2,p2⟩,?_⟩;rintro i m _ l ⟨f,q,E,Y,k⟩;cases m with
 | zero=>exact k.elim
 | succ m=>
  have y:=yl i f l q (j.trans E).r.u Y;rw[ET]at k;cases e1:B.1 i q with
  | none=>rw[e1]at k;exact k.elim
  | some o=>
   rw[e1]at k y;cases o with
   | none=>exact .inl ⟨y,k f l (Lat.refl _ _) Y _ (.ref (E.pre _ _ r))⟩
   | some d=>
    obtain⟨y1,y2⟩:=y;refine .inr ⟨y1,λx H4 hy=>?_⟩;obtain⟨N,r4,U⟩:=y2 x H4 hy;have h:=((G.later E).later N).set U 0;refine⟨f,q,_,h,r4,(Post.later k N).bind.imp λz S5 R H5 T r5 X=>?_⟩;have I:=(E.trans N).trans T;cases z with
    | false=>grind
    | true=>
     refine vy ?_;rw[if_pos rfl]at X;refine⟨R,S5,_,h.later T,r5,X.bind.imp λkd S6 P H6 W r6 p6 kv rk=>⟨P,S6,_,(h.later T).later W,r6,p6.bind.imp λvd S7 L H7 l7 r7 p7 vv rv=>?_⟩⟩;have A:=(I.trans W).trans l7;exact⟨L,S7,S1.length,kd,vd,A.pre _ _ r,rk.later l7,rv,r7,p7.bind.imp λ_ S8 O H8 l8 r8 p8=>⟨m,Kh _,O,S8,A.trans l8,r8,p8⟩⟩
theorem BP{T:Tx}{k:Nat}{e:Lc}{X:Cx}(h:CxOk T k e X)(f d:Expr)(c:List Comprehension)(a:Scope)(x:Str)(pos' pos b:Pos):swapsWith (.DictComp f d c a b) (some (.Name x pos')) pos.line X.env=pure (swB e (.DictComp f d c a b) a x pos'):=by
 show pure (X.env.blockKind==.function&&X.env.kindOf x==some .local&&pos'.line==(Expr.DictComp f d c a b).pos.line&&!(a.names.any λ(n,k)=>n==x&&(k==.local||k==.cell)))=_;have g:X.env.blockKind=.function:=by unfold PySem.Env.blockKind;rw[h.sc,h.kd];rfl
 have i:X.env.kindOf x=e.sc.names.lookup x:=by unfold PySem.Env.kindOf;rw[h.sc]
 rw[g,i];rfl
theorem Dk{T:Tx}{k i:Nat}{b:Lc}{X:Cx}{x:Str}{p pos:Pos}{e:Expr}{caps:List Nat}{c:Env->M (Src×Nat)}{t:Env->M Bool}{j f:Env->M D}{xe:Addr->Hp->Prop}(m:e8 b.N x=some i)(h:PS X (.Assign [.Name x p] e pos) (oh (ce caps (tIt X.K T.cl x0 c) (tBo X.K T.cl x0 t) (wb X.K T.cl x0 (tD X.K T.cl x0 j) (tD X.K T.cl x0 f))) (Z5 i))):PS X (.Assign [.Name x p] e pos) (sD X.K T.cl xe λρ=>bind (nx (dJ caps c t j f ρ)) (O6 b x ρ)):=PS.imp h λD u H ⟨μ,S,ρ,l,n,p⟩=>
 sS l n (p.bind.nx.imp λd S1 a s q r g v o=>by
  simp only[O6,m]at g;exact g.ret a s (Lat.refl _ _) r _ ((l.later q).set o i))
section
variable (r:Ev)(q:EvK)(lc:Lc)(kx vx:Expr)(a:Cl1)(scope:Scope)(ρ:Env)
def jn:M D:=match e9 (e8 lc.N) (g0 scope) with
 | some caps=>nx (dJ caps (r.i lc (.Name a.1 a.2.1) a.2.2.1) (testsE r (c8 lc scope [a.1]) a.2.2.2) (r.e (c8 lc scope [a.1]) kx) (r.e (c8 lc scope [a.1]) vx) ρ)
 | none=>bad
def tN{c:Type}(k:D->M c):M c:=match e9 (e8 lc.N) (g0 scope) with
 | some caps=>bind (nx (q.i lc (.Name a.1 a.2.1) a.2.2.1 ρ λb=>bind mD λr=>bind (dcM b.1 (λd=>testsK q (c8 lc scope [a.1]) a.2.2.2 ((E4 1 caps ρ).set 0 (some d))) (λd=>q.e (c8 lc scope [a.1]) kx ((E4 1 caps ρ).set 0 (some d)) ret) (λd=>q.e (c8 lc scope [a.1]) vx ((E4 1 caps ρ).set 0 (some d)) ret) r b.2 0) λ_=>ret r)) k
 | none=>bad
end
theorem wK{r:Ev}{q:EvK}(h:EqK r q)(c:Lc)(e d:Expr)(a:Cl1)(b:Scope)(ρ:Env){f:Type}(k:D->M f):tN q c e d a b ρ k=bind (jn r c e d a b ρ) k:=by
 unfold tN jn;cases e9 (e8 c.N) (g0 b) with
 | none=>rfl
 | some caps=>simp only[h.i,h.e,k6,tests_eq h,dJ]
abbrev SDV:=Str×Pos×Expr×Expr×Comprehension×Scope×Pos×Pos
def sdv:Stmt->Option SDV:=(vAssign.at ((v1.at vName).pr ((vDictComp.at (vI.pr (vI.pr (v1.pr vI)))).pr vI))).o λv=>(v.1.1,v.1.2,v.2.1.1,v.2.1.2.1,v.2.1.2.2.1,v.2.1.2.2.2.1,v.2.1.2.2.2.2,v.2.2)
theorem Df{e:Stmt}{v:SDV}(h:sdv e=some v):e=.Assign [.Name v.1 v.2.1] (.DictComp v.2.2.1 v.2.2.2.1 [v.2.2.2.2.1] v.2.2.2.2.2.1 v.2.2.2.2.2.2.1) v.2.2.2.2.2.2.2:=by
 obtain⟨v,rfl,rfl⟩:=Vw.o_ok h;rfl
def M5(x y:D):M D:=match x with
 | .ref n=>λS=>match S[n]? with
  | some (.dcT a)=>(match y0 y with
   | some k=>bY (V6 a k) S
   | none=>.bad)
  | _=>ixD (.ref n) y S
 | x=>ixD x y
section
variable {X:Cx}{cl:ClW}{xe:Addr->Hp->Prop}
theorem FV(hu:X.A.units+80<cLine)(hw:cl.w=X.w):IxR X (rP2 X.K cl xe M5):=by
 intro value slice π s σ H x y v u Q I rx ry ⟨μ,S,d,e,rd,re,rp,p⟩ hs;have old:Post X.K cl xe μ H (ixD d e S) (λr _ μ' H'=>∀v,RD X.K μ' H' r v->Q v H')->wpAny (model X.prog X.w) X.A (subscriptTail value slice v u) (EP X π σ Q) X.xe s:=λq=>Ds ∅ value slice π s σ H x y v u Q I rx ry ⟨μ,S,d,e,rd,re,rp,q⟩ hs;cases rd with
 | ref h=>
  rename_i n a;simp only[M5]at p;cases q1:S[n]? with
  | none=>grind
  | some o=>
   rw[q1]at p;cases o with
   | dcT kvs=>
    obtain⟨es,h1,h2,h3,h4⟩:=rp.ats n _ a q1 h;rw[hw]at h4;cases q2:y0 e with
    | none=>rw[q2]at p;exact p.elim
    | some k=>
     rw[q2]at p;obtain⟨z,e1,p⟩:=eG p;obtain⟨b,rfl⟩:=eH q2 re;ext rx;ext ry;obtain⟨xs,dd,xx⟩:=wA I h1 h3 h4;have fx:=jI (k:=k) xx;rw[e1]at fx;obtain⟨b',u',e2,v',rv,rz⟩:=fx;obtain⟨o,ep,g1,g2,g3,_⟩:=(I.hok a _ h1).1;have hT:s.TypeIs (.ref a) "dict":=⟨o,g1,g2.1⟩;have h₂:wpAny (model X.prog X.w) X.A (getItem (.ref a) (.ref b)) (EP X π σ Q) X.xe s:=wpAny_getItem_heap (HN hu) (eD I q2 re) dd e2 ⟨v',H,I.tok _,rv,p μ H (Lat.refl _ _) rp _ rz⟩;refine Jn ?_;rw[getitemInPython_of_ne hT.not_modules];refine Jn (NH hT PySem.F.slot_dict_getitem.lookup ?_);have fin:wpAny (model X.prog X.w) X.A (subscripted slice false (.ref a) (.ref b)) (λr s₃=>wpAny (model X.prog X.w) X.A (letTemporaryGo value (.ref a) r >>= λ_=>pure r) (EP X π σ Q) X.xe s₃) X.xe s:=by
      rw[hs];exact wpAny_operating (JO h₂ (λr s₃ h₃=>Jn (wpAny_letTemporaryGo (Jo h₃))) λ_ _ x=>x)
     first
      | exact Jo (Jn fin)
      | exact Jn fin
      | exact fin
   | lst _=>exact old p
   | dct _=>exact old p
   | exc _ _=>exact old p
 | _=>exact old p
end
def ixv(ns:List Str)(e:Expr):Option (Str×Pos×Expr×Pos):=((vSubscript.at (vName.pr vI)).o (λv=>(v.1.1,v.1.2,v.2.1,v.2.2)) e).filter λv=>decide (v.1∈ns)&&t8 v.2.2.1
theorem BW(h:ixv ns e=some v):e=.Subscript (.Name v.1 v.2.1) v.2.2.1 v.2.2.2/\t8 v.2.2.1=true:=by
 obtain⟨h,q⟩:=Option.filter_eq_some_iff.1 h;obtain⟨v,rfl,rfl⟩:=Vw.o_ok h;exact⟨rfl,(Jp _ _▸q).2⟩
def CN(ns:List Str):RuE where
 is _ _ e:=(ixv ns e).isSome
 run r _ _ lc e ρ:=match ixv ns e with
  | some v=>bind (r.e lc (.Name v.1 v.2.1) ρ) λx=>bind (r.e lc v.2.2.1 ρ) λy=>M5 x y
  | none=>bad
 ok {T k r Γ C lc X} e R TX h hi:=by
  cases a:ixv ns e with
  | none=>grind
  | some v=>
   obtain⟨b,c⟩:=BW a;rw[b];exact zq (R.ex h _) (R.ex h _) (FV h.u80 (by rw[h.w];rfl)) (N9 c)
 runK q _ _ lc e ρ _ k:=match ixv ns e with
  | some v=>q.e lc (.Name v.1 v.2.1) ρ λx=>q.e lc v.2.2.1 ρ λy=>bind (M5 x y) k
  | none=>bad
 eq e ρ _ k h:=by
  cases ixv ns e with
  | none=>rfl
  | some v=>simp only[h.e,bind_assoc]
theorem jD(b c t i:Expr)(ifs:List Expr)(a:Scope)(pos:Pos):eval (.DictComp b c [⟨t,i,ifs,0⟩] a pos) env=comprehension (.DictComp b c [⟨t,i,ifs,0⟩] a pos) a env i.pos newDict false (eval i env):=by
 first
  | rfl
  | (unfold eval;rfl)
  | (rw[eval];rfl)
section
variable {X:Cx}{kx vx iter:Expr}{x:Str}{px:Pos}{ifs:List Expr}{scope:Scope}{pos:Pos}{N':List Str}{caps:List Nat}{wi:TI}{tc:TT}{tb:TBo Unit}{B:Cx->Nat->BT}
theorem ny(T:CompText X.N X.env N' 1 caps scope)(hc:X.calm=true)(hN:N'.Nodup)(V:N'[0]?=some x)(W:scope.names.lookup x=some .local)(hi:PI X (.Name x px) iter wi)
  (L:∀it j env,K6 X.prog X.w X.A (.DictComp kx vx [⟨.Name x px,iter,ifs,0⟩] scope pos) 0 (.ref it) (.ref j) env (.Name x px) ifs (B { X with env:=env } j))
  (ht:∀π C k s H,PTL (b6 X π N' scope C k s H) ifs tc)
  (d:∀π C k s H j,J7 (b6 X π N' scope C k s H) 1 0 (B { X with env:=(b6 X π N' scope C k s H).env } j) j tb)
  (hs:∀x,foldedSetIterable iter X.env x=pure x):PE X (.DictComp kx vx [⟨.Name x px,iter,ifs,0⟩] scope pos) (ce caps wi tc tb):=by
 intro π s U H Q I h;have fr:∀x∈scope.names,x.2=NameKind.free->∃c,X.env.cells.lookup x.1=some c:=λx hx hk=>I.ok.has x.1 (T.free x hx hk).2;rw[jD];refine Lw rfl hs (v7 fr) T.kind T.loc ?_;refine thn (hi π s U H _ I h) λv s1 h1=>thn h1 λitv s2 R=>?_;obtain⟨it,k,tn,J,S,rfl,G,F,r,K,R⟩:=R;have P:=R s2.heap.objs.size (G.hok.fresh (Ju _)) (by
  have:=G.big;rw[Kz];exact λz=>by rw[z]at this;exact absurd this (Lu _))
 have w:=λb d=>let ⟨o,e,_⟩:=F.obj _ _ r b d;Jx e
 refine JT (LU T.cell (by intro y hy;simp at hy) (λu f a=>?_) T.kind);have hC:(s2.heap.push { cls:=.type "dict",dict:=none,data:=.dict #[] }).objs.size=s2.heap.objs.size+1:=KG ..;rw[hC]at f a;have A:=λb o e=>a.extBut b o (JF (Ko (Jx e))) (Jq _ (Jq _ e));have E:=a.extBut _ _ (JF (Kh _)) (Jq _ (JG _ rfl));have g:=F.keep _ _ _ r λb _ o e=>A b o e;have M:=gG (t:=s2.toks+([]:List (Str×Value)).length) T G K w f A (Ge ⟨_,_,E,⟨rfl,rfl,rfl⟩,rfl,rfl⟩);have n:∀{H':Hp},(∀b∈k,H' b=none)->∀b∈k,D3 (b6 X π N' scope (s2.heap.objs.size+1) k s2 S) [] H' b:=λhn b d=>by
  refine⟨hn b d,(M.ok.exf b d).1,M.ok.exfs b d,.inl d,(M.ok.exf b d).2,λp hp=>?_⟩;have N:p∈X.pn++π:=by
   have:=hp;rwa [Kc]at this
  exact(K b d).2.2.2.2.2 p N
 have Z:∀i,i<1->(List.replicate 1 none++A8 caps U)[i]?=some none:=λi h=>by
  rw[Jz (by simpa using h),Kv,if_pos h]
 have l:∀O:Shared,O={ s2 with heap:=u,toks:=s2.toks+([]:List (Str×Value)).length } ->
   codeAny (model X.prog X.w) X.A (.compLoop (.DictComp kx vx [⟨.Name x px,iter,ifs,0⟩] scope pos) 0 (.ref it) (.ref s2.heap.objs.size) (compEnvC scope (O3 X.env.cells scope.names) (s2.heap.objs.size+1) X.env))
    (compPost (model X.prog X.w) X.A X.xe none (EP X π U Q) (.ref s2.heap.objs.size) (s2.heap.objs.size+1)) O:=by
  rintro O rfl;refine dm hc hN V W (L it _ _) (ht π _ k s2 S) (d π _ k s2 S _) F n M g (λb d=>by rw[a8 (JF (w b d))];exact(K b d).1) (Z 0 ⋯) (λi _ h=>Z i h) P λzs H4 s5 m q=>?_;obtain⟨m5,Y,_⟩:=id m.loc;refine⟨m5,Y,λh' hs'=>?_⟩;refine⟨.ref s2.heap.objs.size,H4,?_,rfl,q⟩;refine G.call' m.os (Un.sameBut m.base hs' (KM _)) (m.hok.sameBut m.free hs') m.bare λb d=>?_;have:=K b d;exact⟨this.2.2.2.1,this.2.1,this.2.2.2.2.1,this.2.2.2.2.2⟩
 have D:=codeAny_compStart_dict (l _ rfl) (F.self _ 0 _ _ _ g (l _ rfl));rw[<- hC]at D;exact D
end
def DG(d:Lc)(g:Str)(p:Pos)(h f:Expr)(e:Comprehension)(b:Scope)(c:Pos)(a:Cl1):Bool:=T1 d g&&p9 d b [a.1]&&i9 a.2.2.1&&(swB d (.DictComp h f [e] b c) b g p==false)&&decide (("t{}" : Str)∈d.mu)
theorem Ek(h:DG lc g p kx vx c1 scope pos2 a=true):T1 lc g=true/\p9 lc scope [a.1]=true/\i9 a.2.2.1=true/\swB lc (.DictComp kx vx [c1] scope pos2) scope g p=false:=by
 unfold DG at h;grind
def BS:RuS where
 is _ lc e:=match sdv e with
  | some (g,p,l,j,m,b,c,pos)=>match cl1 m with
   | some a=>DG lc g p l j m b c a
   | none=>false
  | none=>false
 run r _ _ lc e ρ:=match sdv e with
  | some (g,p,l,j,m,b,c,pos)=>match cl1 m with
   | some a=>bind (jn r lc l j a b ρ) (O6 lc g ρ)
   | none=>bad
  | none=>bad
 ok {T k r Γ C lc X} e R TX h hf t:=by
  cases K:sdv e with
  | none=>grind
  | some v=>
   have O:=Df K;obtain⟨g,p,l,j,m,b,c,pos⟩:=v;simp only[K]at t;cases J:cl1 m with
   | none=>grind
   | some a=>
    simp only[J]at t;have e1:=T4 J;have hq:=Ek t;clear t;obtain⟨hg,U,Q,M⟩:=hq;have u:=hg;rw[T1,Jp,Kd]at u;obtain⟨⟨i,t⟩,P⟩:=u;have F:X.N[i]?=some g:=by rw[h.N];exact k0 t
    have G:L2.Loc X.env.scope g:=by rw[h.sc];exact y7 P
    have A:X.fn g=true\/X.env.scope.names.lookup g=some .local:=.inl (h.fn1 hf);have E:=BP h l j [m] b g p pos c;rw[M]at E;rw[O];simp only[J];obtain⟨x,z,f,ifs⟩:=a;rw[e1]at E ⊢;unfold jn;cases hm:e9 (e8 lc.N) (g0 b) with
    | none=>exact PS.imp bQ λD σ H ⟨μ,S,ρ,eo,rp,p⟩=>p.bind.elim
    | some caps=>
     obtain⟨W,w,t3,y,I⟩:=u7 h U hm;have q0:=λπ C n s H=>PTL.x0 (tests_ok (ifs:=ifs) R (f9 h y I w π C n s H));have L:=λπ C n s H=>PE.x0 (R.ex (f9 h y I w π C n s H) l);have Z:=λπ C n s H=>PE.x0 (R.ex (f9 h y I w π C n s H) j);refine Dk (k:=k) t ?_;have V:PE X (.DictComp l j [⟨.Name x z,f,ifs,0⟩] b c) (ce caps (tIt X.K T.cl x0 (r.i lc (.Name x z) f)) (tBo X.K T.cl x0 (testsE r (c8 lc b [x]) ifs)) (wb X.K T.cl x0 (tD X.K T.cl x0 (r.e (c8 lc b [x]) l)) (tD X.K T.cl x0 (r.e (c8 lc b [x]) j)))):=
      ny (B:=λY o=>oV Y.prog Y.w Y.A l j o Y.env) W (h.calm y) w rfl (t3 x (by simp)) (PI.x0 (R.ix h _ _))
      (λit o env=>tQ rfl rfl λ_=>rfl) q0
      (λπ C n s H o=>lp h.u80 (by rw[h.w];rfl) (L π C n s H) (Z π C n s H))
      (i4 Q)
     have s1:swapsWithSole [.Name g p] (.DictComp l j [⟨.Name x z,f,ifs,0⟩] b c) pos.line X.env=pure false:=by unfold swapsWithSole;exact E
     have s2:swappedStores [.Name g p] (.DictComp l j [⟨.Name x z,f,ifs,0⟩] b c) X.env=pure none:=by
      first
       | rfl
       | (unfold swappedStores;rfl)
     have N:(assignEach [.Name g p] X.env).map (·.2)=[assign (.Name g p) X.env]:=rfl;exact hF V (M0 h.nd' F G A) s1 s2 N
 runK q _ _ lc e ρ _ k:=match sdv e with
  | some (g,p,l,j,m,b,c,pos)=>match cl1 m with
   | some a=>tN q lc l j a b ρ λd=>v9 lc g ρ d k
   | none=>bad
  | none=>bad
 eq e ρ _ k h:=by
  cases sdv e with
  | none=>rfl
  | some v=>
   obtain⟨g,p,l,j,m,b,c,pos⟩:=v;dsimp only;cases cl1 m with
   | none=>rfl
   | some a=>simp only[wK h,bind_assoc,bF]
section
variable {P:Program}{w:World}{A:Around}{E:Value->Shared->Prop}{s:Shared}{a t:Addr}{o:Obj}{es:Array DictEntry}{ep i:Nat}
theorem Ab(n:(a==sysModules)=false)(b:s.heap.get? a=some o)(c:o.ExactDict)(hd:o.data=.dict es ep)
  (q:Q (.ref s.heap.objs.size) { s with heap:=s.heap.push { cls:=.type "dict_keyiterator",data:=.fields #[.ref a,.int 0 0,.int es.size 0,.int ep 0] } }):wpAny (model P w) A (pyIter (.ref a)) Q E s:=by
 have T:s.TypeIs (.ref a) "dict":=⟨o,b,c.1⟩;refine wpAny_pyIter_slot T PySem.F.slot_dict_iter (KJ PySem.F.slot_dict_iter T PySem.F.entry_dict_iter ?_ (PySem.F.args_dict_iter_1 _));refine Jn (Jn (wpAny_notOrdered_dict T (Jo ?_)));refine Jn (m:=Builtin.Dict.showsAll a) ?_;unfold Builtin.Dict.showsAll;rw[n];refine Jo (Jn (Ni b hd (Jn (NM b hd (Jn (JT (Jo ⟨_,rfl,"dict_keyiterator",_,⟨_,JG _ rfl,rfl⟩,PySem.F.slot_dict_keyiterator_next.lookup,?_⟩)))))));simpa [rawInt] using q
theorem yX{n:Nat}(h:s.heap.IsKeyIter t a i n ep)(q:Q (.ref t) s):wpAny (model P w) A (pyIter (.ref t)) Q E s:=wpAny_pyIter_keyiter h q
theorem yi(h:s.heap.IsKeyIter t a i es.size ep)(d:s.heap.get? a=some o)(hd:o.data=.dict es ep)(f:i<es.size)
  (q:∀h',h'.IsKeyIter t a (i+1) es.size ep->Heap.SameBut t s.heap h'->Q (some es[i].key) { s with heap:=h' }):wpAny (model P w) A (pyNext (.ref t)) Q E s:=by
 obtain⟨u,c,e,b⟩:=id h;have T:=h.typeIs;refine Jn (Nm (Kw T KI (KJ KI T Mj ?_ (Mh _))));refine Jn (Jo (Jn (Jn ?_)));first | refine Jn (KR T (Jo ?_)) | refine Jn (Lx T (Jo ?_))
 refine Jn (wpAny_fieldsOf c b ?_);refine wpAny_ite_split (λz=>absurd z Jt) λ_=>?_;refine Jn (Jo (Jn (Ni d hd ?_)));rw[if_neg (by simp)];refine Jn (Jo (Jn (NM d hd ?_)));rw[if_neg (by simp)];refine Jo ?_;simp only[show ¬ ((i:Int)<0) from by omega,Na,LO,LZ f];refine Jn ?_;first | refine Jn (KR T (Jo ?_)) | refine Jn (Lx T (Jo ?_))
 refine Jn (wpAny_isOneOf_keyiter T ?_);refine Jn (m:=setField (.ref t) 1 (rawInt ((i:Int)+1))) (LD c b (by simp) ?_);have z:(s.heap.update t (Obj.mapFields (·.setIfInBounds 1 (rawInt ((i:Int)+1))))).IsKeyIter t a (i+1) es.size ep:=
  ⟨_,Kj _ c (Obj.isFreed_of_fields (Obj.data_mapFields b _)),(Obj.cls_mapFields ..).trans e,by rw[Obj.data_mapFields b];simp[rawInt]⟩
 refine Jn (Kf (Jn (wpAny_isOneOf_keyiter z.typeIs (Jo ?_))));exact Jo ⟨_,rfl,Jo (q _ z (KZ ..))⟩
theorem BO(e:A.handled=none)(h:s.heap.IsKeyIter t a i es.size ep)(c:s.heap.get? a=some o)(hd:o.data=.dict es ep)(f:es.size<=i)
  (q:∀h',Heap.ExtBut t s.heap h'->Q none { s with heap:=h' }):wpAny (model P w) A (pyNext (.ref t)) Q E s:=by
 obtain⟨u,d,g,b⟩:=id h;have T:=h.typeIs;refine Jn (Nm (Kw T KI (KJ KI T Mj ?_ (Mh _))));refine Jn (Jo (Jn (Jn ?_)));first | refine Jn (KR T (Jo ?_)) | refine Jn (Lx T (Jo ?_))
 refine Jn (wpAny_fieldsOf d b ?_);refine wpAny_ite_split (λz=>absurd z Jt) λ_=>?_;refine Jn (Jo (Jn (Ni c hd ?_)));rw[if_neg (by simp)];refine Jn (Jo (Jn (NM c hd ?_)));rw[if_neg (by simp)];refine Jo ?_;simp only[show ¬ ((i:Int)<0) from by omega,Na,LO,Array.getElem?_eq_none f];refine Jn ?_;first | refine Jn (KR T (Jo ?_)) | refine Jn (Lx T (Jo ?_))
 refine Jn (m:=setField (.ref t) 0 .none) (LD d b (by simp) ?_);refine Jn ?_;refine Jn (JT ?_ (by size_fits));refine Jn (ML (by first | rfl | (simp;rfl)) (JT ?_ (by size_fits)));refine Jn (wpAny_handled ?_);rw[e];refine Jn (Jo (wpAny_throw ?_));refine(Jn (wpAny_isInstance ⟨_,JG _ rfl,rfl⟩ isSubtype_stop ?_));exact Jo (q _ (((KZ ..).extBut.push _).push _))
end
def Itk(a:Addr)(n:Nat):It:=
 ⟨λi H=>∃es e b,H a=some (DE a es)/\es.length=n/\es[i]?=some e/\e.key=.ref b,λi H x H'=>H'=H/\∀es,H a=some (DE a es)->∃e b,es[i]?=some e/\e.key=.ref b/\x=.ref b,λi H=>∃es,H a=some (DE a es)/\es.length=n/\n<=i⟩
theorem Az{b:L2.St}{H:Hp}{s:Shared}(I:L2.Inv X π b H s){a:Addr}{es es':List DictEntry}(h:H a=some (DE a es))(h':H a=some (DE a es')):es=es':=by
 obtain⟨o,d,f,_,e,_⟩:=(I.hok a _ h).1;obtain⟨o',c,g,_,i,_⟩:=(I.hok a _ h').1;grind
theorem mi{K:PySem.W.Frag}{tg:Expr}(a t:Addr)(n:Nat):Turn P w K tg (Itk a n) [t] t (λi h=>h.IsKeyIter t a i n n) where
 mem:=by simp
 obj:=λi h st b g=>by
  cases JK.mp g;obtain⟨o,e,c,d⟩:=st;exact⟨o,e,λv z=>by rw[d]at z;cases z⟩
 keep:=λi h h' ⟨o,e,r⟩ k=>⟨o,k t (by simp) o e,r⟩
 item:=by
  intro X q D y M i π s U H E I l st ⟨es,e,b,m,C,j,L⟩;subst q D y C;obtain⟨o,V,A,W,x,p⟩:=(I.hok a _ m).1;subst p;obtain⟨J,u,Q,G,F,B⟩:=l t (by simp);have N:=(Js.mp j).1;refine yi (by rw[Jv];exact st) A x (by rw[Jv];exact N) λh' f Y=>?_;have O:=I.turned (t':=s.toks) (λb o g e=>(Y.2 b g).trans e) J u G F B;obtain⟨o',R,z2,Z⟩:=id f;have S:(es.toArray[i]'(by rw[Jv];exact N)).key=.ref b:=by
   rw[List.getElem_toArray,<- L];rw[(Js.mp j).2]
  rw[Jv]at f;refine⟨_,rfl,ja R z2 Z ⋯ ⟨.ref b,H,O,by rw[S];exact rfl,⟨rfl,λes' h=>?_⟩,f,λb g=>(l b g).1⟩⟩;cases Az I m h;exact⟨e,b,j,L,rfl⟩
 done:=by
  intro X q D y M i π s U H E I l st ⟨es,m,C,j⟩;subst q D y C;obtain⟨o,V,A,W,x,p⟩:=(I.hok a _ m).1;subst p;obtain⟨J,u,Q,G,F,B⟩:=l t (by simp);exact BO (I.ok.hd M) (by rw[Jv];exact st) A x (by rw[Jv];exact j) λh' T=>⟨rfl,I.turned (λb o g e=>T b o g e) J u G F B⟩
 self:=λ_ _ _ _ _ st h=>yX st h
theorem xj{tg l:Expr}{g:TE}(u:PE X l g):PI X tg l (λf H R=>g f H λx d=>∃a es,x=.ref a/\d a=some (DE a es)/\(a==sysModules)=false/\R (Itk a es.length) d):=by
 intro π s f H R I h;refine thn (u π s f H _ I h) λv i ⟨x,d,c,k,m⟩=>?_;obtain⟨a,es,e,t,y,q⟩:=m;subst e;ext k;obtain⟨o,z,r,p,n,j⟩:=(c.hok a _ t).1;subst j;refine Ab y r p n ?_;refine⟨i.heap.objs.size,[i.heap.objs.size],_,_,d,rfl,c.kept λb o e=>Jq _ e,mi a _ es.length,⟨_,JG _ rfl,rfl,by rw[Jv];rfl⟩,λb w=>?_,q⟩;cases JK.mp w;exact c.fpOk (Ju _) (c.hok.fresh (Ju _))
def iI(n m:Nat):Src:=λi S=>match S[n]? with
 | some (.dcT a)=>if a.length=m then some (a[i]?.map (·.1))else none
 | _=>none
def P7(d:D):M (Src×Nat):=match d with
 | .ref n=>λS=>match S[n]? with
  | some (.dcT a)=>.ok (iI n a.length,a.length+1) S
  | _=>.bad
 | _=>bad
section
variable {K:PySem.W.Frag}{cl:ClW}{μ:Mp}{H:Hp}{X:Cx}{xe:Addr->Hp->Prop}{e tg:Expr}{f:Env->M D}
theorem pc:∀{xs:List α}{ys:List β},Paired F xs ys->∀{i:Nat}{x:α},xs[i]?=some x->∃y,ys[i]?=some y/\F x y
 | _,_,.nil,i,x,e=>by ext i <;> ext e
 | _,_,.cons h t,0,x,e=>by ext e;exact⟨_,rfl,h⟩
 | _,_,.cons h t,i+1,x,e=>pc t e
theorem xO{n m:Nat}(h:μ.pl[n]?=some a):Yl K cl (Itk a m) μ H (iI n m):=λi μ2 H2 S2 l rp=>by
 unfold iI;cases q1:S2[n]? with
 | none=>exact True.intro
 | some o=>
  cases o with
  | lst _=>exact True.intro
  | dct _=>exact True.intro
  | exc _ _=>exact True.intro
  | dcT kvs=>
   dsimp only;by_cases hm:kvs.length=m
   ·rw[if_pos hm];obtain⟨es,h1,h2,h3,h4⟩:=rp.ats n _ a q1 (l.pre _ _ h);have hl:=Paired.length h4;cases e1:kvs[i]? with
    | none=>exact⟨es,h1,by rw[<- hl];exact hm,by rw[<- hm];exact Lq.mp e1⟩
    | some p=>
     obtain⟨en,e2,b,v,q,a1,a2,_⟩:=pc h4 e1;exact⟨⟨es,en,b,h1,by rw[<- hl];exact hm,e2,a1⟩,λx H3 ⟨z1,z2⟩=>by
      subst z1;obtain⟨en',b',y1,y2,y3⟩:=z2 es h1;rw[e2]at y1;ext y1;rw[a1]at y2;ext y2;subst y3;exact⟨Lat.refl _ _,rp,a2⟩⟩
   ·rw[if_neg hm];exact True.intro
theorem tH(h:PE X e (tD X.K cl xe f)):PI X tg e (tIt X.K cl xe λρ=>bind (f ρ) P7):=PI.imp (xj h) λσ H R ⟨μ,S,ρ,eo,rp,p⟩=>
 ⟨μ,S,ρ,eo,rp,p.bind.imp λd S1 μ1 H1 l1 r1 p1 v rv=>by
  cases rv with
  | ref h=>
   rename_i n a;simp only[P7]at p1;cases q1:S1[n]? with
   | none=>rw[q1]at p1;exact p1.elim
   | some o=>
    rw[q1]at p1;cases o with
    | dcT kvs=>
     obtain⟨es,h1,h2,h3,h4⟩:=r1.ats n _ a q1 h;refine⟨a,es,rfl,h1,h2,p1 μ1 H1 (Lat.refl _ _) r1 _ ?_⟩;rw[<- Paired.length h4];exact xO h
    | dct _=>exact p1.elim
    | exc _ _=>exact p1.elim
    | lst _=>exact p1.elim
  | _=>exact False.elim p1⟩
end
def IN(ns:List Str):Expr->Bool
 | .Name x _=>decide (x∈ns)
 | _=>false
def HF(ns:List Str):RuI where
 is _ _ _ e:=IN ns e
 run r _ _ lc e ρ:=bind (r.e lc e ρ) P7
 ok g e R TX h hi:=tH (R.ex h e)
 runK q _ _ lc e ρ _ k:=q.e lc e ρ λd=>bind (P7 d) k
 eq e ρ _ k h:=by simp only[h.e,bind_assoc]
def fF(ns:List Int):Option Int:=(az (ns.map λn=>-n)).map λn=>-n
theorem jc(h:m∈ns)(q:∀a∈ns,m<=a):fF ns=some m:=by
 unfold fF;rw[xP (Ky.mpr ⟨m,h,rfl⟩) λa ha=>?_]
 ·grind
 ·grind
def bj(ds:List D):M D:=match ds with
 | [.int i,.int j]=>ret (.int (if j<i then j else i))
 | [d]=>bind (lstOf d) λes=>match (w9 es).bind fF with
  | some m=>ret (.int m)
  | none=>bad
 | _=>bad
section
variable {X:Cx}{cl:ClW}{xe:Addr->Hp->Prop}
theorem ng(C:X.calm=true):k5 X (.builtin "min") (λxs H Q=>∃(p:Addr) (ns:List Int),xs=[.ref p]/\SqL X.K H p (ns.map V.int)/\∃m,fF ns=some m/\Q (.int m) H):=by
 intro π s M H xs us Q I r ⟨p,ns,F,k,m,h,q⟩;subst F;obtain⟨u,rfl,z⟩:=X0 r;ext z;obtain⟨c,D,pl,hz⟩:=I.list k;have A:=I.ok.hd C;obtain⟨ys,E,g⟩:=D1 D;have w:c.toArray=intItems ys.toArray:=by rw[E];simp[intItems]
 have d:0<ys.toArray.size:=by
  cases ys with
  | nil=>ext g;ext h
  | cons y ys=>simp
 refine min_intList A (by rw[<- w];exact pl.isList) d λv h' L x J=>?_;obtain⟨t,rfl⟩:=intItems_at x;obtain⟨K,B⟩:=argBest_lt (numAt ys.toArray) (ys.toArray.size-1);have f:fF ns=some (numAt ys.toArray (argBest (λi j=>decide (numAt ys.toArray i<numAt ys.toArray j)) (ys.toArray.size-1))):=by
  refine jc ?_ λa e=>?_
  ·grind
  ·rw[<- g]at e;obtain⟨j,G,rfl⟩:=mem_getD (l:=ys.toArray.toList.map (·.1)) e;rw[Jr,Mc]at G;rw[<- numAt_eq];exact B j ∅
 rw[h]at f;ext f;exact⟨.int _,H,I.kept λb o n=>J b o n,⟨t,rfl⟩,q⟩
theorem CM(i:X.calm=true):k5 X (.builtin "min") (rPs X.K cl xe bj):=by
 intro π s j H xs us Q I r ⟨μ,S,ds,b,g,p⟩;unfold bj at p;split at p
 ·cases b with
  | cons h t=>cases t with
   | cons c n=>
    ext n;ext h;ext c;exact mT i π s j H _ us Q I r ⟨_,_,rfl,p μ H (Lat.refl _ _) g _ (.int _)⟩
 ·rename_i d;cases b with
  | cons h t=>
   ext t;obtain⟨a,xs,es,rfl,l,c,k⟩:=j0 h g p.bind;have p:=p.ok_bind k;cases e:w9 es with
   | none=>rw[e]at p;exact p.elim
   | some ns=>
    rw[e]at p;cases f:fF ns with
    | none=>simp only[Li,f]at p;exact p.elim
    | some m=>
     simp only[Li,f]at p;have:=dq e c;subst this;exact ng i π s j H _ us Q I r ⟨a,ns,rfl,.inl (.inl l),m,f,p μ H (Lat.refl _ _) g _ (.int _)⟩
 ·exact p.elim
end
def FW:RuE:=rBf "min" "min" true bj ⋯ rfl λ_ a=>CM (a rfl)
end L3
namespace L3.K92
open PySem PySem.Spec PyProof.Rows L2
def nth(l:List Stmt)(i:Nat):Stmt:=l.getD i (.Pass ⟨0,0,0,0⟩)
def top(i:Nat):Stmt:=nth PySem.Challenge.pw_handnames_k92_whole_papers_hold_in_nets.main.body i
def B4:Stmt->List Stmt
 | .For _ _ b _ _=>b
 | .While _ b _ _=>b
 | _=>[]
def Bt:Stmt->Expr
 | .While c _ _ _=>c
 | _=>.Name "" ⟨0,0,0,0⟩
def lV:Stmt->List Stmt
 | .Try b _ _ _ _=>b
 | _=>[]
def jb:Stmt->List Stmt
 | .Try _ [.ExceptHandler _ _ b _] _ _ _=>b
 | _=>[]
abbrev uO:Fd:=h9 (top 5) []
abbrev qN:Fd:=h9 (top 6) []
abbrev zu:Fd:=h9 (top 7) []
abbrev zR:Fd:=h9 (top 8) []
abbrev zj:Fd:=h9 (top 9) []
abbrev FF:Fd:=h9 (top 13) []
abbrev Ja:Fd:=h9 (top 14) []
abbrev Jm:Fd:=h9 (top 15) []
abbrev Fo:Fd:=h9 (top 16) ["return"]
abbrev Je:Fd:=h9 (top 17) []
abbrev Gf:Fd:=h9 (top 23) []
abbrev Jb:Fd:=h9 (top 24) ["waiting"]
abbrev tz:Fd:=h9 (top 25) []
abbrev Bj:Fd:=h9 (top 26) []
abbrev sL:Fd:=h9 (top 27) ["setw"]
abbrev Jg:Fd:=h9 (top 28) []
abbrev zG:Fd:=h9 (top 29) []
abbrev says_F:Fd:=h9 (top 30) []
abbrev zQ:Fd:=h9 (top 33) []
abbrev IO:Fd:=h9 (top 34) ["t{}"]
abbrev Jk:Fd:=h9 (top 35) []
abbrev Ji:Fd:=h9 (top 36) []
abbrev HP:Fd:=h9 (top 37) []
abbrev tu:Fd:=h9 (top 39) []
abbrev zy:Fd:=h9 (top 40) []
abbrev zD:Fd:=h9 (top 41) []
abbrev Id:Fd:=h9 (top 42) []
abbrev Ea:Fd:=h9 (top 43) []
abbrev Jf:Fd:=h9 (top 44) []
abbrev Jd:Fd:=h9 (top 45) []
abbrev zz:Fd:=h9 (top 47) []
abbrev zM:Fd:=h9 (top 48) []
abbrev AA:Fd:=h9 (top 49) []
abbrev Cl:Fd:=h9 (top 51) []
abbrev zk:Fd:=h9 (top 52) []
abbrev AE:Fd:=h9 (top 53) []
abbrev soL_F:Fd:=h9 (top 54) []
abbrev GL:Fd:=h9 (top 55) ["_law_some"]
abbrev Jl:Fd:=h9 (top 56) []
abbrev Jj:Fd:=h9 (top 57) []
abbrev Jh:Fd:=h9 (top 58) []
abbrev Jc:Fd:=h9 (top 59) []
abbrev law_F:Fd:=h9 (top 60) []
abbrev Dl:Nat:=0
abbrev Cz:Nat:=1
abbrev Ci:Nat:=2
abbrev Cs:Nat:=3
abbrev Ap:Nat:=4
abbrev GH:Nat:=5
abbrev aV:Nat:=6
abbrev FO:Nat:=7
abbrev AC:Nat:=8
abbrev uT:Nat:=9
abbrev FT:Nat:=10
abbrev BM:Nat:=11
abbrev Cm:Nat:=12
abbrev Eu:Nat:=13
abbrev Bh:Nat:=14
abbrev rF:Nat:=15
abbrev Z8:Nat:=16
abbrev ci:Nat:=17
abbrev oJ:Nat:=18
abbrev kf:Nat:=19
abbrev tI:Nat:=20
abbrev iO:Nat:=21
abbrev ou:Nat:=22
abbrev DR:Nat:=23
abbrev Bi:Nat:=24
abbrev df:Nat:=25
abbrev A0:Nat:=26
abbrev lP:Nat:=27
abbrev dj:Nat:=28
abbrev uS:Nat:=29
abbrev Al:Nat:=30
abbrev bE:Nat:=31
abbrev DU:Nat:=32
abbrev iA:Nat:=33
abbrev AV:Nat:=34
abbrev aR:Nat:=35
abbrev sw:Nat:=36
abbrev zC:Nat:=37
abbrev iQ:Nat:=38
abbrev Ao:Nat:=39
abbrev BC:Nat:=40
abbrev Cn:Nat:=41
abbrev rg:Nat:=42
def Tb:List Fd:=[uO,qN,zu,zR,zj,FF,Ja,Jm,Fo,Je,Gf,Jb,tz,Bj,sL,Jg,zG,says_F,zQ,IO,Jk,Ji,HP,tu,zy,zD,Id,Ea,Jf,Jd,zz,zM,AA,Cl,zk,AE,soL_F,GL,Jl,Jj,Jh,Jc,law_F]
def Γ:Gm:=⟨("HandError",.err 0 [])::("NoStep",.err 1 ["hand"])::("NoPaper",.err 2 ["word","at"])::("WORDS",.val (.tup [(.str "out"),(.str "ask"),(.str "close"),(.str "look"),(.str "holds"),(.str "right"),(.str "down")]))::("ENDED",.val (.tup [(.str "holds"),(.str "right"),(.str "down")]))::("MOST_FORMULAS",.val (.int 20))::("MOST_WITHIN",.val (.int 8))::("HANDS",.dct [("each",(.tup [(.int 0)])),("some",(.tup [(.int 0)])),("pairs",(.tup [(.int 0),(.int 1)])),("plain",(.tup []))])::("PARTS",.dct [("at",(.int 3)),("mark",(.int 2)),("free",(.int 1)),("closed",(.int 1)),("not",(.int 2)),("both",(.int 3)),("either",(.int 3))])::("MOST_SENTENCES",.val (.int 12))::("is_whole",.fn 0 1)::("is_one_of",.fn 1 2)::("is_tuple_of",.fn 2 2)::("with_at",.fn 3 3)::("triangle",.fn 4 1)::("first_decider",.fn 5 1)::("step_decider",.fn 6 2)::("moving_hands",.fn 7 1)::("all_deciders",.fn 8 1)::("all_words",.fn 9 1)::("is_sentence",.fn 10 1)::("is_formula",.fn 11 2)::("is_built",.fn 12 2)::("formulas_in",.fn 13 1)::("are_words",.fn 14 1)::("is_so",.fn 15 2)::("hands_meant",.fn 16 2)::("says",.fn 17 3)::("lets_paper",.fn 18 2)::("carried_stands",.fn 19 2)::("check_shape",.fn 20 1)::("first_fault",.fn 21 2)::("stands_next",.fn 22 1)::("first_net",.fn 23 2)::("end_of",.fn 24 1)::("number_of",.fn 25 1)::("step_net",.fn 26 3)::("hand_behind",.fn 27 2)::("local_at",.fn 28 3)::("word_at",.fn 29 2)::("_law_feed",.fn 30 1)::("_law_draw",.fn 31 2)::("_law_words",.fn 32 0)::("_law_formula",.fn 33 3)::("_law_sentence",.fn 34 2)::("_law_says",.fn 35 3)::("_law_so",.fn 36 2)::("_law_good_sentences",.fn 37 0)::("_law_lets",.fn 38 2)::("_law_moves",.fn 39 3)::("_law_so_there",.fn 40 3)::("_law_holds",.fn 41 4)::("law",.fn 42 1)::[],λc c0=>c0==0||c==c0,["hand","word","at"],[]⟩
def Rs:Rules:=⟨[BR,Fg,IJ,Hv,HQ,He,CN ["faults"],rIx,Io,IS,rFn,IQ,HB,uK,wB,Hx,AU,JC,Ih,FW,IF,ED,rIf,Ie,JA,Iv,rSl,Iw,CC,Cv,BI,rAppend,vA,Ed,xm],[DA,FX,Ei,IG,CF],[Cr,Ik,sIf,Iy,BD,An,IZ,Ew,lW,As,BS,Iq,IP,Hu,En,Dx],[yD,Hk,HF ["faults"],Ho]⟩
abbrev rn(k i:Nat)(ds:List D):M D:=O5 Rs Γ Tb k i ds
abbrev XX(C:Cf)(n:Nat)(l:Lc)(b:List Stmt)(i:Nat)(ρ:L3.Env){α:Type}(κ:Fl->M α):M α:=(evK Rs Γ C n).s l (nth b i) ρ κ
local macro_rules|`($x:ident@$e<|$b)=>`(bind $e λ$x=>$b)
local macro_rules|`(())=>`(by kernel_rfl)
section
variable (C:Cf){α:Type}(κ:Fl->M α){ua ub uc ud ue uf ug:D}{qa qb qc qd qe qf qg qh qi qj:Option D}
theorem xU:runK Rs Γ C uO [ua]=(x1@(P5 "int" (λ_=>false) ua)<|c2@(i6 x1)<|if c2 then (x3@(P5 "bool" (λ_=>false) ua)<|c4@(i6 x3)<|ret (.bl (!c4)))else (ret x1)):=()
theorem vj:runK Rs Γ C qN [ua,ub]=(x1@(C 0 [ua])<|c2@(i6 x1)<|if c2 then (x3@(b7 .In ua ub)<|ret x3)else (ret x1)):=()
theorem wU:runK Rs Γ C zu [ua,ub]=(x1@(P5 "tuple" (λ_=>false) ua)<|c2@(i6 x1)<|if c2 then (x3@(D2 ua)<|x4@(b7 .Eq x3 ub)<|ret x4)else (ret x1)):=()
theorem yC:runK Rs Γ C zR [ua,ub,uc]=(n1@(gF ub)<|x2@(slD ua none n1)<|x3@(o9 x2 (.tup [uc]))<|x4@(o9 ub (.int 1))<|n5@(gF x4)<|x6@(slD ua n5 none)<|x7@(o9 x3 x6)<|ret x7):=()
theorem uZ:runK Rs Γ C zj [ua]=(x1@(o9 ua (.int 1))<|x2@(C3 ua x1)<|x3@(B0 x2 (.int 2))<|ret x3):=()
theorem Cg:runK Rs Γ C FF [ua]=(x1@(C3 (.tup [(.str "out")]) ua)<|ret (.tup [.non,(.bl false),x1])):=()
def eI:Lc:=u9 Ja
theorem tE:runK Rs Γ C Ja [ua,ub]=i7 (evK Rs Γ C 40) eI Ja.body [ua,ub,none,none,none,none] endD:=()
theorem rR:Ja.body=[nth Ja.body 0,nth Ja.body 1,nth Ja.body 2,nth Ja.body 3,nth Ja.body 4,nth Ja.body 5,nth Ja.body 6]:=()
theorem FK:XX C 40 eI Ja.body 0 [ua,qa,qb,qc,qd,qe] κ=bind (O8 (q4 [2,3,4]) ua [ua,qa,qb,qc,qd,qe]) κ:=()
theorem HW:XX C 40 eI Ja.body 1 [qa,ua,qb,qc,ub,qd] κ=(x1@(ixD ub ua)<|κ (.nx [qa,ua,qb,qc,ub,x1])):=()
theorem HE:XX C 40 eI Ja.body 2 [qa,ua,qb,qc,qd,ub] κ=(x1@(b7 .In ub (.tup [(.str "holds"),(.str "right"),(.str "down")]))<|z2@(asB x1)<|if z2 then (x3@(D5 1 ["hand"] [ua])<|bind (t7 x3) (fin κ))else (κ (.nx [qa,ua,qb,qc,qd,ub]))):=()
theorem xl:XX C 40 eI Ja.body 3 [qa,ua,qb,ub,uc,ud] κ=(x1@(b7 .Eq ud (.str "out"))<|z2@(asB x1)<|if z2 then (x3@(C 3 [uc,ua,(.str "ask")])<|κ (.rt (.tup [ua,ub,x3])))else (κ (.nx [qa,ua,qb,ub,uc,ud]))):=()
theorem Cd:XX C 40 eI Ja.body 4 [qa,ua,ub,uc,ud,ue] κ=(x1@(b7 .Eq ue (.str "ask"))<|z2@(asB x1)<|if z2 then (z3@(i6 uc)<|if z3 then (x4@(C 3 [ud,ua,(.str "right")])<|κ (.rt (.tup [ub,uc,x4])))else (x5@(C 3 [ud,ua,(.str "close")])<|κ (.rt (.tup [ub,uc,x5]))))else (κ (.nx [qa,ua,ub,uc,ud,ue]))):=()
theorem Hd:XX C 40 eI Ja.body 5 [qa,ua,ub,qb,uc,ud] κ=(x1@(b7 .Eq ud (.str "close"))<|z2@(asB x1)<|if z2 then (x3@(C 3 [uc,ua,(.str "look")])<|κ (.rt (.tup [ub,(.bl true),x3])))else (κ (.nx [qa,ua,ub,qb,uc,ud]))):=()
theorem Ij:XX C 40 eI Ja.body 6 [qa,ua,ub,uc,ud,qb] κ=(x1@(b7 .Eq ub ua)<|z2@(asB x1)<|if z2 then (x3@(C 3 [ud,ua,(.str "holds")])<|κ (.rt (.tup [ub,uc,x3])))else (x4@(C 3 [ud,ua,(.str "down")])<|κ (.rt (.tup [ub,uc,x4])))):=()
def z3_L:Lc:=u9 Jm
def cN:Expr×List Expr×Scope:=match (nth Jm.body 0) with
 | .Return (some (.ListComp elt [⟨_,_,ifs,_⟩] scope _)) _=>(elt,ifs,scope)
 | _=>(.Name "" ⟨0,0,0,0⟩,[],default)
def uF(C:Cf)(ρ:L3.Env)(d:D):M Bool:=match e9 (e8 z3_L.N) (g0 cN.2.2) with
 | some caps=>uX (testsK (evK Rs Γ C 38) (c8 z3_L cN.2.2 ["hand","word"]) cN.2.1) (mk2 (A9 caps ρ) d)
 | none=>bad
theorem iz:uF C [qa] (.tup [ua,ub])=(x1@(b7 .NotIn ub (.tup [(.str "holds"),(.str "right"),(.str "down")]))<|z2@(asB x1)<|ret z2):=()
def oG(C:Cf)(ρ:L3.Env)(d:D):M D:=match e9 (e8 z3_L.N) (g0 cN.2.2) with
 | some caps=>(evK Rs Γ C 38).e (c8 z3_L cN.2.2 ["hand","word"]) cN.1 (mk2 (A9 caps ρ) d) ret
 | none=>bad
theorem gp:oG C [qa] (.tup [ua,ub])=ret ua:=()
theorem Db:runK Rs Γ C Jm [ua]=(l3@(nx (x1@(ixD ua (.int 2))<|sm2@(aL x1)<|g7 sm2.1 (uF C [ua]) (oG C [ua]) sm2.2 0 []))<|ret (.lst l3)):=()
theorem DJ:runK Rs Γ C Fo [ua]=(x1@(L5 ua)<|x2@(o9 (.lst [.non]) x1)<|x3@(C 9 [ua])<|l16@(nx (sm4@(j4 x2)<|lvM sm4.1 (λd5=>ret true) (λd5=>λl6=>sm7@(sm8@(j4 (.tup [(.bl false),(.bl true)]))<|ret sm8)<|lvM sm7.1 (λd9=>ret true) (λd9=>λl10=>sm11@(sm12@(j4 x3)<|ret sm12)<|lvM sm11.1 (λd13=>ret true) (λd13=>λl14=>x15@(ret (.tup [d5,d9,d13]))<|if l14.length<sizeLine then ret (l14++[x15])else bad) sm11.2 0 l10) sm7.2 0 l6) sm4.2 0 []))<|x17@(newL l16)<|ret x17):=()
def br:Lc:=u9 Je
theorem ve:runK Rs Γ C Je [ua]=i7 (evK Rs Γ C 40) br Je.body [ua,none,none] endD:=()
theorem wq:Je.body=[nth Je.body 0,nth Je.body 1,nth Je.body 2]:=()
theorem EK:XX C 40 br Je.body 0 [qa,qb,qc] κ=κ (.nx [qa,some (.lst [(.tup [])]),qc]):=()
def X7:List Stmt:=B4 (nth Je.body 1)
def eY(C:Cf):L3.Env->M Fl:=λρ'=>i7 (evK Rs Γ C 39) br X7 ρ' ret
theorem EC:XX C 40 br Je.body 1 [ua,qa,qb] κ=(sm1@(y4 [ua])<|bind (u0 sm1.1 (λd ρ=>some (ρ.set 2 (some d))) (eY C) sm1.2 0 [ua,qa,qb]) κ):=()
theorem EH:XX C 40 br Je.body 2 [qa,ua,qb] κ=κ (.rt ua):=()
theorem fk:X7=[nth X7 0]:=()
theorem mR:XX C 39 br X7 0 [qa,ua,qb] κ=(l10@(nx (sm1@(j4 ua)<|lvM sm1.1 (λd2=>ret true) (λd2=>λl3=>sm4@(sm5@(j4 (.tup [(.str "out"),(.str "ask"),(.str "close"),(.str "look"),(.str "holds"),(.str "right"),(.str "down")]))<|ret sm5)<|lvM sm4.1 (λd6=>ret true) (λd6=>λl7=>x8@(x9@(o9 d2 (.tup [d6]))<|ret x9)<|if l7.length<sizeLine then ret (l7++[x8])else bad) sm4.2 0 l3) sm1.2 0 []))<|κ (.nx [qa,some (.lst l10),qb])):=()
theorem DL:runK Rs Γ C Gf [ua]=(x1@(C 2 [ua,(.int 2)])<|z2@(i6 x1)<|if (!z2)=true then (ret (.bl false))else (x3@(ixD ua (.int 0))<|x4@(P5 "str" (λ_=>false) x3)<|z5@(i6 x4)<|if (!z5)=true then (ret (.bl false))else (x6@(ixD ua (.int 0))<|z7@(wP [("each",(.tup [(.int 0)])),("some",(.tup [(.int 0)])),("pairs",(.tup [(.int 0),(.int 1)])),("plain",(.tup []))] x6)<|if z7 then (ret (.bl false))else (x8@(ixD ua (.int 1))<|x9@(ixD ua (.int 0))<|x10@(gdD [("each",(.tup [(.int 0)])),("some",(.tup [(.int 0)])),("pairs",(.tup [(.int 0),(.int 1)])),("plain",(.tup []))] x9)<|x11@(C 11 [x8,x10])<|ret x11)))):=()
def J9:Lc:=u9 Jb
theorem yQ:runK Rs Γ C Jb [ua,ub]=i7 (evK Rs Γ C 40) J9 Jb.body [ua,ub,none,none,none,none] endD:=()
theorem xh:Jb.body=[nth Jb.body 0,nth Jb.body 1,nth Jb.body 2,nth Jb.body 3]:=()
theorem Gq:XX C 40 J9 Jb.body 0 [ua,qa,qb,qc,qd,qe] κ=(x1@(newL [(.tup [ua,(.int 1)])])<|κ (.nx [ua,qa,x1,qc,qd,qe])):=()
theorem HY:XX C 40 J9 Jb.body 1 [qa,qb,qc,qd,qe,qf] κ=κ (.nx [qa,qb,qc,some (.int 0),qe,qf]):=()
def sZ(C:Cf):L3.Env->M Bool:=λρ'=>(evK Rs Γ C 39).t J9 (Bt (nth Jb.body 2)) ρ' ret
theorem iM:sZ C [qa,qb,ua,qc,qd,qe]=(z1@(i6 ua)<|ret z1):=()
def v4:List Stmt:=B4 (nth Jb.body 2)
def gT(C:Cf):L3.Env->M Fl:=λρ'=>i7 (evK Rs Γ C 39) J9 v4 ρ' ret
theorem FN:XX C 40 J9 Jb.body 2 [qa,qb,qc,qd,qe,qf] κ=bind (E5 (sZ C) (gT C) 10000 [qa,qb,qc,qd,qe,qf]) κ:=()
theorem GW:XX C 40 J9 Jb.body 3 [qa,qb,qc,qd,qe,qf] κ=κ (.rt (.bl true)):=()
theorem fI:v4=[nth v4 0,nth v4 1,nth v4 2,nth v4 3]:=()
theorem lZ:XX C 39 J9 v4 0 [qa,qb,ua,qc,qd,qe] κ=(x1@(eU ua)<|bind (O8 (q4 [4,5]) x1 [qa,qb,ua,qc,qd,qe]) κ):=()
theorem mN:XX C 39 J9 v4 1 [qa,qb,qc,ua,qd,qe] κ=(x1@(jC (λi j=>i+j) ua (.int 1))<|κ (.nx [qa,qb,qc,x1,qd,qe])):=()
theorem lf:XX C 39 J9 v4 2 [qa,ua,qb,ub,uc,ud] κ=(x1@(b7 .Gt ub (.int 20))<|z2@(asB x1)<|if z2 then (κ (.rt (.bl false)))else (x3@(b7 .Gt ud (.int 8))<|z4@(asB x3)<|if z4 then (κ (.rt (.bl false)))else (x5@(C 12 [uc,ua])<|z6@(i6 x5)<|if (!z6)=true then (κ (.rt (.bl false)))else (κ (.nx [qa,ua,qb,ub,uc,ud]))))):=()
theorem nX:XX C 39 J9 v4 3 [qa,qb,ua,qc,ub,uc] κ=(x@(lstOf ua)<|l5@(nx (x2@(C 13 [ub])<|sm3@(j4 x2)<|g7 sm3.1 (λd1=>ret true) (λd1=>x4@(o9 uc (.int 1))<|ret (.tup [d1,x4])) sm3.2 0 []))<|x6@(extD ua [(.lst l5)])<|κ (.nx [qa,qb,ua,qc,ub,uc])):=()
theorem yK:runK Rs Γ C tz [ua,ub]=(x1@(P5 "tuple" (λ_=>false) ua)<|z2@(i6 x1)<|if (!z2)=true then (ret (.bl false))else (x3@(D2 ua)<|x4@(b7 .Eq x3 (.int 0))<|z5@(asB x4)<|if z5 then (ret (.bl false))else (x6@(ixD ua (.int 0))<|x7@(P5 "str" (λ_=>false) x6)<|z8@(i6 x7)<|if (!z8)=true then (ret (.bl false))else (x9@(ixD ua (.int 0))<|x10@(W2 [("at",(.int 3)),("mark",(.int 2)),("free",(.int 1)),("closed",(.int 1)),("not",(.int 2)),("both",(.int 3)),("either",(.int 3))] x9)<|x11@(D2 ua)<|x12@(b7 .NotEq x10 x11)<|z13@(asB x12)<|if z13 then (ret (.bl false))else (x14@(b7 .Eq x9 (.str "at"))<|z15@(asB x14)<|if z15 then (x16@(ixD ua (.int 1))<|x17@(C 1 [x16,ub])<|c18@(i6 x17)<|if c18 then (x19@(ixD ua (.int 2))<|x20@(C 14 [x19])<|ret x20)else (ret x17))else (x21@(b7 .NotEq x9 (.str "mark"))<|c22@(i6 x21)<|if c22 then (ret x21)else (x23@(ixD ua (.int 1))<|x24@(C 1 [x23,ub])<|ret x24))))))):=()
theorem CO:runK Rs Γ C Bj [ua]=(x1@(ixD ua (.int 0))<|x2@(b7 .In x1 (.tup [(.str "not"),(.str "both"),(.str "either")]))<|z3@(asB x2)<|if z3 then (x4@(slD ua (some 1) none)<|ret x4)else (ret (.tup []))):=()
theorem yq:runK Rs Γ C sL [ua]=(x1@(P5 "tuple" (λ_=>false) ua)<|z2@(i6 x1)<|if (!z2)=true then (ret (.bl false))else (l6@(nx (sm4@(j4 ua)<|g7 sm4.1 (λd3=>ret true) (λd3=>x5@(b7 .In d3 (.tup [(.str "out"),(.str "ask"),(.str "close"),(.str "look"),(.str "holds"),(.str "right"),(.str "down")]))<|ret x5) sm4.2 0 []))<|x7@(qL (.lst l6))<|z8@(i6 x7)<|if (!z8)=true then (ret (.bl false))else (x9@(D6 ua)<|x10@(D2 ua)<|x11@(b7 .Eq x9 x10)<|ret x11))):=()
def jw:Lc:=u9 Jg
theorem vZ:runK Rs Γ C Jg [ua,ub]=i7 (evK Rs Γ C 40) jw Jg.body [ua,ub,none,none,none] endD:=()
theorem wf:Jg.body=[nth Jg.body 0,nth Jg.body 1,nth Jg.body 2]:=()
theorem EN:XX C 40 jw Jg.body 0 [qa,ua,qb,qc,qd] κ=bind (O8 (q4 [2,3]) ua [qa,ua,qb,qc,qd]) κ:=()
theorem Gc:XX C 40 jw Jg.body 1 [ua,qa,ub,uc,qb] κ=(l7@(nx (x2@(ixD ua (.int 2))<|x3@(D2 x2)<|x4@(C 16 [ub,x3])<|sm5@(j4 x4)<|g7 sm5.1 (λd1=>ret true) (λd1=>x6@(C 17 [uc,ua,d1])<|ret x6) sm5.2 0 []))<|κ (.nx [ua,qa,ub,uc,some (.lst l7)])):=()
theorem GR:XX C 40 jw Jg.body 2 [qa,qb,ua,qc,ub] κ=(x1@(b7 .Eq ua (.str "some"))<|z2@(asB x1)<|if z2 then (x3@(yw ub)<|κ (.rt x3))else (x4@(qL ub)<|κ (.rt x4))):=()
theorem Y4:runK Rs Γ C zG [ua,ub]=(x1@(b7 .Eq ua (.str "plain"))<|z2@(asB x1)<|if z2 then (ret (.lst [(.tup [])]))else (x3@(b7 .Eq ua (.str "pairs"))<|z4@(asB x3)<|if z4 then (l11@(nx (sm7@(y4 [ub])<|T8 sm7.1 (λd5=>ret true) (λd5=>sm8@(y4 [ub])<|ret sm8) (λd5 d6=>x9@(b7 .NotEq d5 d6)<|z10@(asB x9)<|ret z10) (λd5 d6=>ret (.tup [d5,d6])) sm7.2 0 []))<|ret (.lst l11))else (l14@(nx (sm13@(y4 [ub])<|g7 sm13.1 (λd12=>ret true) (λd12=>ret (.tup [d12])) sm13.2 0 []))<|ret (.lst l14)))):=()
def A1:Lc:=u9 says_F
theorem qT:runK Rs Γ C says_F [ua,ub,uc]=i7 (evK Rs Γ C 40) A1 says_F.body [ua,ub,uc,none,none,none,none] endD:=()
theorem nt:says_F.body=[nth says_F.body 0,nth says_F.body 1,nth says_F.body 2,nth says_F.body 3,nth says_F.body 4,nth says_F.body 5,nth says_F.body 6,nth says_F.body 7,nth says_F.body 8]:=()
theorem Cb:XX C 40 A1 says_F.body 0 [qa,ua,qb,qc,qd,qe,qf] κ=bind (O8 (q4 [3,4,5]) ua [qa,ua,qb,qc,qd,qe,qf]) κ:=()
theorem DB:XX C 40 A1 says_F.body 1 [ua,qa,qb,qc,qd,qe,qf] κ=(x1@(ixD ua (.int 0))<|κ (.nx [ua,qa,qb,qc,qd,qe,x1])):=()
theorem qD:XX C 40 A1 says_F.body 2 [ua,qa,ub,qb,qc,uc,ud] κ=(x1@(b7 .Eq ud (.str "at"))<|z2@(asB x1)<|if z2 then (x3@(ixD ua (.int 1))<|x4@(ixD ub x3)<|x5@(ixD uc x4)<|x6@(ixD ua (.int 2))<|x7@(b7 .In x5 x6)<|κ (.rt x7))else (κ (.nx [ua,qa,ub,qb,qc,uc,ud]))):=()
theorem qR:XX C 40 A1 says_F.body 3 [ua,qa,ub,uc,qb,qc,ud] κ=(x1@(b7 .Eq ud (.str "mark"))<|z2@(asB x1)<|if z2 then (x3@(ixD ua (.int 1))<|x4@(ixD ub x3)<|x5@(b7 .Eq uc x4)<|κ (.rt x5))else (κ (.nx [ua,qa,ub,uc,qb,qc,ud]))):=()
theorem oo:XX C 40 A1 says_F.body 4 [qa,qb,qc,ua,qd,qe,ub] κ=(x1@(b7 .Eq ub (.str "free"))<|z2@(asB x1)<|if z2 then (x3@(b7 .Is ua .non)<|κ (.rt x3))else (κ (.nx [qa,qb,qc,ua,qd,qe,ub]))):=()
theorem oi:XX C 40 A1 says_F.body 5 [qa,qb,qc,qd,ua,qe,ub] κ=(x1@(b7 .Eq ub (.str "closed"))<|z2@(asB x1)<|if z2 then (κ (.rt ua))else (κ (.nx [qa,qb,qc,qd,ua,qe,ub]))):=()
theorem oE:XX C 40 A1 says_F.body 6 [ua,ub,uc,qa,qb,qc,ud] κ=(x1@(b7 .Eq ud (.str "not"))<|z2@(asB x1)<|if z2 then (x3@(ixD ua (.int 1))<|x4@(C 17 [x3,ub,uc])<|c5@(i6 x4)<|κ (.rt (.bl (!c5))))else (κ (.nx [ua,ub,uc,qa,qb,qc,ud]))):=()
theorem sY:XX C 40 A1 says_F.body 7 [ua,ub,uc,qa,qb,qc,ud] κ=(x1@(b7 .Eq ud (.str "both"))<|z2@(asB x1)<|if z2 then (x3@(ixD ua (.int 1))<|x4@(C 17 [x3,ub,uc])<|c5@(i6 x4)<|if c5 then (x6@(ixD ua (.int 2))<|x7@(C 17 [x6,ub,uc])<|κ (.rt x7))else (κ (.rt x4)))else (κ (.nx [ua,ub,uc,qa,qb,qc,ud]))):=()
theorem BZ:XX C 40 A1 says_F.body 8 [ua,ub,uc,qa,qb,qc,qd] κ=(x1@(ixD ua (.int 1))<|x2@(C 17 [x1,ub,uc])<|c3@(i6 x2)<|if c3 then (κ (.rt x2))else (x4@(ixD ua (.int 2))<|x5@(C 17 [x4,ub,uc])<|κ (.rt x5))):=()
theorem kn:runK Rs Γ C zQ [ua,ub]=(x1@(C 19 [ua,ub])<|ret (.bl true)):=()
def dM:Lc:=u9 IO
theorem gq:runK Rs Γ C IO [ua,ub]=i7 (evK Rs Γ C 40) dM IO.body [ua,ub,none,none,none,none] endD:=()
theorem iZ:IO.body=[nth IO.body 0,nth IO.body 1,nth IO.body 2,nth IO.body 3,nth IO.body 4,nth IO.body 5,nth IO.body 6,nth IO.body 7]:=()
theorem Bo:XX C 40 dM IO.body 0 [qa,ua,qb,qc,qd,qe] κ=(x1@(C 20 [ua])<|κ (.nx [qa,ua,qb,qc,qd,qe])):=()
theorem Eb:XX C 40 dM IO.body 1 [ua,ub,qa,qb,qc,qd] κ=(x6@(nx (x3@(C 8 [ua])<|sm4@(j4 x3)<|bind mD λx2=>x@(dcM sm4.1 (λd1=>ret true) (λd1=>ret d1) (λd1=>x5@(C 21 [ub,d1])<|ret x5) x2 sm4.2 0)<|ret x2))<|κ (.nx [ua,ub,x6,qb,qc,qd])):=()
theorem HH:XX C 40 dM IO.body 2 [ua,qa,ub,qb,qc,qd] κ=(x1@(C 5 [ua])<|x2@(M5 ub x1)<|κ (.nx [ua,qa,ub,x2,qc,qd])):=()
theorem EM:XX C 40 dM IO.body 3 [qa,qb,qc,ua,qd,qe] κ=(x1@(b7 .IsNot ua .non)<|z2@(asB x1)<|if z2 then (x3@(D5 2 ["word","at"] [(.str "first"),ua])<|bind (t7 x3) (fin κ))else (κ (.nx [qa,qb,qc,ua,qd,qe]))):=()
theorem Dz:XX C 40 dM IO.body 4 [qa,qb,ua,qc,qd,qe] κ=(l6@(nx (sm2@(P7 ua)<|g7 sm2.1 (λd1=>x3@(M5 ua d1)<|x4@(b7 .Is x3 .non)<|z5@(asB x4)<|ret z5) (λd1=>ret d1) sm2.2 0 []))<|κ (.nx [qa,qb,ua,qc,some (.lst l6),qe])):=()
theorem Dt:XX C 40 dM IO.body 5 [qa,qb,ua,qc,ub,qd] κ=(l14@(nx (sm1@(j4 ub)<|lvM sm1.1 (λd2=>ret true) (λd2=>λl3=>sm4@(x5@(C 22 [d2])<|sm6@(j4 x5)<|ret sm6)<|lvM sm4.1 (λd7=>x8@(M5 ua d7)<|x9@(b7 .IsNot x8 .non)<|z10@(asB x9)<|ret z10) (λd7=>λl11=>x12@(x13@(M5 ua d7)<|ret x13)<|if l11.length<sizeLine then ret (l11++[x12])else bad) sm4.2 0 l3) sm1.2 0 []))<|κ (.nx [qa,qb,ua,qc,ub,some (.lst l14)])):=()
theorem Gu:XX C 40 dM IO.body 6 [qa,qb,qc,qd,qe,ua] κ=(z1@(i6 ua)<|if z1 then (x2@(bj [ua])<|x3@(D5 2 ["word","at"] [(.str "step"),x2])<|bind (t7 x3) (fin κ))else (κ (.nx [qa,qb,qc,qd,qe,ua]))):=()
theorem IT:XX C 40 dM IO.body 7 [qa,qb,qc,qd,ua,qe] κ=κ (.rt ua):=()
def gL:Lc:=u9 Jk
theorem jg:runK Rs Γ C Jk [ua]=i7 (evK Rs Γ C 40) gL Jk.body [ua,none,none] endD:=()
theorem lB:Jk.body=[nth Jk.body 0,nth Jk.body 1]:=()
theorem oI:XX C 40 gL Jk.body 0 [ua,qa,qb] κ=(x1@(P5 "tuple" (λ_=>false) ua)<|z2@(i6 x1)<|if (!z2)=true then (x3@(D5 2 ["word","at"] [(.str "shape"),(.int 0)])<|bind (t7 x3) (fin κ))else (x4@(D2 ua)<|x5@(b7 .Gt x4 (.int 12))<|z6@(asB x5)<|if z6 then (x7@(D5 2 ["word","at"] [(.str "shape"),(.int 0)])<|bind (t7 x7) (fin κ))else (κ (.nx [ua,qa,qb])))):=()
def Z2:List Stmt:=B4 (nth Jk.body 1)
def R0(C:Cf):L3.Env->M Fl:=λρ'=>i7 (evK Rs Γ C 39) gL Z2 ρ' ret
theorem zE:XX C 40 gL Jk.body 1 [ua,qa,qb] κ=(sm1@(aL ua)<|bind (u0 sm1.1 (q4 [1,2]) (R0 C) sm1.2 0 [ua,qa,qb]) κ):=()
theorem K9:Z2=[nth Z2 0]:=()
theorem U0:XX C 39 gL Z2 0 [qa,ua,ub] κ=(x1@(C 10 [ub])<|z2@(i6 x1)<|if (!z2)=true then (x3@(D5 2 ["word","at"] [(.str "shape"),ua])<|bind (t7 x3) (fin κ))else (κ (.nx [qa,ua,ub]))):=()
def fO:Lc:=u9 Ji
theorem yr:runK Rs Γ C Ji [ua,ub]=i7 (evK Rs Γ C 40) fO Ji.body [ua,ub,none,none] endD:=()
theorem yY:Ji.body=[nth Ji.body 0,nth Ji.body 1]:=()
def Y3:List Stmt:=B4 (nth Ji.body 0)
def gj(C:Cf):L3.Env->M Fl:=λρ'=>i7 (evK Rs Γ C 39) fO Y3 ρ' ret
theorem Er:XX C 40 fO Ji.body 0 [ua,qa,qb,qc] κ=(sm1@(aL ua)<|bind (u0 sm1.1 (q4 [2,3]) (gj C) sm1.2 0 [ua,qa,qb,qc]) κ):=()
theorem FA:XX C 40 fO Ji.body 1 [qa,qb,qc,qd] κ=κ (.rt .non):=()
theorem fm:Y3=[nth Y3 0]:=()
theorem mH:XX C 39 fO Y3 0 [qa,ua,ub,uc] κ=(x1@(C 15 [ua,uc])<|z2@(i6 x1)<|if (!z2)=true then (κ (.rt ub))else (κ (.nx [qa,ua,ub,uc]))):=()
theorem DY:runK Rs Γ C HP [ua]=(l5@(nx (x2@(C 7 [ua])<|sm3@(j4 x2)<|g7 sm3.1 (λd1=>ret true) (λd1=>x4@(C 6 [ua,d1])<|ret x4) sm3.2 0 []))<|ret (.lst l5)):=()
theorem vP:runK Rs Γ C tu [ua,ub]=(x1@(C 4 [ua])<|x2@(C3 (.tup [(.tup [.non,(.bl false)])]) x1)<|x3@(C3 (.tup [(.tup [(.tup []),(.str "out")])]) ub)<|ret (.tup [x2,x3])):=()
theorem xL:runK Rs Γ C zy [ua]=(x@(tupOf ua)<|x1@(countT ua [(.str "down")])<|x@(tupOf ua)<|x2@(countT ua [(.str "right")])<|ret (.tup [x1,x2])):=()
theorem yf:runK Rs Γ C zD [ua]=(x1@(xV ua)<|x2@(C 4 [x1])<|x3@(ixD ua (.int 0))<|x4@(o9 x2 x3)<|ret x4):=()
def F9:Lc:=u9 Id
theorem dG:runK Rs Γ C Id [ua,ub,uc]=i7 (evK Rs Γ C 40) F9 Id.body [ua,ub,uc,none,none,none,none,none,none,none,none] endD:=()
theorem ck:Id.body=[nth Id.body 0,nth Id.body 1,nth Id.body 2,nth Id.body 3,nth Id.body 4,nth Id.body 5,nth Id.body 6]:=()
theorem pk:XX C 40 F9 Id.body 0 [qa,ua,qb,qc,qd,qe,qf,qg,qh,qi,qj] κ=bind (O8 (q4 [3,4]) ua [qa,ua,qb,qc,qd,qe,qf,qg,qh,qi,qj]) κ:=()
theorem tO:XX C 40 F9 Id.body 1 [qa,qb,ua,qc,ub,qd,qe,qf,qg,qh,qi] κ=(x1@(ixD ub ua)<|x2@(ixD x1 (.int 0))<|κ (.nx [qa,qb,ua,qc,ub,x2,qe,qf,qg,qh,qi])):=()
theorem qE:XX C 40 F9 Id.body 2 [qa,qb,qc,qd,qe,ua,qf,qg,qh,qi,qj] κ=(x1@(C 24 [ua])<|x2@(C 25 [x1])<|κ (.nx [qa,qb,qc,qd,qe,ua,x2,qg,qh,qi,qj])):=()
theorem uC:XX C 40 F9 Id.body 3 [ua,ub,uc,qa,qb,qc,ud,qd,qe,qf,qg] κ=(x1@(C 28 [ua,ub,ud])<|x2@(C 6 [x1,uc])<|bind (O8 (q4 [7,8,9]) x2 [ua,ub,uc,qa,qb,qc,ud,qd,qe,qf,qg]) κ):=()
theorem zA:XX C 40 F9 Id.body 4 [qa,qb,ua,qc,qd,ub,qe,qf,qg,uc,qh] κ=(x1@(ixD uc ua)<|x2@(C 27 [ub,x1])<|κ (.nx [qa,qb,ua,qc,qd,ub,qe,qf,qg,uc,x2])):=()
theorem zg:XX C 40 F9 Id.body 5 [ua,qa,ub,qb,qc,qd,qe,qf,qg,qh,uc] κ=(x1@(ixD uc (.int 0))<|x2@(D2 x1)<|x3@(b7 .GtE x2 ua)<|z4@(asB x3)<|if z4 then (x5@(D5 1 ["hand"] [ub])<|bind (t7 x5) (fin κ))else (κ (.nx [ua,qa,ub,qb,qc,qd,qe,qf,qg,qh,uc]))):=()
theorem FH:XX C 40 F9 Id.body 6 [qa,qb,ua,ub,uc,qc,ud,ue,uf,qd,ug] κ=(x1@(C 3 [ub,ud,(.tup [ue,uf])])<|x2@(C 3 [uc,ua,ug])<|κ (.rt (.tup [x1,x2]))):=()
theorem sW:runK Rs Γ C Ea [ua,ub]=(x1@(b7 .In ub (.tup [(.str "right"),(.str "down")]))<|z2@(asB x1)<|if z2 then (x3@(o9 ua (.tup [ub]))<|ret (.tup [x3,(.str "out")]))else (ret (.tup [ua,ub]))):=()
def jd:Lc:=u9 Jf
theorem wN:runK Rs Γ C Jf [ua,ub,uc]=i7 (evK Rs Γ C 40) jd Jf.body [ua,ub,uc,none,none,none,none] endD:=()
theorem wY:Jf.body=[nth Jf.body 0,nth Jf.body 1,nth Jf.body 2]:=()
theorem Ga:XX C 40 jd Jf.body 0 [qa,ua,qb,qc,qd,qe,qf] κ=bind (O8 (q4 [3,4]) ua [qa,ua,qb,qc,qd,qe,qf]) κ:=()
theorem HZ:XX C 40 jd Jf.body 1 [qa,qb,ua,ub,qc,qd,qe] κ=(x1@(ixD ub ua)<|bind (O8 (q4 [5,6]) x1 [qa,qb,ua,ub,qc,qd,qe]) κ):=()
theorem GP:XX C 40 jd Jf.body 2 [qa,qb,ua,qc,ub,uc,ud] κ=(l4@(nx (sm2@(j4 ub)<|g7 sm2.1 (λd1=>ret true) (λd1=>x3@(C 29 [d1,ua])<|ret x3) sm2.2 0 []))<|x5@(G5 (.lst l4))<|κ (.rt (.tup [uc,ud,x5]))):=()
def cU:Lc:=u9 Jd
theorem vp:runK Rs Γ C Jd [ua,ub]=i7 (evK Rs Γ C 40) cU Jd.body [ua,ub,none,none,none,none] endD:=()
theorem xR:Jd.body=[nth Jd.body 0,nth Jd.body 1,nth Jd.body 2]:=()
theorem Dp:XX C 40 cU Jd.body 0 [ua,qa,qb,qc,qd,qe] κ=bind (O8 (q4 [2,3]) ua [ua,qa,qb,qc,qd,qe]) κ:=()
def Z0:List Stmt:=B4 (nth Jd.body 1)
def gS(C:Cf):L3.Env->M Fl:=λρ'=>i7 (evK Rs Γ C 39) cU Z0 ρ' ret
theorem Hc:XX C 40 cU Jd.body 1 [qa,qb,ua,qc,qd,qe] κ=(sm1@(aL ua)<|bind (u0 sm1.1 (q4 [4,5]) (gS C) sm1.2 0 [qa,qb,ua,qc,qd,qe]) κ):=()
theorem FC:XX C 40 cU Jd.body 2 [qa,ua,ub,uc,qb,qc] κ=(x1@(C 24 [ub])<|x2@(C 25 [x1])<|x3@(b7 .Eq x2 ua)<|z4@(asB x3)<|if z4 then (κ (.rt uc))else (κ (.rt (.str "out")))):=()
theorem gP:Z0=[nth Z0 0]:=()
theorem nC:XX C 39 cU Z0 0 [qa,ua,ub,qb,uc,ud] κ=(n1@(gF uc)<|x2@(slD ub none n1)<|x3@(C 24 [x2])<|x4@(C 25 [x3])<|x5@(b7 .Eq x4 ua)<|z6@(asB x5)<|if z6 then (κ (.rt ud))else (κ (.nx [qa,ua,ub,qb,uc,ud]))):=()
theorem vB:runK Rs Γ C zz [ua]=(x1@(slD ua none (some 63))<|x2@(oU [((.str "cells"),x1),((.str "at"),(.int 0)),((.str "left"),(.int 0)),((.str "turn"),(.int 0))])<|ret x2):=()
theorem yS(C:Cf)(p x:D):runK Rs Γ C zM [p,x]=kN p x:=()
theorem yT:runK Rs Γ C AA []=ret (.lst [(.str "out"),(.str "ask"),(.str "close"),(.str "look"),(.str "holds"),(.str "right"),(.str "down")]):=()
def E7:Lc:=u9 Cl
theorem vK:runK Rs Γ C Cl [ua,ub,uc]=i7 (evK Rs Γ C 40) E7 Cl.body [ua,ub,uc,none,none,none] endD:=()
theorem vT:Cl.body=[nth Cl.body 0,nth Cl.body 1,nth Cl.body 2,nth Cl.body 3,nth Cl.body 4,nth Cl.body 5,nth Cl.body 6]:=()
theorem Ef:XX C 40 E7 Cl.body 0 [ua,ub,qa,qb,qc,qd] κ=(x1@(b7 .Gt ub (.int 0))<|z2@(asB x1)<|if z2 then (x3@(C 31 [ua,(.int 9)])<|κ (.nx [ua,ub,qa,x3,qc,qd]))else (x4@(C 31 [ua,(.int 5)])<|κ (.nx [ua,ub,qa,x4,qc,qd]))):=()
theorem HS:XX C 40 E7 Cl.body 1 [ua,qa,ub,uc,qb,qc] κ=(x1@(b7 .Lt uc (.int 5))<|z2@(asB x1)<|if z2 then (x3@(b7 .Eq ub (.int 0))<|z4@(asB x3)<|if z4 then (x5@(C 31 [ua,(.int 2)])<|x6@(ixD (.lst [(.tup [(.str "free")]),(.tup [(.str "closed")])]) x5)<|κ (.rt x6))else (x7@(b7 .Eq uc (.int 4))<|z8@(asB x7)<|if z8 then (x9@(C 31 [ua,(.int 2)])<|x10@(ixD (.lst [(.tup [(.str "free")]),(.tup [(.str "closed")])]) x9)<|κ (.rt x10))else (κ (.nx [ua,qa,ub,uc,qb,qc]))))else (κ (.nx [ua,qa,ub,uc,qb,qc]))):=()
theorem zH:XX C 40 E7 Cl.body 2 [ua,qa,ub,uc,qb,qc] κ=(x1@(b7 .Eq uc (.int 3))<|z2@(asB x1)<|if z2 then (x3@(C 31 [ua,ub])<|κ (.rt (.tup [(.str "mark"),x3])))else (κ (.nx [ua,qa,ub,uc,qb,qc]))):=()
theorem zN:XX C 40 E7 Cl.body 3 [ua,qa,ub,uc,qb,qc] κ=(x1@(b7 .Lt uc (.int 3))<|z2@(asB x1)<|if z2 then (l9@(nx (x4@(C 32 [])<|sm5@(j4 x4)<|g7 sm5.1 (λd3=>x6@(C 31 [ua,(.int 3)])<|x7@(b7 .Eq x6 (.int 0))<|z8@(asB x7)<|ret z8) (λd3=>ret d3) sm5.2 0 []))<|x10@(C 31 [ua,(.int 2)])<|x11@(b7 .Eq x10 (.int 0))<|z12@(asB x11)<|if z12 then (x13@(pY (.int 1))<|x14@(qB (.lst l9) x13)<|x15@(C 31 [ua,ub])<|x16@(G5 x14)<|κ (.rt (.tup [(.str "at"),x15,x16])))else (x17@(C 31 [ua,ub])<|x18@(G5 (.lst l9))<|κ (.rt (.tup [(.str "at"),x17,x18]))))else (κ (.nx [ua,qa,ub,uc,qb,qc]))):=()
theorem FE:XX C 40 E7 Cl.body 4 [ua,ub,uc,qa,qb,qc] κ=(x1@(eO ub (.int 1))<|x2@(C 33 [ua,x1,uc])<|κ (.nx [ua,ub,uc,qa,qb,x2])):=()
theorem Dr:XX C 40 E7 Cl.body 5 [qa,qb,qc,ua,qd,ub] κ=(x1@(b7 .Lt ua (.int 7))<|z2@(asB x1)<|if z2 then (κ (.rt (.tup [(.str "not"),ub])))else (κ (.nx [qa,qb,qc,ua,qd,ub]))):=()
theorem Ey:XX C 40 E7 Cl.body 6 [ua,ub,uc,ud,qa,ue] κ=(x1@(eO ud (.int 7))<|x2@(ixD (.lst [(.str "both"),(.str "either")]) x1)<|x3@(eO ub (.int 1))<|x4@(C 33 [ua,x3,uc])<|κ (.rt (.tup [x2,ue,x4]))):=()
theorem uY:runK Rs Γ C zk [ua,ub]=(x1@(C 31 [ua,(.int 4)])<|x2@(ixD (.lst [(.str "each"),(.str "some"),(.str "pairs"),(.str "plain")]) x1)<|x3@(ixD (.lst [(.int 1),(.int 1),(.int 2),(.int 0)]) x1)<|x4@(C 33 [ua,ub,x3])<|ret (.tup [x2,x4])):=()
theorem E3:runK Rs Γ C AE [ua,ub,uc]=(x1@(ixD ua (.int 0))<|x2@(b7 .Eq x1 (.str "at"))<|z3@(asB x2)<|if z3 then (x4@(ixD ub (.int 2))<|x5@(ixD ua (.int 1))<|x6@(ixD uc x5)<|x7@(ixD x4 x6)<|x8@(ixD ua (.int 2))<|x9@(b7 .In x7 x8)<|ret x9)else (x10@(b7 .In x1 (.tup [(.str "mark"),(.str "free")]))<|z11@(asB x10)<|if z11 then (x12@(b7 .Eq x1 (.str "free"))<|z13@(asB x12)<|if z13 then (x14@(ixD ub (.int 0))<|x15@(b7 .Is x14 .non)<|ret x15)else (x16@(ixD ub (.int 0))<|x17@(b7 .IsNot x16 .non)<|c18@(i6 x17)<|if c18 then (x19@(ixD ub (.int 0))<|x20@(ixD ua (.int 1))<|x21@(ixD uc x20)<|x22@(b7 .Eq x19 x21)<|ret x22)else (ret x17)))else (x23@(b7 .Eq x1 (.str "closed"))<|z24@(asB x23)<|if z24 then (x25@(ixD ub (.int 1))<|ret x25)else (l30@(nx (x27@(slD ua (some 1) none)<|sm28@(j4 x27)<|g7 sm28.1 (λd26=>ret true) (λd26=>x29@(C 35 [d26,ub,uc])<|ret x29) sm28.2 0 []))<|x31@(b7 .Eq x1 (.str "not"))<|z32@(asB x31)<|if z32 then (x33@(ixD (.lst l30) (.int 0))<|c34@(i6 x33)<|ret (.bl (!c34)))else (x35@(b7 .Eq x1 (.str "both"))<|z36@(asB x35)<|if z36 then (x37@(b7 .NotIn (.bl false) (.lst l30))<|ret x37)else (x38@(b7 .In (.bl true) (.lst l30))<|ret x38)))))):=()
def W0:Lc:=u9 soL_F
theorem xB:runK Rs Γ C soL_F [ua,ub]=i7 (evK Rs Γ C 40) W0 soL_F.body [ua,ub,none,none,none] endD:=()
theorem vU:soL_F.body=[nth soL_F.body 0,nth soL_F.body 1,nth soL_F.body 2,nth soL_F.body 3,nth soL_F.body 4,nth soL_F.body 5]:=()
theorem Fp:XX C 40 W0 soL_F.body 0 [ua,qa,qb,qc,qd] κ=(x1@(ixD ua (.int 2))<|x2@(D2 x1)<|κ (.nx [ua,qa,x2,qc,qd])):=()
theorem Hg:XX C 40 W0 soL_F.body 1 [qa,qb,ua,qc,qd] κ=(l3@(nx (sm2@(y4 [ua])<|g7 sm2.1 (λd1=>ret true) (λd1=>ret (.tup [d1])) sm2.2 0 []))<|κ (.nx [qa,qb,ua,some (.lst l3),qd])):=()
theorem Fb:XX C 40 W0 soL_F.body 2 [qa,ua,qb,qc,qd] κ=(x1@(ixD ua (.int 0))<|x2@(b7 .Eq x1 (.str "plain"))<|z3@(asB x2)<|if z3 then (κ (.nx [qa,ua,qb,some (.lst [(.tup [])]),qd]))else (κ (.nx [qa,ua,qb,qc,qd]))):=()
theorem kJ:XX C 40 W0 soL_F.body 3 [qa,ua,ub,qb,qc] κ=(x1@(ixD ua (.int 0))<|x2@(b7 .Eq x1 (.str "pairs"))<|z3@(asB x2)<|if z3 then (l13@(nx (x5@(C3 ub ub)<|sm6@(y4 [x5])<|g7 sm6.1 (λd4=>x7@(B0 d4 ub)<|x8@(O0 d4 ub)<|x9@(b7 .NotEq x7 x8)<|z10@(asB x9)<|ret z10) (λd4=>x11@(B0 d4 ub)<|x12@(O0 d4 ub)<|ret (.tup [x11,x12])) sm6.2 0 []))<|κ (.nx [qa,ua,ub,some (.lst l13),qc]))else (κ (.nx [qa,ua,ub,qb,qc]))):=()
theorem Em:XX C 40 W0 soL_F.body 4 [ua,ub,qa,uc,qb] κ=(l5@(nx (sm2@(j4 uc)<|g7 sm2.1 (λd1=>ret true) (λd1=>x3@(ixD ub (.int 1))<|x4@(C 35 [x3,ua,d1])<|ret x4) sm2.2 0 []))<|κ (.nx [ua,ub,qa,uc,some (.lst l5)])):=()
theorem EA:XX C 40 W0 soL_F.body 5 [qa,ua,qb,qc,ub] κ=(x1@(ixD ua (.int 0))<|x2@(b7 .Eq x1 (.str "some"))<|z3@(asB x2)<|if z3 then (x4@(b7 .In (.bl true) ub)<|κ (.rt x4))else (x5@(b7 .NotIn (.bl false) ub)<|κ (.rt x5))):=()
theorem Bn:runK Rs Γ C GL []=(x1@(newL [(.tup [(.str "each"),(.tup [(.str "either"),(.tup [(.str "not"),(.tup [(.str "at"),(.int 0),(.tup [(.str "look"),(.str "holds"),(.str "right"),(.str "down")])])]),(.tup [(.str "closed")])])])])<|x@(lstOf x1)<|x2@(bb x1 [(.tup [(.str "some"),(.tup [(.str "either"),(.tup [(.str "not"),(.tup [(.str "closed")])]),(.tup [(.str "at"),(.int 0),(.tup [(.str "look"),(.str "holds"),(.str "down")])])])])])<|x@(lstOf x1)<|x3@(bb x1 [(.tup [(.str "each"),(.tup [(.str "either"),(.tup [(.str "at"),(.int 0),(.tup [(.str "out")])]),(.tup [(.str "not"),(.tup [(.str "free")])])])])])<|x@(lstOf x1)<|x4@(bb x1 [(.tup [(.str "each"),(.tup [(.str "either"),(.tup [(.str "not"),(.tup [(.str "mark"),(.int 0)])]),(.tup [(.str "not"),(.tup [(.str "at"),(.int 0),(.tup [(.str "out"),(.str "down")])])])])])])<|x@(lstOf x1)<|x5@(bb x1 [(.tup [(.str "pairs"),(.tup [(.str "either"),(.tup [(.str "not"),(.tup [(.str "at"),(.int 0),(.tup [(.str "holds")])])]),(.tup [(.str "not"),(.tup [(.str "both"),(.tup [(.str "mark"),(.int 1)]),(.tup [(.str "at"),(.int 1),(.tup [(.str "close"),(.str "look")])])])])])])])<|x@(lstOf x1)<|x6@(bb x1 [(.tup [(.str "pairs"),(.tup [(.str "not"),(.tup [(.str "both"),(.tup [(.str "at"),(.int 0),(.tup [(.str "holds")])]),(.tup [(.str "at"),(.int 1),(.tup [(.str "holds")])])])])])])<|ret x1):=()
def cE:Lc:=u9 Jl
theorem kw:runK Rs Γ C Jl [ua,ub]=i7 (evK Rs Γ C 40) cE Jl.body [ua,ub] endD:=()
theorem lU:Jl.body=[nth Jl.body 0]:=()
def uD(C:Cf):L3.Env->M Fl:=bX (eBK (evK Rs Γ C 39) Γ C cE) cE (nth (lV (nth Jl.body 0)) 0)
theorem ah:uD C [ua,ub]=(x1@(C 18 [ua,ub])<|ret (.rt x1)):=()
def X9:List Stmt:=jb (nth Jl.body 0)
def rX(C:Cf):L3.Env->M Fl:=λρ'=>i7 (evK Rs Γ C 39) (G2 cE) X9 ρ' ret
theorem zL:XX C 40 cE Jl.body 0 [qa,qb] κ=bind (X3 (uD C) (λc=>Γ.sub c 2) none (rX C) [qa,qb]) κ:=()
theorem fL:X9=[nth X9 0]:=()
theorem mI:(evK Rs Γ C 39).s (G2 cE) (nth X9 0) [qa,qb] κ=κ (.rt (.bl false)):=()
def cX:Lc:=u9 Jj
theorem yo:runK Rs Γ C Jj [ua,ub,uc]=i7 (evK Rs Γ C 40) cX Jj.body [ua,ub,uc] endD:=()
theorem wC:Jj.body=[nth Jj.body 0]:=()
def pd(C:Cf):L3.Env->M Fl:=bX (eBK (evK Rs Γ C 39) Γ C cX) cX (nth (lV (nth Jj.body 0)) 0)
theorem aM:pd C [ua,ub,uc]=(x1@(C 26 [ua,ub,uc])<|ret (.rt x1)):=()
def Y0:List Stmt:=jb (nth Jj.body 0)
def jA(C:Cf):L3.Env->M Fl:=λρ'=>i7 (evK Rs Γ C 39) (G2 cX) Y0 ρ' ret
theorem zh:XX C 40 cX Jj.body 0 [qa,qb,qc] κ=bind (X3 (pd C) (λc=>Γ.sub c 1) none (jA C) [qa,qb,qc]) κ:=()
theorem fT:Y0=[nth Y0 0]:=()
theorem mO:(evK Rs Γ C 39).s (G2 cX) (nth Y0 0) [qa,ua,qb] κ=κ (.rt ua):=()
def bw:Lc:=u9 Jh
theorem vt:runK Rs Γ C Jh [ua,ub,uc]=i7 (evK Rs Γ C 40) bw Jh.body [ua,ub,uc,none,none] endD:=()
theorem xG:Jh.body=[nth Jh.body 0,nth Jh.body 1]:=()
def L9:List Stmt:=B4 (nth Jh.body 0)
def Z4(C:Cf):L3.Env->M Fl:=λρ'=>i7 (evK Rs Γ C 39) bw L9 ρ' ret
theorem EB:XX C 40 bw Jh.body 0 [ua,qa,qb,qc,qd] κ=(x1@(o9 ua (.int 1))<|x2@(C3 ua x1)<|x3@(B0 x2 (.int 2))<|sm4@(y4 [x3])<|bind (u0 sm4.1 (λd ρ=>some (ρ.set 3 (some d))) (Z4 C) sm4.2 0 [ua,qa,qb,qc,qd]) κ):=()
theorem Fc:XX C 40 bw Jh.body 1 [qa,qb,qc,qd,qe] κ=κ (.rt (.bl true)):=()
theorem gU:L9=[nth L9 0,nth L9 1]:=()
theorem nV:XX C 39 bw L9 0 [ua,ub,qa,uc,qb] κ=(x1@(C 28 [ua,ub,uc])<|κ (.nx [ua,ub,qa,uc,x1])):=()
theorem mK:XX C 39 bw L9 1 [qa,qb,ua,qc,ub] κ=(l4@(nx (sm2@(j4 ua)<|g7 sm2.1 (λd1=>ret true) (λd1=>x3@(C 36 [ub,d1])<|ret x3) sm2.2 0 []))<|x5@(b7 .In (.bl false) (.lst l4))<|z6@(asB x5)<|if z6 then (κ (.rt (.bl false)))else (κ (.nx [qa,qb,ua,qc,ub]))):=()
def aq:Lc:=u9 Jc
theorem vO:runK Rs Γ C Jc [ua,ub,uc,ud]=i7 (evK Rs Γ C 40) aq Jc.body [ua,ub,uc,ud,none,none] endD:=()
theorem xq:Jc.body=[nth Jc.body 0,nth Jc.body 1,nth Jc.body 2]:=()
theorem Gz:XX C 40 aq Jc.body 0 [qa,ua,ub,qb,qc,qd] κ=(x1@(C 23 [ua,ub])<|κ (.nx [qa,ua,ub,qb,x1,qd])):=()
def L7:List Stmt:=B4 (nth Jc.body 1)
def aI(C:Cf):L3.Env->M Fl:=λρ'=>i7 (evK Rs Γ C 39) aq L7 ρ' ret
theorem GN:XX C 40 aq Jc.body 1 [qa,qb,ua,qc,qd,qe] κ=(x1@(C3 (.int 7) ua)<|sm2@(y4 [x1])<|bind (u0 sm2.1 (λd ρ=>some (ρ.set 5 (some d))) (aI C) sm2.2 0 [qa,qb,ua,qc,qd,qe]) κ):=()
theorem Gd:XX C 40 aq Jc.body 2 [qa,ua,qb,ub,uc,qc] κ=(x1@(C 40 [ua,uc,ub])<|κ (.rt x1)):=()
theorem fo:L7=[nth L7 0,nth L7 1]:=()
theorem nP:XX C 39 aq L7 0 [qa,ua,qb,ub,uc,qc] κ=(x1@(C 40 [ua,uc,ub])<|z2@(i6 x1)<|if (!z2)=true then (κ (.rt (.bl false)))else (κ (.nx [qa,ua,qb,ub,uc,qc]))):=()
theorem mz:XX C 39 aq L7 1 [ua,ub,uc,qa,ud,qb] κ=(x1@(C 31 [ua,uc])<|x2@(C 39 [ub,ud,x1])<|κ (.nx [ua,ub,uc,qa,x2,qb])):=()
def F7:Lc:=u9 law_F
theorem vf:runK Rs Γ C law_F [ua]=i7 (evK Rs Γ C 40) F7 law_F.body [ua,none,none,none,none,none,none,none,none] endD:=()
theorem yI:law_F.body=[nth law_F.body 0,nth law_F.body 1,nth law_F.body 2,nth law_F.body 3]:=()
theorem FS:XX C 40 F7 law_F.body 0 [ua,qa,qb,qc,qd,qe,qf,qg,qh] κ=(x1@(C 30 [ua])<|κ (.nx [ua,x1,qb,qc,qd,qe,qf,qg,qh])):=()
theorem Ej:XX C 40 F7 law_F.body 1 [qa,qb,qc,qd,qe,qf,qg,qh,qi] κ=(x1@(C 37 [])<|x2@(G5 x1)<|κ (.nx [qa,qb,x2,qd,qe,qf,qg,qh,qi])):=()
def k4:List Stmt:=B4 (nth law_F.body 2)
def aP(C:Cf):L3.Env->M Fl:=λρ'=>i7 (evK Rs Γ C 39) F7 k4 ρ' ret
theorem Fn:XX C 40 F7 law_F.body 2 [qa,qb,qc,qd,qe,qf,qg,qh,qi] κ=(sm1@(y4 [(.int 2)])<|bind (u0 sm1.1 (λd ρ=>some (ρ.set 3 (some d))) (aP C) sm1.2 0 [qa,qb,qc,qd,qe,qf,qg,qh,qi]) κ):=()
theorem GA:XX C 40 F7 law_F.body 3 [qa,qb,qc,qd,qe,qf,qg,qh,qi] κ=κ (.rt (.bl true)):=()
theorem fg:k4=[nth k4 0,nth k4 1,nth k4 2,nth k4 3,nth k4 4,nth k4 5]:=()
theorem mG:XX C 39 F7 k4 0 [qa,ua,qb,qc,qd,qe,qf,qg,qh] κ=(x1@(C 31 [ua,(.int 3)])<|x2@(ixD (.lst [(.int 2),(.int 2),(.int 1)]) x1)<|κ (.nx [qa,ua,qb,qc,x2,qe,qf,qg,qh])):=()
theorem md:XX C 39 F7 k4 1 [qa,ua,qb,qc,qd,qe,qf,qg,qh] κ=(x1@(C 31 [ua,(.int 2)])<|x2@(o9 (.int 1) x1)<|x3@(C 34 [ua,x2])<|κ (.nx [qa,ua,qb,qc,qd,some (.tup [x3]),qf,qg,qh])):=()
theorem mm:XX C 39 F7 k4 2 [qa,ua,ub,qb,qc,uc,qd,qe,qf] κ=(l6@(nx (sm2@(j4 ub)<|g7 sm2.1 (λd1=>x3@(C 31 [ua,(.int 3)])<|x4@(b7 .Gt x3 (.int 0))<|z5@(asB x4)<|ret z5) (λd1=>ret d1) sm2.2 0 []))<|x7@(G5 (.lst l6))<|x8@(o9 ub uc)<|κ (.nx [qa,ua,ub,qb,qc,uc,some (.lst [ub,x7,uc,x8]),qe,qf])):=()
theorem nT:XX C 39 F7 k4 3 [qa,ua,qb,qc,qd,qe,ub,qf,qg] κ=(x1@(C 31 [ua,(.int 4)])<|x2@(ixD ub x1)<|κ (.nx [qa,ua,qb,qc,qd,qe,ub,x2,qg])):=()
theorem mn:XX C 39 F7 k4 4 [qa,ua,qb,qc,ub,qd,qe,qf,qg] κ=(x1@(eO (.int 6) ub)<|x2@(C 31 [ua,x1])<|x3@(o9 ub x2)<|κ (.nx [qa,ua,qb,qc,ub,qd,qe,qf,x3])):=()
theorem lr:XX C 39 F7 k4 5 [qa,ua,qb,qc,ub,qd,qe,uc,ud] κ=(x1@(C 38 [ub,uc])<|z2@(i6 x1)<|if z2 then (x3@(C 41 [ua,ud,ub,uc])<|z4@(i6 x3)<|if (!z4)=true then (κ (.rt (.bl false)))else (κ (.nx [qa,ua,qb,qc,ub,qd,qe,uc,ud])))else (κ (.nx [qa,ua,qb,qc,ub,qd,qe,uc,ud]))):=()
end
end L3.K92
namespace L3
open PySem PySem.Spec PyProof.Rows L2
theorem sy{p N m:Nat}{S:Sto}(h:Fw ns p (N+1) S)(v:0<m)(k:m<1073741824):Ok (kN (.ref p) (.int (m:Int))) S λd S'=>∃r:Nat,d=.int (r:Int)/\r<m/\Fw ns p N S'/\S'.length=S.length/\∀q,q≠p->S'[q]?=S[q]?:=by
 obtain⟨a,l,t,e,j,s,n,u⟩:=h;obtain⟨r,o,g,i,b,w,f,c⟩:=uM (m:=(m:Int)) e j s n ∅ ∅ ∅;obtain⟨r,rfl⟩:=Nw b;refine⟨_,_,i,r,rfl,by omega,⟨o,g,t+1,?_,f,c,by omega,by omega⟩,by simp,λq x=>?_⟩
 ·grind
 ·grind
end L3
namespace L3.Nt
open PySem PySem.Spec PyProof.Rows L2
inductive Wd where
 | out | ask | close | look | holds
def Wd.s:Wd->Str
 | .out=>"out"
 | .ask=>"ask"
 | .close=>"close"
 | .look=>"look"
 | .holds=>"holds"
def Wd.d(w:Wd):D:=.str w.s
def M4(b:Bool):Str:=if b=true then "down" else "right"
def D0(b:Bool):D:=.str (M4 b)
def trD(t:List Bool):D:=.tup (t.map D0)
def oD:Option Nat->D
 | none=>.non
 | some h=>.int (h:Int)
abbrev Hnd:=List Bool×Wd
def hdD(h:Hnd):D:=.tup [trD h.1,h.2.d]
abbrev Box:=Option Nat×Bool
def bxD(b:Box):D:=.tup [oD b.1,.bl b.2]
structure Nst where
 bx:List Box
 hs:List Hnd
def Nst.d(r:Nst):D:=.tup [.tup (r.bx.map bxD),.tup (r.hs.map hdD)]
def tri(n:Nat):Nat:=n * (n+1) / 2
def dn(t:List Bool):Nat:=t.countP id
def rt(t:List Bool):Nat:=t.countP λb=>!b
theorem V5(t:List Bool):dn t+rt t=t.length:=by
 unfold dn rt;induction t with
 | nil=>rfl
 | cons b t ih=>ext b <;> simp[Nx] <;> omega
theorem aG:∀t:List Bool,j3 (t.map D0)=some (t.map M4)
 | []=>rfl
 | b::t=>by
  show(j3 (t.map D0)).map (M4 b::·)=_;rw[aG t];rfl
theorem jM(b:Bool)(t:List Bool):dn (b::t)=(if b=true then 1 else 0)+dn t:=by unfold dn;ext b <;> simp[Nx] <;> omega
theorem kO(b:Bool)(t:List Bool):rt (b::t)=(if b=true then 0 else 1)+rt t:=by unfold rt;ext b <;> simp[Nx] <;> omega
theorem Z9:∀t:List Bool,countIn (.str "down") ((t.map M4).map PyData.str)=(dn t:Int)
 | []=>rfl
 | true::t=>by
  have e:countIn (.str "down") (((true::t).map M4).map PyData.str)=1+countIn (.str "down") ((t.map M4).map PyData.str):=rfl;rw[e,Z9 t,jM,if_pos rfl];omega
 | false::t=>by
  have e:countIn (.str "down") (((false::t).map M4).map PyData.str)=0+countIn (.str "down") ((t.map M4).map PyData.str):=rfl;rw[e,Z9 t,jM,if_neg Jt];omega
theorem U6:∀t:List Bool,countIn (.str "right") ((t.map M4).map PyData.str)=(rt t:Int)
 | []=>rfl
 | true::t=>by
  have e:countIn (.str "right") (((true::t).map M4).map PyData.str)=0+countIn (.str "right") ((t.map M4).map PyData.str):=rfl;rw[e,U6 t,kO,if_pos rfl];omega
 | false::t=>by
  have e:countIn (.str "right") (((false::t).map M4).map PyData.str)=1+countIn (.str "right") ((t.map M4).map PyData.str):=rfl;rw[e,U6 t,kO,if_neg Jt];omega
theorem xf(t:List Bool)(S:Sto):countT (trD t) [.str "down"] S=.ok (.int (dn t:Int)) S:=by
 show(match j3 (t.map D0) with
  | some ys=>ret (D.int (countIn (.str "down") (ys.map PyData.str)))
  | none=>bad) S=_
 rw[aG];show R.ok (D.int (countIn (.str "down") ((t.map M4).map PyData.str))) S=_;rw[Z9]
theorem oP(t:List Bool)(S:Sto):countT (trD t) [.str "right"] S=.ok (.int (rt t:Int)) S:=by
 show(match j3 (t.map D0) with
  | some ys=>ret (D.int (countIn (.str "right") (ys.map PyData.str)))
  | none=>bad) S=_
 rw[aG];show R.ok (D.int (countIn (.str "right") ((t.map M4).map PyData.str))) S=_;rw[U6]
def w8(p:Nat->Bool)(h:Hnd):D:=match (List.range h.1.length).find? p with
 | some i=>D0 (h.1.getD i false)
 | none=>if p h.1.length=true then h.2.d else .str "out"
theorem V0{p:Nat->Bool}{n:Nat}(h:∀j,j<n->p j=false):(List.range n).find? p=none:=by grind
theorem jV{p:Nat->Bool}{n i:Nat}(a:i<n)(h:∀j,j<i->p j=false)(b:p i=true):(List.range n).find? p=some i:=by simp_all
end L3.Nt
namespace L3.K92
open PySem PySem.Spec PyProof.Rows L2
theorem yt{p N m:Nat}{S:Sto}(h:Fw ns p (N+1) S)(hm:0<m)(hm2:m<1073741824)(k:Nat):Ok (rn (k+1) bE [.ref p,.int (m:Int)]) S λd S'=>∃r:Nat,d=.int (r:Int)/\r<m/\Fw ns p N S'/\S'.length=S.length/\∀q,q≠p->S'[q]?=S[q]?:=by
 rw[rn,a9 rfl,yS];exact sy h hm hm2
def Kp(p:Nat)(S S':Sto):Prop:=S'.length=S.length/\∀q,q≠p->S'[q]?=S[q]?
theorem Kp.tr(a:Kp p S T)(b:Kp p T U):Kp p S U:=⟨b.1.trans a.1,λq h=>(b.2 q h).trans (a.2 q h)⟩
def wds:List Str:=["out","ask","close","look","holds","right","down"]
def iG(w:Str):Option Nat:=if w = "at" then some 3 else if w = "mark" then some 2 else if w = "free" then some 1 else if w = "closed" then some 1 else if w = "not" then some 2 else if w = "both" then some 3 else if w = "either" then some 3 else none
def one(hs:List Int):D->Bool
 | .int i=>decide (i∈hs)
 | _=>false
def wOk:D->Bool
 | .tup ds=>(match j3 ds with
  | some ws=>ws.all (λw=>decide (w∈wds))&&decide ws.Nodup
  | none=>false)
 | _=>false
def A3(hs:List Int):D->Bool
 | .tup (.str w::ds)=>decide (iG w=some (ds.length+1))&&(if w = "at" then one hs (ds.getD 0 .non)&&wOk (ds.getD 1 .non)else if w = "mark" then one hs (ds.getD 0 .non)else true)
 | _=>false
def U5:D->List D
 | .tup (.str w::ds)=>if w = "not"\/w = "both"\/w = "either" then ds else []
 | _=>[]
def G4:Option Nat->Option Nat->Option Nat
 | some x,some y=>some (x+y)
 | _,_=>none
def nY(g:D->Option Nat):List D->Option Nat
 | []=>some 0
 | d::ds=>G4 (g d) (nY g ds)
def sN(hs:List Int):Nat->D->Option Nat
 | 0,_=>none
 | f+1,d=>if A3 hs d=true then G4 (some 1) (nY (sN hs f) (U5 d))else none
theorem iX(a b c:Option Nat):G4 (G4 a b) c=G4 a (G4 b c):=by
 ext a <;> ext b <;> ext c <;> simp only[G4,Nat.add_assoc]
theorem T5(a:Option Nat):G4 a (some 0)=a:=by ext a <;> rfl
theorem nU(a:Option Nat):G4 (some 0) a=a:=by ext a <;> simp[G4]
def few(m:Nat):Option Nat->Bool
 | some t=>decide (m+t<=20)
 | none=>false
def wT(hs:List Int)(p:D×Nat):Option Nat:=sN hs (9-p.2) p.1
def B5(hs:List Int):List (D×Nat)->Option Nat
 | []=>some 0
 | p::ps=>G4 (wT hs p) (B5 hs ps)
theorem Q5(hs:List Int):∀(a b:List (D×Nat)),B5 hs (a++b)=G4 (B5 hs a) (B5 hs b)
 | [],b=>(nU _).symm
 | p::a,b=>by
  show G4 _ (B5 hs (a++b))=G4 (G4 _ _) _;rw[Q5 hs a b,iX]
theorem gf(hs:List Int)(l:Nat):∀ds:List D,B5 hs (ds.map λd=>(d,l))=nY (sN hs (9-l)) ds
 | []=>rfl
 | d::ds=>by
  show G4 _ (B5 hs (ds.map λd=>(d,l)))=G4 _ _;rw[gf hs l ds];rfl
theorem hJ{d:D}{l:Nat}(b:A3 hs d=false\/8<l\/20<m+1):few m (B5 hs (ps++[(d,l)]))=false:=by
 rw[Q5];have a:B5 hs [(d,l)]=sN hs (9-l) d:=T5 _;rw[a];rcases b with h | h | h
 ·cases e:9-l with
  | zero=>cases B5 hs ps <;> rfl
  | succ f=>
   rw[sN,h,if_neg Jt];cases B5 hs ps <;> rfl
 ·rw[show 9-l=0 by omega];cases B5 hs ps <;> rfl
 ·cases e:9-l with
  | zero=>cases B5 hs ps <;> rfl
  | succ f=>
   rw[sN];split
   ·cases B5 hs ps with
    | none=>rfl
    | some x=>
     cases nY (sN hs f) (U5 d) with
     | none=>rfl
     | some y=>exact JR ∅
   ·cases B5 hs ps <;> rfl
theorem wM{d:D}{l:Nat}(a:A3 hs d=true)(g:l<=8):few m (B5 hs (ps++[(d,l)]))=few (m+1) (B5 hs (ps++(U5 d).map λe=>(e,l+1))):=by
 rw[Q5,Q5,gf];have b:B5 hs [(d,l)]=sN hs (9-l) d:=T5 _;rw[b];obtain⟨f,c⟩:∃f,9-l=f+1:=⟨8-l,by omega⟩;rw[c,show 9-(l+1)=f by omega,sN,if_pos a];cases B5 hs ps with
 | none=>rfl
 | some x=>
  cases nY (sN hs f) (U5 d) with
  | none=>rfl
  | some y=>
   show decide (m+(x+(1+y))<=20)=decide (m+1+(x+y)<=20);congr 1;exact propext ⟨λ_=>by omega,λ_=>by omega⟩
theorem om{j:Nat}{d:D}(h:Pln j d)(k:Nat)(S:Sto):rn (k+1) Dl [d] S=.ok (.bl (match d with
  | .int _=>true
  | _=>false)) S:=by
 rw[rn,a9 (fd:=uO) rfl,xU];cases d with
 | bl b=>ext b <;> rfl
 | scr _=>exact h.elim
 | ref _=>exact h.elim
 | _=>rfl
theorem rc{j:Nat}{d:D}(h:Pln j d)(hs:List Int)(k:Nat)(S:Sto):rn (k+2) Cz [d,.tup (hs.map D.int)] S=.ok (.bl (one hs d)) S:=by
 refine d8 ?_;rw[rn,a9 (fd:=qN) rfl,vj];refine Ok.eq (om h k S) ?_;cases d with
 | int i=>exact Ok.eq (a:=true) rfl<|Ok.pos rfl<|Ok.eq (wL i hs S)<|Ok.ret ⟨rfl,rfl⟩
 | _=>exact Ok.eq (a:=false) rfl<|Ok.neg ⋯<|Ok.ret ⟨rfl,rfl⟩
theorem aE:∀{ds:List D}{ws:List Str},j3 ds=some ws->ds=ws.map D.str
 | [],ws,e=>by ext e;rfl
 | d::ds,ws,e=>by
  cases d with
  | str x=>
   simp only[j3]at e;obtain⟨vs,e1,e2⟩:=Ks.mp e;rw[<- e2,aE e1];rfl
  | _=>simp only[j3]at e;ext e
theorem dk:∀ws:List Str,j3 (ws.map D.str)=some ws
 | []=>rfl
 | w::ws=>by simp only[JI,j3,dk ws];rfl
theorem sr(ws:List Str):(ws.map D.str).all (inW wds)=ws.all λw=>decide (w∈wds):=by
 rw[MS];rfl
theorem Ii{ds:List D}(h:ds.all (inW wds)=false):wOk (.tup ds)=false:=by
 simp only[wOk];cases e:j3 ds with
 | none=>rfl
 | some ws=>
  rw[aE e,sr]at h;simp only[h,NN]
theorem gW{f:Nat->Str}:∀i,(HT.metKHt f i).length=i↔∀a b,a<b->b<i->f a≠f b
 | 0=>⟨λ_ a b _ h=>by omega,λ_=>rfl⟩
 | i+1=>by
  have ih:=gW (f:=f) i;have le:=HT.metK_le f i;rw[HT.metK_s];by_cases m:f i∈HT.metKHt f i
  ·rw[if_pos m];refine⟨λe=>by omega,λh=>?_⟩;obtain⟨a,ha,e⟩:=(HT.metK_mem f (f i) i).mp m;exact absurd e (h a i ha ∅)
  ·rw[if_neg m,JP,KP];constructor
   ·intro e a b hab hb;by_cases q:b=i
    ·subst q;exact λz=>m ((HT.metK_mem f (f b) b).mpr ⟨a,hab,z⟩)
    ·exact ih.mp ∅ a b hab ∅
   ·intro h;rw[ih.mpr λa b x y=>h a b x ∅]
theorem pZ(ws:List Str):(bP ws).length=ws.length↔ws.Nodup:=by
 unfold bP List.Nodup;rw[gW,List.pairwise_iff_getElem];have g:∀i (h:i<ws.length),ws.getD i "" = ws[i]:=λi h=>by simp[List.getD,h]
 constructor
 ·intro h a b ha hb hab;have:=h a b hab hb;rw[g a ha,g b hb]at this;exact this
 ·intro h a b hab hb;rw[g a ∅,g b hb];exact h a b ∅ hb hab
theorem W3(b:Bool)(S:Sto):i6 (.bl b) S=.ok b S:=rfl
theorem GC:∀w∈wds,Asc w:=by unfold Asc;decide +kernel
theorem HK:∀w∈wds,3<=w.length:=by decide +kernel
theorem szw:∀{ws:List Str},(∀w∈ws,w∈wds)->34 * ws.length<=szs (ws.map D.str)
 | [],_=>Ju _
 | w::ws,h=>by
  have a:=HK w (h w (Jy ..));have b:=szw (ws:=ws) λv hv=>h v (JE _ hv);show 34 * (ws.length+1)<=10 * w.length+2+2+szs (ws.map D.str);omega
theorem rC{j N:Nat}{d:D}(h:Any j N d)(hj:j<=40)(hN:N<=100000)(k:Nat)(S:Sto):rn (k+1) Bh [d] S=.ok (.bl (wOk d)) S:=by
 refine d8 ?_;rw[rn,a9 (fd:=sL) rfl,yq];cases d with
 | tup ds=>
  have len:=h.len;refine Ok.eq (a:=.bl true) rfl<|Ok.eq (a:=true) rfl<|Ok.neg ⋯<|nx_bind<|Ok.eq (eA ds S)<|Ok.of (wF (p:=inW wds) (by rw[JS];omega) λe he=>?_) ?_
  ·exact a7 (gz (h.at he) hj GC S)
  ·refine Ok.eq (all_ok _ S)<|Ok.eq (a:=ds.all (inW wds)) (by rw[all_map];rfl) ?_;cases q:ds.all (inW wds) with
   | false=>exact Ok.pos rfl<|Ok.ret ⟨by rw[Ii q],rfl⟩
   | true=>
    obtain⟨ws,rfl,hw⟩:=sd (f:=D.str) (q:=λw=>w∈wds) (λd hd=>by
     obtain⟨w,e,m⟩:=DP hd;exact⟨w,e.symm,m⟩) q
    have lw:ws.length<4000:=by
     have a:=szw hw;have b:szs (ws.map D.str)+3<=N:=h.sz;omega
    have e1:D6 (.tup (ws.map D.str)) S=.ok (.int ((bP ws).length:Nat)) S:=by
     unfold D6;dsimp only;rw[dk];show(if ws.length<4000 then ret _ else bad) S=_;rw[if_pos lw];rfl
    refine Ok.neg ⋯<|Ok.eq e1<|Ok.eq (v6 _ S)<|Ok.eq (E8 _ _ S)<|Ok.ret ⟨?_,rfl⟩;rw[sr]at q;simp only[wOk,dk,q,Bool.true_and,Jr];congr 1;rw[decide_eq_decide,Int.ofNat_inj];exact pZ ws
 | scr _=>exact h.pl.elim
 | ref _=>exact h.pl.elim
 | _=>exact Ok.eq (a:=.bl false) rfl<|Ok.eq (a:=false) rfl<|Ok.pos rfl<|Ok.ret ⟨rfl,rfl⟩
def jj(w:Str):D:=match iG w with
 | some n=>.int (n:Int)
 | none=>.non
theorem ke{P:Str->Prop}(h1:P "at") (h2:P "mark") (h3:P "free") (h4:P "closed") (h5:P "not") (h6:P "both") (h7:P "either") (h:∀w:Str,w ≠ "at"->w ≠ "mark"->w ≠ "free"->w ≠ "closed"->w ≠ "not"->w ≠ "both"->w ≠ "either"->P w) (w:Str):P w:=by
 by_cases e1:w = "at"
 ·rw[e1];exact h1
 by_cases e2:w = "mark"
 ·rw[e2];exact h2
 by_cases e3:w = "free"
 ·rw[e3];exact h3
 by_cases e4:w = "closed"
 ·rw[e4];exact h4
 by_cases e5:w = "not"
 ·rw[e5];exact h5
 by_cases e6:w = "both"
 ·rw[e6];exact h6
 by_cases e7:w = "either"
 ·rw[e7];exact h7
 exact h w e1 e2 e3 e4 e5 e6 e7
theorem qS(w:Str)(S:Sto):W2 [("at",(.int 3)),("mark",(.int 2)),("free",(.int 1)),("closed",(.int 1)),("not",(.int 2)),("both",(.int 3)),("either",(.int 3))] (.str w) S=.ok (jj w) S:=by
 refine ke (P:=λw=>W2 _ (.str w) S=.ok (jj w) S) ?_ ?_ ?_ ?_ ?_ ?_ ?_ ?_ w
 ·kernel_rfl
 ·kernel_rfl
 ·kernel_rfl
 ·kernel_rfl
 ·kernel_rfl
 ·kernel_rfl
 ·kernel_rfl
 ·intro w e1 e2 e3 e4 e5 e6 e7;have no:∀v:Str,w≠v->(w==v)=false:=λv e=>Kz.mpr e;simp only[W2,jj,iG,List.lookup,no _ e1,no _ e2,no _ e3,no _ e4,no _ e5,no _ e6,no _ e7,if_neg e1,if_neg e2,if_neg e3,if_neg e4,if_neg e5,if_neg e6,if_neg e7];rfl
theorem FG(w v:Str)(S:Sto):b7 .Eq (.str w) (.str v) S=.ok (.bl (decide (w=v))) S/\b7 .NotEq (.str w) (.str v) S=.ok (.bl (!decide (w=v))) S:=⟨rfl,rfl⟩
theorem tf{j N:Nat}{d:D}(h:Any j N d)(hj:j<=40)(hN:N<=100000)(hs:List Int)(k:Nat)(S:Sto):rn (k+3) Cm [d,.tup (hs.map D.int)] S=.ok (.bl (A3 hs d)) S:=by
 refine d8 ?_;rw[rn,a9 (fd:=tz) rfl,yK];cases d with
 | tup ds=>
  refine Ok.eq (a:=.bl true) rfl<|Ok.eq (a:=true) rfl<|Ok.neg ⋯<|Ok.eq (v6 ds S)<|Ok.eq (E8 _ _ S)<|Ok.eq (h8 _ S) ?_;rcases ds with _ | ⟨x,ds⟩
  ·exact Ok.pos ⋯<|Ok.ret ⟨rfl,rfl⟩
  ·refine Ok.neg (by rw[KL,JR ∅];decide)<|Ok.eq (g5 (i:=0) S rfl) ?_;have hx:=h.at (Jy ..);cases x with
   | str w=>
    refine Ok.eq (a:=.bl true) rfl<|Ok.eq (a:=true) rfl<|Ok.neg ⋯<|Ok.eq (g5 (i:=0) S rfl)<|Ok.eq (qS w S)<|Ok.eq (v6 _ S) ?_;unfold jj;cases e:iG w with
    | none=>exact Ok.eq (a:=.bl true) rfl<|Ok.eq (a:=true) rfl<|Ok.pos rfl<|Ok.ret ⟨by simp[A3,e],rfl⟩
    | some n=>
     refine Ok.eq (Fs _ _ S)<|Ok.eq (h8 _ S) ?_;by_cases en:n=ds.length+1
     ·refine Ok.neg (by rw[KL,JQ ∅];decide)<|Ok.eq (FG _ _ S).1<|Ok.eq (h8 _ S) ?_;by_cases e1:w = "at"
      ·subst e1;obtain⟨x,y,rfl⟩:∃x y,ds=[x,y]:=by
        have:n=3:=by ext e;rfl
        match ds,en with
        | [x,y],_=>exact⟨x,y,rfl⟩
        | [],en=>simp at en;omega
        | [_],en=>simp at en;omega
        | _::_::_::_,en=>simp at en;omega
       have h1:Any j N x:=h.at (by simp);have h2:Any j N y:=h.at (by simp);refine Ok.pos ⋯<|Ok.eq (g5 (i:=1) S rfl)<|Ok.eq (rc h1.pl hs k S)<|Ok.eq (W3 _ S) ?_;have eb:A3 hs (.tup [.str "at",x,y])=(one hs x&&wOk y):=by
        simp only[A3,e,en];rfl
       rw[eb];cases one hs x with
       | true=>exact Ok.pos rfl<|Ok.eq (g5 (i:=2) S rfl)<|Ok.eq (rC h2 hj hN (k+1) S)<|Ok.ret ⟨rfl,rfl⟩
       | false=>exact Ok.neg ⋯<|Ok.ret ⟨rfl,rfl⟩
      ·refine Ok.neg (by rw[JR e1];decide)<|Ok.eq (FG _ _ S).2<|Ok.eq (W3 _ S) ?_;by_cases e2:w = "mark"
       ·subst e2;obtain⟨x,rfl⟩:∃x,ds=[x]:=by
         have:n=2:=by ext e;rfl
         match ds,en with
         | [x],_=>exact⟨x,rfl⟩
         | [],en=>simp at en;omega
         | _::_::_,en=>simp at en;omega
        have h1:Any j N x:=h.at (by simp);refine Ok.neg ⋯<|Ok.eq (g5 (i:=1) S rfl)<|Ok.eq (rc h1.pl hs k S)<|Ok.ret ⟨?_,rfl⟩;simp only[A3,e,en];rfl
       ·refine Ok.pos (by rw[JR e2];rfl)<|Ok.ret ⟨?_,rfl⟩;simp only[A3,e,en,if_neg e1,if_neg e2,JR e2];rfl
     ·refine Ok.pos (by rw[KL,JR ∅];rfl)<|Ok.ret ⟨?_,rfl⟩;have:¬ some n=some (ds.length+1):=λz=>en (JZ z);simp only[A3,e,JR this,NN]
   | scr _=>exact hx.pl.elim
   | ref _=>exact hx.pl.elim
   | _=>exact Ok.eq (a:=.bl false) rfl<|Ok.eq (a:=false) rfl<|Ok.pos rfl<|Ok.ret ⟨rfl,rfl⟩
 | scr _=>exact h.pl.elim
 | ref _=>exact h.pl.elim
 | _=>exact Ok.eq (a:=.bl false) rfl<|Ok.eq (a:=false) rfl<|Ok.pos rfl<|Ok.ret ⟨rfl,rfl⟩
theorem EG:∀w∈(["not","both","either"]:List Str),Asc w:=by unfold Asc;decide +kernel
theorem HR{j N:Nat}{d:D}{hs:List Int}(h:Any j N d)(hj:j<=40)(hb:A3 hs d=true)(k:Nat)(S:Sto):rn (k+1) Eu [d] S=.ok (.tup (U5 d)) S/\(U5 d).length<=2/\∀e∈U5 d,Any j N e:=by
 match d,hb,h with
 | .tup (.str w::ds),hb,h=>
  have hx:=h.at (Jy ..);refine⟨d8 ?_,?_,λe he=>?_⟩
  ·rw[rn,a9 (fd:=Bj) rfl,CO];refine Ok.eq (g5 (i:=0) S rfl)<|Ok.eq (gz (ws:=["not","both","either"]) hx hj EG S)<|Ok.eq (h8 _ S) ?_;by_cases q:w = "not"\/w = "both"\/w = "either"
   ·refine Ok.pos (JQ (by simpa using q))<|Ok.eq (a:=.tup ds) ?_<|Ok.ret ⟨by simp only[U5,if_pos q],rfl⟩;show R.ok (D.tup (G3 (.str w::ds) (some ((1:Nat):Int)) none)) S=_;rw[eW (by simp)];rfl
   ·refine Ok.neg (by rw[show inW _ (.str w)=false from JR (by simpa using q)];decide)<|Ok.ret ⟨by simp only[U5,if_neg q],rfl⟩
  ·simp only[U5];split
   ·rename_i q;simp only[A3,Jp,JJ]at hb;have:=hb.1;have n3:∀n,iG w=some n->n<=3:=by
     rcases q with rfl | rfl | rfl <;> intro n e <;> ext e <;> decide
    have:=n3 _ this;omega
   ·exact Kg _
  ·simp only[U5]at he;split at he
   ·exact h.at (JE _ he)
   ·ext he
def pD(p:D×Nat):D:=.tup [p.1,.int (p.2:Int)]
theorem pR{y:D}(e:S[n]?=some (.lst (es++[y]))):eU (.ref n) S=.ok y (S.set n (.lst es)):=by
 unfold eU;simp only[bind,lstOf,e,JP,KP,Nat.add_sub_cancel,List.getElem?_concat_length,List.dropLast_concat]
theorem FR{es ys:List D}(e:S[n]?=some (.lst es))(a:es.length+ys.length<=sizeLine):extD (.ref n) [.lst ys] S=.ok .non (S.set n (.lst (es++ys))):=by
 simp only[extD,e,if_pos a]
theorem jJ(h:Any j N d)(hj:j<=40)(hN:N<=100000)(hs:List Int)(k:Nat)(S:Sto):Ok (rn (k+4) BM [d,.tup (hs.map D.int)]) S λr S'=>r=.bl (few 0 (sN hs 8 d))/\Ex S S':=by
 rw[rn,a9 rfl,yQ,xh];refine Ok.first<|Ok.cg (Gq ..)<|Ok.eq (rfl)<|Ok.nxt<|Ok.cg (HY ..)<|Ok.nxt<|Ok.cg (FN ..)<|Ok.bind ((Ok.while_ (λt ρ S'=>∃(m:Nat) (ps:List (D×Nat)) (o4 o5:Option D),ρ=[some d,some (.tup (hs.map D.int)),some (.ref S.length),some (.int (m:Int)),o4,o5]/\S'=S++[.lst (ps.map pD)]/\(∀p∈ps,Any j N p.1)/\few m (B5 hs ps)=few 0 (sN hs 8 d)/\m+t=20/\ps.length<=2 * m+1)
  (λρ S'=>∃x y z u v w,ρ=[x,y,z,u,v,w]/\few 0 (sN hs 8 d)=true/\Ex S S') (λr S'=>r=.bl (few 0 (sN hs 8 d))/\Ex S S') ?_ 10000 20 _ _ ⋯ ⟨0,[(d,1)],_,_,rfl,rfl,λp hp=>by rw[JK.mp hp];exact h,?_,rfl,Ju _⟩).mono ?_)
 ·rintro t ρ S' ⟨m,ps,o4,o5,rfl,rfl,hp,hf,hm,hl⟩;have at_:∀x:List D,(S++[O.lst x])[S.length]?=some (.lst x):=λx=>by simp
  rw[iM];refine Ok.eq (a:=!(ps.map pD).isEmpty) (S1:=S++[.lst (ps.map pD)]) (by simp only[i6,at_])<|Ok.ret ?_;rcases List.eq_nil_or_concat ps with rfl | ⟨qs,⟨e,l⟩,rfl⟩
  ·rw[if_neg ⋯];refine⟨_,_,_,_,_,_,rfl,?_,⟨_,rfl⟩⟩;rw[<- hf];exact JQ ∅
  ·rw[List.concat_eq_append]at hp hf hl ⊢;rw[if_pos (by simp)];have he:Any j N e:=hp (e,l) (by simp);unfold gT;rw[fI,KW];refine Ok.first<|Ok.cg (lZ ..)<|Ok.eq (pR (at_ _)) ?_;rw[xQ];refine Ok.eq rfl<|Ok.nxt<|Ok.cg (mN ..)<|Ok.eq (a:=.int ((m+1:Nat):Int)) rfl<|Ok.nxt<|Ok.cg (lf ..)<|Ok.eq (cA _ _ _)<|Ok.eq (h8 _ _) ?_;by_cases c1:20<m+1
   ·refine Ok.pos (JQ ∅)<|Ok.ret ⟨?_,_,rfl⟩;rw[<- hf,hJ (.inr (.inr c1))]
   refine Ok.neg (by rw[JR ∅];decide)<|Ok.eq (cA _ _ _)<|Ok.eq (h8 _ _) ?_;by_cases c2:8<l
   ·refine Ok.pos (JQ ∅)<|Ok.ret ⟨?_,_,rfl⟩;rw[<- hf,hJ (.inr (.inl c2))]
   refine Ok.neg (by rw[JR ∅];decide)<|Ok.eq (tf he hj hN hs k _)<|Ok.eq (W3 _ _) ?_;cases hb:A3 hs e with
   | false=>
    refine Ok.pos rfl<|Ok.ret ⟨?_,_,rfl⟩;rw[<- hf,hJ (.inl hb)]
   | true=>
    obtain⟨f1,f2,f3⟩:=HR he hj hb (k+2) (S++[.lst (qs.map pD)]);refine Ok.neg ⋯<|Ok.nxt<|Ok.cg (nX ..)<|Ok.eq (GV (at_ _))<|nx_bind<|Ok.eq f1<|Ok.eq (eA _ _)<|Ok.of (rP (g:=λx=>pD (x,l+1)) (by rw[JS];omega) λx hx=>?_) ?_
    ·exact a7 (aU l 1 _)
    ·rw[JP,KP]at hl;refine Ok.eq (FR (at_ _) (by rw[Jr,Jr,JS];omega))<|Ok.ret ⟨t-1,by omega,m+1,qs++(U5 e).map (λx=>(x,l+1)),_,_,rfl,?_,λp hq=>?_,?_,by omega,by rw[JP,Jr];omega⟩
     ·simp_all
     ·grind
     ·rw[<- hf,wM hb ∅]
 ·have:B5 hs [(d,1)]=sN hs 8 d:=T5 _;rw[this]
 ·rintro fl S' q;cases fl with
  | nx ρ=>
   obtain⟨x,y,z,u,v,w,rfl,e,ex⟩:=q;rw[e];exact Ok.nxt<|Ok.cg (GW ..)<|Ok.ret ⟨rfl,ex⟩
  | rt r=>exact Ok.ret q
  | bk ρ=>exact q.elim
  | ct ρ=>exact q.elim
def cz(w:Str):Option (List Int):=if w = "each" then some [0]else if w = "some" then some [0]else if w = "pairs" then some [0,1]else if w = "plain" then some []else none
def Z7:D->Bool
 | .tup [.str w,d]=>(match cz w with
  | some hs=>few 0 (sN hs 8 d)
  | none=>false)
 | _=>false
theorem jt{P:Str->Prop}(c:P "each") (a:P "some") (b:P "pairs") (g:P "plain") (h:∀w:Str,w ≠ "each"->w ≠ "some"->w ≠ "pairs"->w ≠ "plain"->P w) (w:Str):P w:=by
 by_cases f:w = "each"
 ·rw[f];exact c
 by_cases d:w = "some"
 ·rw[d];exact a
 by_cases e:w = "pairs"
 ·rw[e];exact b
 grind
theorem ji{w:Str}(a:w ≠ "each") (b:w ≠ "some") (d:w ≠ "pairs") (c:w ≠ "plain"):cz w=none:=by
 unfold cz;rw[if_neg a,if_neg b,if_neg d,if_neg c]
def HD:List (Str×D):=[("each",(.tup [(.int 0)])),("some",(.tup [(.int 0)])),("pairs",(.tup [(.int 0),(.int 1)])),("plain",(.tup []))]
theorem ij(w:Str):HD.lookup w=(cz w).map λhs=>.tup (hs.map D.int):=by
 refine jt (P:=λw=>HD.lookup w=(cz w).map λhs=>.tup (hs.map D.int)) ?_ ?_ ?_ ?_ ?_ w
 ·kernel_rfl
 ·kernel_rfl
 ·kernel_rfl
 ·kernel_rfl
 ·intro w f c d b;have a:∀v:Str,w≠v->(w==v)=false:=λv e=>Kz.mpr e;rw[ji f c d b];simp only[HD,List.lookup,a _ f,a _ c,a _ d,a _ b];rfl
theorem oB(d:D){j:Nat}(h:Pln j d)(k:Nat)(S:Sto):rn (k+1) Ci [d,.int 2] S=.ok (.bl (CI 2 d)) S:=by
 refine d8 ?_;rw[rn,a9 rfl,wU];cases d with
 | tup ds=>
  refine Ok.eq rfl<|Ok.eq rfl<|Ok.pos rfl<|Ok.eq (v6 ds S)<|Ok.eq (E8 _ _ S)<|Ok.ret ⟨?_,rfl⟩;show D.bl (decide ((ds.length:Int)=((2:Nat):Int)))=.bl (decide (ds.length=2));rw[pH]
 | scr _=>exact h.elim
 | ref _=>exact h.elim
 | _=>exact Ok.eq rfl<|Ok.eq rfl<|Ok.neg ⋯<|Ok.ret ⟨rfl,rfl⟩
theorem cp(h:Any j N d)(hj:j<=40)(hN:N<=100000)(k:Nat)(S:Sto):Ok (rn (k+5) FT [d]) S λr S'=>r=.bl (Z7 d)/\Ex S S':=by
 rw[rn,a9 rfl,DL];refine Ok.eq (oB d h.pl (k+3) S)<|Ok.eq (W3 _ _) ?_;cases q:CI 2 d with
 | false=>
  refine Ok.pos rfl<|Ok.ret ⟨?_,Ex.refl _⟩;unfold Z7;split
  ·ext q
  ·rfl
 | true=>
  obtain⟨ds,rfl,l2⟩:=yL q;obtain⟨x,y,rfl⟩:∃x y,ds=[x,y]:=by
   match ds,l2 with
   | [x,y],_=>exact⟨x,y,rfl⟩
  have hx:=h.at (Jy ..);have hy:Any j N y:=h.at (by simp);refine Ok.neg ⋯<|Ok.eq (g5 S rfl) ?_;cases x with
  | str w=>
   refine Ok.eq rfl<|Ok.eq rfl<|Ok.neg ⋯<|Ok.eq (g5 S rfl)<|Ok.eq (show wP HD (.str w) S=.ok (HD.lookup w).isNone S from rfl) ?_;cases e:cz w with
   | none=>
    refine Ok.pos (by rw[ij,e];rfl)<|Ok.ret ⟨by simp only[Z7,e],Ex.refl _⟩
   | some hs=>
    refine Ok.neg (by rw[ij,e];exact Jt)<|Ok.eq (g5 S rfl)<|Ok.eq (g5 S rfl)<|Ok.eq (show gdD HD (.str w) S=.ok (.tup (hs.map D.int)) S by simp only[gdD,ij,e];rfl)<|Ok.bind ((jJ hy hj hN hs k S).mono ?_);rintro _ S' ⟨rfl,ex⟩;exact Ok.ret ⟨by simp only[Z7,e],ex⟩
  | scr _=>exact hx.pl.elim
  | ref _=>exact hx.pl.elim
  | _=>exact Ok.eq rfl<|Ok.eq rfl<|Ok.pos rfl<|Ok.ret ⟨rfl,Ex.refl _⟩
inductive Wo where
 | out | ask | close | look | holds | right | down
 deriving DecidableEq
def Wo.s:Wo->Str
 | .out=>"out"
 | .ask=>"ask"
 | .close=>"close"
 | .look=>"look"
 | .holds=>"holds"
 | .right=>"right"
 | .down=>"down"
def Wo.d(w:Wo):D:=.str w.s
def wos:List Wo:=[.out,.ask,.close,.look,.holds,.right,.down]
theorem Wo.inj{a b:Wo}(h:a.s=b.s):a=b:=by revert h;ext a <;> ext b <;> decide
structure Dst where
 ma:Option Nat
 cl:Bool
 ws:List Wo
 deriving DecidableEq
abbrev oD:=L3.Nt.oD
def Dst.d(s:Dst):D:=.tup [oD s.ma,.bl s.cl,.tup (s.ws.map Wo.d)]
def step(s:Dst)(i:Nat):Option Dst:=match s.ws[i]? with
 | some .out=>some ⟨some i,s.cl,s.ws.set i .ask⟩
 | some .ask=>some ⟨s.ma,s.cl,s.ws.set i (if s.cl=true then .right else .close)⟩
 | some .close=>some ⟨s.ma,true,s.ws.set i .look⟩
 | some .look=>some ⟨s.ma,s.cl,s.ws.set i (if s.ma=some i then .holds else .down)⟩
 | _=>none
structure DI(n:Nat)(s:Dst):Prop where
 l:s.ws.length=n
 m:∀g,s.ma=some g->g<n
theorem DI.step{s t:Dst}(h:DI n s)(b:i<n)(e:step s i=some t):DI n t:=by
 unfold K92.step at e;split at e
 ·ext e;exact⟨by simp[h.l],λg a=>by ext a;exact b⟩
 ·ext e;exact⟨by simp[h.l],h.m⟩
 ·ext e;exact⟨by simp[h.l],h.m⟩
 ·ext e;exact⟨by simp[h.l],h.m⟩
 ·ext e
def u3:Nat->List (List Wo)
 | 0=>[[]]
 | n+1=>(u3 n).flatMap λr=>wos.map λw=>r++[w]
def B2(n:Nat):List (Option Nat):=none::(List.range n).map some
def all(n:Nat):List Dst:=(B2 n).flatMap λm=>[false,true].flatMap λc=>(u3 n).map λws=>⟨m,c,ws⟩
theorem aN:∀n,(u3 n).length=7 ^ n
 | 0=>rfl
 | n+1=>by
  rw[u3,LA];simp;rw[List.map_const',List.sum_replicate_nat,aN n];show 7 ^ n * 7=_;rw[Nat.pow_succ]
theorem G7:∀n (r:List Wo),r∈u3 n↔r.length=n
 | 0,r=>by simp[u3]
 | n+1,r=>by
  rw[u3,LW];constructor
  ·rintro⟨a,c,b⟩;obtain⟨w,_,rfl⟩:=Ky.mp b;have:=(G7 n a).mp c;simp[this]
  ·intro h;rcases List.eq_nil_or_concat r with rfl | ⟨a,w,rfl⟩
   ·simp at h
   ·refine⟨a,(G7 n a).mpr (by simpa using h),Ky.mpr ⟨w,by ext w <;> decide,by simp⟩⟩
theorem kK:∀n,(u3 n).Nodup
 | 0=>by decide
 | n+1=>by
  rw[u3,List.Nodup,MG];refine⟨λa _=>?_,(kK n).imp λ{a b} c x d y f e=>?_⟩
  ·rw[Nj];exact(show wos.Nodup by decide).imp λ{u v} h e=>h (by simpa using e)
  ·obtain⟨u,_,rfl⟩:=Ky.mp d;obtain⟨v,_,rfl⟩:=Ky.mp f;exact c (List.append_inj' e rfl).1
theorem sU(n:Nat):(B2 n).Nodup:=by
 unfold B2;rw[Ml];refine⟨by simp,?_⟩;rw[List.Nodup,Nj];exact List.nodup_range.imp λ{a b} h e=>h (by simpa using e)
theorem CW(n:Nat):(all n).Nodup:=by
 rw[all,List.Nodup,MG];refine⟨λm _=>?_,(sU n).imp λ{a b} d x f y g e=>?_⟩
 ·rw[MG];refine⟨λc _=>?_,?_⟩
  ·rw[Nj];exact(kK n).imp λ{u v} h e=>h (by simpa using e)
  ·grind
 ·grind
theorem all_mem:s∈all n↔DI n s:=by
 unfold all;simp only[LW,Ky];constructor
 ·rintro⟨m,b,c,_,r,d,rfl⟩;refine⟨(G7 n r).mp d,λg a=>?_⟩;have a:=a;subst a;simpa [B2] using b
 ·rintro⟨f,h⟩;refine⟨s.ma,?_,s.cl,by cases s.cl <;> decide,s.ws,(G7 n _).mpr f,rfl⟩;unfold B2;cases e:s.ma with
  | none=>grind
  | some g=>grind
theorem U9(f:α->Nat)(k:Nat):∀l:List α,(∀a∈l,f a=k)->(l.map f).sum=l.length * k
 | [],_=>by simp
 | a::l,h=>by
  rw[JI,List.sum_cons,U9 f k l λb c=>h b (JE _ c),h a Jy,KL,Nat.succ_mul];omega
theorem xa(n:Nat):(all n).length=(n+1) * (2 * 7 ^ n):=by
 unfold all;rw[LA,U9 _ (2 * 7 ^ n)]
 ·simp[B2]
 ·intro m _;rw[LA,U9 _ (7 ^ n)]
  ·simp
  ·intro c _;rw[Jr,aN]
theorem O4(h:n<=3):(all n).length<=2744:=by
 rw[xa];have:n=0\/n=1\/n=2\/n=3:=by omega
 grind
theorem D8{f:Type}{l:List f}{h:f->D}{g:f->List D}{b:D->List D->M (List D)}{src:Src}{S:Sto}(hs:∀i,src i S=some (l.map h)[i]?)(N:Nat)
  (j:∀a∈l,∀es:List D,es.length+(g a).length<=N->b (h a) es S=.ok (es++g a) S):∀(m i:Nat)(es:List D),i+m=l.length->es.length+((l.drop i).flatMap g).length<=N->lvM src (λ_=>ret true) b (m+1) i es S=.ok (es++(l.drop i).flatMap g) S
 | 0,i,es,e,_=>by
  have:src i S=some none:=by rw[hs,Kn (by rw[Jr];omega)]
  rw[List.drop_eq_nil_of_le ∅,List.flatMap_nil,Kc];show(match src i S with
   | none=>_
   | some none=>_
   | some (some d)=>_)=_
  rw[this]
 | m+1,i,es,e,k=>by
  have c:i<l.length:=by omega
  have o:src i S=some (some (h l[i])):=by rw[hs,JU,Jw c];rfl
  rw[Ma c,MD]at k ⊢;rw[JP]at k;have n:=j l[i] (JX c) es ∅;have p:=D8 hs N j m (i+1) (es++g l[i]) ∅ (by rw[JP];omega);show(match src i S with
   | none=>_
   | some none=>_
   | some (some d)=>_)=_
  rw[o];show bind (b (h l[i]) es) _ S=_;rw[a7 n,p,LN]
theorem ek{a:Type}(l:List a)(h:a->D)(S:Sto):j4 (.lst (l.map h)) S=.ok (A2 (l.map h),l.length+1) S:=by
 show R.ok (A2 _,_+1) S=_;rw[Jr]
theorem R4{a:Type}{l:List a}{h:a->D}(S:Sto)(i:Nat):A2 (l.map h) i S=some (l.map h)[i]?:=rfl
abbrev rD(r:List Wo):D:=.tup (r.map Wo.d)
theorem AF{f:M D}{S:Sto}(e:f S=.ok x S)(hl:es.length+1<=5000):bind f (λy=>if es.length<sizeLine then ret (es++[y])else bad) S=.ok (es++[x]) S:=by
 rw[a7 e,if_pos (by rw[JS];omega)];rfl
theorem dF{b c:Type}(f:b->c)(l:List b):l.flatMap (λa=>[f a])=l.map f:=by
 induction l with
 | nil=>rfl
 | cons a l d=>grind
theorem vh(h:n<=3):(u3 n).length<=343:=by
 rw[aN];have:n=0\/n=1\/n=2\/n=3:=by omega
 grind
theorem nI{n:Nat}(m:n<=3)(k:Nat)(S:Sto):rn (k+1) uT [.int (n:Int)] S=.ok (.lst ((u3 n).map rD)) S:=by
 refine d8 ?_;rw[rn,a9 rfl,ve,wq];refine Ok.first<|Ok.cg (EK ..)<|Ok.nxt<|Ok.cg (EC ..)<|Ok.eq (iF ∅ _)<|Ok.bind ((Ok.loop (λi ρ S'=>S'=S/\∃o,ρ=[some (.int (n:Int)),some (.lst ((u3 i).map rD)),o]) (λρ S' _=>X8 n S') ?_ ⟨rfl,_,rfl⟩).mono ?_)
 ·rintro i ρ S' d ⟨rfl,o,rfl⟩;refine⟨.int (i:Int),_,dC d S',rfl,?_⟩;unfold eY;rw[fk];have l:=vh (n:=i+1) ∅;refine Ok.first<|Ok.cg (mR ..)<|nx_bind<|Ok.eq (ek (u3 i) rD S')<|Ok.of (D8 (g:=λr=>wos.map λw=>rD (r++[w])) (R4 S') 5000 ?_ _ 0 [] ∅ ?_)<|Ok.ret ⟨_,.inl rfl,rfl,some (.int (i:Int)),?_⟩
  ·intro r f es a;have e:=(G7 i r).mp f;rw[Jr]at a;have:=D8 (g:=λw=>[rD (r++[w])]) (b:=λj=>λc=>bind (bind (o9 (rD r) (.tup [j])) λh=>ret h) λx8=>if c.length<sizeLine then ret (c++[x8])else bad) (R4 S') 5000 (λw _ es a=>AF (by
    rw[a7 (cat_tup (by simp[JS,e];omega))];rw[rD,KW];rfl) a) 7 0 es rfl (by rw[KH,dF,Jr];exact a)
   rw[KH,dF]at this;exact this
  ·rw[KH];have:((u3 i).flatMap λr=>wos.map λw=>rD (r++[w])).length=(u3 (i+1)).length:=by
    rw[u3,LA,LA];simp
   rw[this];simp;omega
  ·rw[KH,NE,u3,LX];simp;rfl
 ·rintro _ S' ⟨ρ,rfl,rfl,o,rfl⟩;exact Ok.nxt<|Ok.cg (EH ..)<|Ok.ret ⟨rfl,rfl⟩
theorem Fq(t:n<=3)(S:Sto):lvM (A2 ((B2 n).map oD)) (λ_=>ret true) (λs=>λr=>bind (bind (j4 (.tup [(.bl false),(.bl true)])) λp=>ret p) λk=>lvM k.1 (λo=>ret true) (λo=>λj=>bind (bind (j4 (.lst ((u3 n).map rD))) λd=>ret d) λa=>lvM a.1 (λg=>ret true) (λg=>λf=>bind (ret (.tup [s,o,g])) λi=>if f.length<sizeLine then ret (f++[i])else bad) a.2 0 j) k.2 0 r) ((B2 n).length+1) 0 [] S=.ok ((all n).map Dst.d) S:=by
 have u:=O4 t;have e:(all n).map Dst.d=(B2 n).flatMap λm=>[false,true].flatMap λc=>(u3 n).map λws=>(Dst.mk m c ws).d:=by
  unfold all;rw[LX];congr 1;funext m;rw[LX];congr 1;funext c;rw[Lf];rfl
 have:=D8 (l:=B2 n) (h:=oD) (b:=λs=>λr=>bind (bind (j4 (.tup [(.bl false),(.bl true)])) λp=>ret p) λk=>lvM k.1 (λo=>ret true) (λo=>λj=>bind (bind (j4 (.lst ((u3 n).map rD))) λd=>ret d) λa=>lvM a.1 (λg=>ret true) (λg=>λf=>bind (ret (.tup [s,o,g])) λi=>if f.length<sizeLine then ret (f++[i])else bad) a.2 0 j) k.2 0 r) (R4 S) 5000 (λm _ es q=>?_) (B2 n).length 0 [] ∅ (by rw[KH,<- e,Jr];simp;omega)
 ·grind
 ·have:=D8 (h:=D.bl) (b:=λo=>λj=>bind (bind (j4 (.lst ((u3 n).map rD))) λd=>ret d) λa=>lvM a.1 (λg=>ret true) (λg=>λf=>bind (ret (.tup [oD m,o,g])) λi=>if f.length<sizeLine then ret (f++[i])else bad) a.2 0 j) (R4 S) 5000 (λc _ es q=>?_) 2 0 es rfl q
  ·exact this
  ·rw[a7 (show bind (j4 (.lst ((u3 n).map rD))) (λd=>ret d) S=.ok (A2 ((u3 n).map rD),(u3 n).length+1) S by rw[a7 (ek (u3 n) rD S)];rfl)];have:=D8 (l:=u3 n) (b:=λg=>λf=>bind (ret (.tup [oD m,.bl c,g])) λi=>if f.length<sizeLine then ret (f++[i])else bad) (R4 S) 5000 (λws _ es q=>AF rfl q) (u3 n).length 0 es ∅ (by rw[KH,dF];exact q);rw[KH,dF]at this;exact this
theorem Ha(h:xs.length+ys.length<=sizeLine):o9 (.lst xs) (.lst ys) S=.ok (.lst (xs++ys)) S:=by
 show(if xs.length+ys.length<=sizeLine then ret (.lst (xs++ys))else bad:M D) S=_;rw[if_pos h];rfl
theorem Ch(h:ds.length<=5000):newL ds S=.ok (.ref S.length) (S++[.lst ds]):=by
 unfold newL;rw[if_pos (by rw[JS];omega)]
theorem all_ok{n:Nat}(p:n<=3)(k:Nat)(S:Sto):rn (k+2) AC [.int (n:Int)] S=.ok (.ref S.length) (S++[.lst ((all n).map Dst.d)]):=by
 have y:=O4 p;rw[rn,a9 rfl,DJ];have v:L5 (.int (n:Int)) S=.ok (.lst ((List.range n).map λ(k:Nat)=>.int (k:Int))) S:=by
  have:n=0\/n=1\/n=2\/n=3:=by omega
  rcases this with rfl | rfl | rfl | rfl <;> rfl
 have x:o9 (.lst [.non]) (.lst ((List.range n).map λ(k:Nat)=>.int (k:Int))) S=.ok (.lst ((B2 n).map oD)) S:=by
  rw[Ha (by simp[JS];omega)];unfold B2;rw[JI,Lf];rfl
 have:Ok (bind (L5 (.int (n:Int))) λs=>bind (o9 (.lst [.non]) s) λu=>bind (rn (k+1) uT [.int (n:Int)]) λw=>bind (nx (bind (j4 u) λh=>lvM h.1 (λr=>ret true) (λr=>λt=>bind (bind (j4 (.tup [(.bl false),(.bl true)])) λi=>ret i) λf=>lvM f.1 (λq=>ret true) (λq=>λm=>bind (bind (j4 w) λg=>ret g) λa=>lvM a.1 (λb=>ret true) (λb=>λc=>bind (ret (.tup [r,q,b])) λl=>if c.length<sizeLine then ret (c++[l])else bad) a.2 0 m) f.2 0 t) h.2 0 [])) λo=>bind (newL o) λj=>ret j) S λd S'=>d=.ref S.length/\S'=S++[.lst ((all n).map Dst.d)]:=
  Ok.eq v<|Ok.eq x<|Ok.eq (nI p k S)<|nx_bind<|Ok.eq (ek (B2 n) oD S)<|Ok.of (Fq p S)<|Ok.eq (Ch (by rw[Jr];omega))<|Ok.ret ⟨rfl,rfl⟩
 obtain⟨d,S',e,rfl,rfl⟩:=this;exact e
theorem Ak(k:Nat)(S:Sto):rn (k+1) DU [] S=.ok (.lst (wos.map Wo.d)) S:=by
 rw[rn,a9 rfl,yT];rfl
def bh(mk:Option Nat)(cl:Bool)(i:Nat):Wo->Option (Option Nat×Bool×Str)
 | .out=>some (some i,cl,"ask")
 | .ask=>some (mk,cl,if cl=true then "right" else "close")
 | .close=>some (mk,true,"look")
 | .look=>some (mk,cl,if mk=some i then "holds" else "down")
 | .holds=>none
 | .right=>none
 | .down=>none
def bhD(mk:Option Nat)(cl:Bool)(i:Nat)(w:Wo)(ws:List D):D:=match bh mk cl i w with
 | none=>.non
 | some (m,c,x)=>.tup [oD m,.bl c,.tup (ws.set i (.str x))]
theorem AJ{i:Nat}(h:mk=some i):bh mk cl i .look=some (mk,cl,("holds" : Str)):=by
 show some (mk,cl,if mk=some i then ("holds" : Str)else "down")=_;rw[if_pos h]
theorem zP{i:Nat}(h:mk≠some i):bh mk cl i .look=some (mk,cl,("down" : Str)):=by
 show some (mk,cl,if mk=some i then ("holds" : Str)else "down")=_;rw[if_neg h]
theorem dH{i:Nat}(x:D)(h:i<ds.length)(a:ds.length<=1000)(k:Nat)(S:Sto):rn (k+1) Cs [.tup ds,.int (i:Int),x] S=.ok (.tup (ds.set i x)) S:=by
 rw[rn,a9 rfl,yC];exact d8 (sQ h a)
theorem hG{i:Nat}{w:Wo}{ws:List D}(hw:ws[i]?=some w.d)(hl:ws.length<=6)(hn:bh mk cl i w≠none)(k:Nat)(S:Sto):rn (k+2) aV [.tup [oD mk,.bl cl,.tup ws],.int (i:Int)] S=.ok (bhD mk cl i w ws) S:=by
 have hi:=(Js.mp hw).1;have wa:=λx=>dH x hi ∅ k S;refine d8 ?_;rw[rn,a9 rfl,tE,rR];refine Ok.first<|Ok.cg (FK ..)<|Ok.eq rfl<|Ok.nxt<|Ok.cg (HW ..)<|Ok.eq (g5 S hw)<|Ok.nxt<|Ok.cg (HE ..) ?_;cases w with
 | holds=>exact(hn rfl).elim
 | right=>exact(hn rfl).elim
 | down=>exact(hn rfl).elim
 | out=>exact Ok.eq (a:=.bl false) (by kernel_rfl)<|Ok.eq rfl<|Ok.neg ⋯<|Ok.nxt<|Ok.cg (xl ..)<|Ok.eq rfl<|Ok.eq rfl<|Ok.pos rfl<|Ok.eq (wa _)<|Ok.ret ⟨rfl,rfl⟩
 | ask=>
  refine Ok.eq (S1:=S) (a:=.bl false) (by kernel_rfl)<|Ok.eq rfl<|Ok.neg ⋯<|Ok.nxt<|Ok.cg (xl ..)<|Ok.eq rfl<|Ok.eq rfl<|Ok.neg ⋯<|Ok.nxt<|Ok.cg (Cd ..)<|Ok.eq rfl<|Ok.eq rfl<|Ok.pos rfl<|Ok.eq rfl ?_;cases cl with
  | true=>exact Ok.pos rfl<|Ok.eq (wa _)<|Ok.ret ⟨rfl,rfl⟩
  | false=>exact Ok.neg ⋯<|Ok.eq (wa _)<|Ok.ret ⟨rfl,rfl⟩
 | close=>exact Ok.eq (a:=.bl false) (by kernel_rfl)<|Ok.eq rfl<|Ok.neg ⋯<|Ok.nxt<|Ok.cg (xl ..)<|Ok.eq rfl<|Ok.eq rfl<|Ok.neg ⋯<|Ok.nxt<|Ok.cg (Cd ..)<|Ok.eq rfl<|Ok.eq rfl<|Ok.neg ⋯<|Ok.nxt<|Ok.cg (Hd ..)<|Ok.eq rfl<|Ok.eq rfl<|Ok.pos rfl<|Ok.eq (wa _)<|Ok.ret ⟨rfl,rfl⟩
 | look=>
  have em:b7 .Eq (oD mk) (.int (i:Int)) S=.ok (.bl (decide (mk=some i))) S:=by
   cases mk with
   | none=>exact(show b7 .Eq .non (.int (i:Int)) S=.ok (.bl false) S from rfl).trans (by simp)
   | some g=>
    refine(E8 _ _ S).trans ?_;rw[show decide ((g:Int)=(i:Int))=decide (some g=some i) by simp;omega]
  refine Ok.eq (a:=.bl false) (by kernel_rfl)<|Ok.eq rfl<|Ok.neg ⋯<|Ok.nxt<|Ok.cg (xl ..)<|Ok.eq rfl<|Ok.eq rfl<|Ok.neg ⋯<|Ok.nxt<|Ok.cg (Cd ..)<|Ok.eq rfl<|Ok.eq rfl<|Ok.neg ⋯<|Ok.nxt<|Ok.cg (Hd ..)<|Ok.eq rfl<|Ok.eq rfl<|Ok.neg ⋯<|Ok.nxt<|Ok.cg (Ij ..)<|Ok.eq em<|Ok.eq (h8 _ _) ?_;by_cases q:mk=some i
  ·exact Ok.pos (JQ q)<|Ok.eq (wa _)<|Ok.ret ⟨by unfold bhD;rw[AJ q],rfl⟩
  ·exact Ok.neg (by rw[JR q];decide)<|Ok.eq (wa _)<|Ok.ret ⟨by unfold bhD;rw[zP q],rfl⟩
def iw(s:Dst)(i:Nat):D:=match step s i with
 | some t=>t.d
 | none=>.non
theorem K8{b c:Type}(f:b->c):∀(l:List b)(i:Nat)(x:b),(l.set i x).map f=(l.map f).set i (f x)
 | [],_,_=>rfl
 | a::l,0,x=>rfl
 | a::l,i+1,x=>by rw[List.set_cons_succ,JI,JI,List.set_cons_succ,K8 f l i x]
theorem zw{i:Nat}{w:Wo}(hw:s.ws[i]?=some w):iw s i=bhD s.ma s.cl i w (s.ws.map Wo.d)/\((step s i).isSome=(bh s.ma s.cl i w).isSome):=by
 unfold iw step bhD;rw[hw];cases w with
 | out=>exact⟨by simp only[Dst.d,K8];rfl,rfl⟩
 | ask=>exact⟨by simp only[Dst.d,K8,bh];cases s.cl <;> rfl,rfl⟩
 | close=>exact⟨by simp only[Dst.d,K8];rfl,rfl⟩
 | look=>exact⟨by simp only[Dst.d,K8,bh];split <;> rfl,rfl⟩
 | holds=>exact⟨rfl,rfl⟩
 | right=>exact⟨rfl,rfl⟩
 | down=>exact⟨rfl,rfl⟩
theorem zf{s:Dst}{i:Nat}{w:Wo}(a:s.ws[i]?=some w):(s.ws.map Wo.d)[i]?=some w.d:=n4 a
theorem DI.w{s:Dst}(V:DI n s)(a:i<n):∃w,s.ws[i]?=some w:=⟨_,Jw (by rw[V.l];exact a)⟩
theorem qP{s t:Dst}(V:DI n s)(c:i<n)(d:n<=3)(e:step s i=some t)(k:Nat)(S:Sto):rn (k+2) aV [s.d,.int (i:Int)] S=.ok t.d S:=by
 obtain⟨w,a⟩:=V.w c;obtain⟨b,f⟩:=zw a;have:iw s i=t.d:=by unfold iw;rw[e]
 rw[<- this,b];refine hG (zf a) (by rw[Jr,V.l];omega) (λz=>?_) k S;grind
theorem nH(V:DI n s)(l:n<=3)(k:Nat)(S:Sto):Ok (rn (k+1) FO [s.d]) S λd S'=>d=.lst (((List.range n).filter λj=>(step s j).isSome).map λ(j:Nat)=>.int (j:Int))/\S'=S:=by
 rw[rn,a9 rfl,Db];have c:(s.ws.map Wo.d).length=n:=by rw[Jr,V.l]
 refine nx_bind<|Ok.eq rfl<|Ok.eq (a:=(C4 (s.ws.map Wo.d),n+1)) (by show R.ok (C4 _,_+1) S=_;rw[c])<|((Ok.comp (λi S' es=>S'=S/\es=((List.range i).filter λj=>(step s j).isSome).map λj=>.int (j:Int)) (λS' es _=>by unfold C4;dsimp only;rw[Kn ∅];exact if_pos c.symm) ?_ ⟨rfl,rfl⟩).mono ?_)
 ·rintro i S' es g ⟨rfl,rfl⟩;obtain⟨w,b⟩:=V.w g;have wd:=zf b;refine⟨.tup [.int (i:Int),w.d],by unfold C4;dsimp only;rw[wd],?_⟩;have f:(((List.range i).filter λj=>(step s j).isSome).map λ(j:Nat)=>D.int (j:Int)).length<sizeLine:=by
   rw[Jr,JS];have:=Lo (λj=>(step s j).isSome) (List.range i);rw[MC]at this;omega
  have e:=(zw b).2;rw[iz];have h:b7 .NotIn w.d (.tup [(.str "holds"),(.str "right"),(.str "down")]) S'=.ok (.bl (step s i).isSome) S':=by
   rw[e];ext w <;> kernel_rfl
  refine Ok.eq h<|Ok.eq (h8 _ _)<|Ok.ret ?_;cases q:(step s i).isSome with
  | false=>
   rw[if_neg Jt];exact⟨rfl,by rw[List.range_succ,LJ];simp[q]⟩
  | true=>
   rw[if_pos rfl,gp];exact Ok.ret ⟨f,rfl,by rw[List.range_succ,LJ];simp[q]⟩
 ·rintro es S' ⟨rfl,rfl⟩;exact Ok.ret ⟨rfl,rfl⟩
mutual
theorem AB:∀(d:D){q:PyData},kP d=some q->q=py d
 | .non,_,e=>by ext e;rfl
 | .bl _,_,e=>by ext e;rfl
 | .int _,_,e=>by ext e;rfl
 | .str _,_,e=>by ext e;rfl
 | .tup ds,_,e=>by
  rw[kP]at e;obtain⟨ps,a,rfl⟩:=Ks.mp e;rw[nq ds a];rfl
 | .lst _,_,e=>by ext e
 | .scr _,_,e=>by ext e
 | .ref _,_,e=>by ext e
theorem nq:∀(ds:List D){qs:List PyData},kPs ds=some qs->qs=pys ds
 | [],_,e=>by ext e;rfl
 | d::ds,_,e=>by
  rw[kPs]at e;cases e1:kP d with
  | none=>rw[e1]at e;ext e
  | some p=>
   cases e2:kPs ds with
   | none=>grind
   | some ps=>
    rw[e1,e2]at e;ext e;rw[AB d e1,nq ds e2];rfl
end
theorem sml(V:DI n s)(c:n<=3):Sml 3 600 s.d:=by
 have a:Sml 1 190 (oD s.ma):=by
  cases e:s.ma with
  | none=>exact Sml.non
  | some g=>exact Sml.nat (by have:=V.m g e;omega)
 have b:Sml 1 190 (.tup (s.ws.map Wo.d)):=(Sml.tup (n:=0) (N:=60) (Smls.map λw _=>by ext w <;> exact Sml.w) (by rw[Jr,V.l];exact c)).up;exact(Sml.tup (m:=3) (.cons a (.cons Sml.bl (.cons b .nil))) (Ju _)).mono ⋯ ⋯
def pO:Option Nat->PyData
 | none=>.none
 | some g=>.int (g:Int)
def pW(ws:List Wo):List PyData:=ws.map λw=>.str w.s
def kq(s:Dst):PyData:=.tuple [pO s.ma,.bool s.cl,.tuple (pW s.ws)]
def kS(s:Dst):PyData:=HT.nrmHt (kq s)
theorem zS:∀ws:List Wo,kPs (ws.map Wo.d)=some (pW ws)
 | []=>rfl
 | w::ws=>by rw[JI,kPs,zS ws];rfl
theorem Gh(s:Dst):kP s.d=some (kq s):=by
 unfold Dst.d kq;have a:kP (.tup (s.ws.map Wo.d))=some (.tuple (pW s.ws)):=by rw[kP,zS];rfl
 rw[kP,kPs,kPs,kPs,a];cases s.ma <;> rfl
theorem tL(V:DI n s)(c:n<=3):y0 s.d=some (kS s):=by
 have h:=sml V c;have b:=AB _ (Gh s);have l:=gy s.d h.pl;have a:=aS s.d;have:=h.dp;unfold y0;rw[Gh];rw[<- b]at l a;unfold kq at l a ⊢;dsimp only;rw[if_pos ⟨l,by omega⟩];rfl
theorem pz:∀ws:List Wo,HT.nrmsHt (pW ws)=pW ws
 | []=>rfl
 | w::ws=>by
  show HT.nrmHt (.str w.s)::HT.nrmsHt (pW ws)=_;rw[pz ws];rfl
theorem tJ:∀{a b:List Wo},pW a=pW b->a=b
 | [],[],_=>rfl
 | [],_::_,h=>by ext h
 | _::_,[],h=>by ext h
 | x::a,y::b,h=>by
  have h:PyData.str x.s::pW a=.str y.s::pW b:=h;injection h with h1 h2;injection h1 with h1;rw[Wo.inj h1,tJ h2]
theorem Au(h:kS s=kS t):s=t:=by
 obtain⟨m,c,w⟩:=s;obtain⟨m2,b,d⟩:=t;have h:PyData.tuple [HT.nrmHt (pO m),.int (if c then 1 else 0),.tuple (HT.nrmsHt (pW w))]=.tuple [HT.nrmHt (pO m2),.int (if b then 1 else 0),.tuple (HT.nrmsHt (pW d))]:=h;rw[pz,pz]at h;injection h with h;injection h with a h;injection h with h2 h;injection h with h3 _;injection h3 with h3;injection h2 with h2;have e:=tJ h3;have f:c=b:=by revert h2;ext c <;> ext b <;> decide
 have i:m=m2:=by
  cases m with
  | none=>
   cases m2 with
   | none=>rfl
   | some g=>ext a
  | some g=>
   cases m2 with
   | none=>ext a
   | some j=>
    have a:=a;injection a with a;rw[Int.ofNat_inj.mp a]
 rw[i,f,e]
inductive Fm where
 | at_ (v:Nat) (l:List Wo)
 | mark (v:Nat)
 | free
 | closed
 | no (f:Fm)
 | both (f g:Fm)
 | either (f g:Fm)
def Fm.d:Fm->D
 | .at_ v l=>.tup [.str "at",.int (v:Int),.tup (l.map Wo.d)]
 | .mark v=>.tup [.str "mark",.int (v:Int)]
 | .free=>.tup [.str "free"]
 | .closed=>.tup [.str "closed"]
 | .no f=>.tup [.str "not",f.d]
 | .both f g=>.tup [.str "both",f.d,g.d]
 | .either f g=>.tup [.str "either",f.d,g.d]
def Fm.h:Fm->Nat
 | .no f=>f.h+1
 | .both f g=>max f.h g.h+1
 | .either f g=>max f.h g.h+1
 | _=>1
def Fm.vs(n:Nat):Fm->Prop
 | .at_ v _=>v<n
 | .mark v=>v<n
 | .no f=>f.vs n
 | .both f g=>f.vs n/\g.vs n
 | .either f g=>f.vs n/\g.vs n
 | _=>True
def wAt(ws:List Wo)(i:Nat):Wo:=ws.getD i .out
def Fm.so(mk:Option Nat)(cl:Bool)(ws:List Wo)(hs:List Nat):Fm->Bool
 | .at_ v l=>decide (wAt ws (hs.getD v 0)∈l)
 | .mark v=>decide (mk=some (hs.getD v 0))
 | .free=>mk.isNone
 | .closed=>cl
 | .no f=>!f.so mk cl ws hs
 | .both f g=>f.so mk cl ws hs&&g.so mk cl ws hs
 | .either f g=>f.so mk cl ws hs||g.so mk cl ws hs
def nN(n:Nat):D:=.int (n:Int)
def dec(mk:Option Nat)(cl:Bool)(ws:List Wo):D:=.tup [oD mk,.bl cl,.tup (ws.map Wo.d)]
theorem Wo.asc(w:Wo):Asc w.s:=by
 show ∀c∈w.s.cps.toList,c<128;ext w <;> decide +kernel
theorem AG(l:List Wo):l.map Wo.d=(l.map Wo.s).map D.str:=by rw[Lf];rfl
theorem in7(w:Wo)(l:List Wo)(S:Sto):b7 .In w.d (.tup (l.map Wo.d)) S=.ok (.bl (decide (w∈l))) S:=by
 have s:Sml 0 100 w.d:=by ext w <;> exact Sml.w
 have i:=gz (ws:=l.map Wo.s) (s.any ⋯) ⋯ (λx c=>by
  obtain⟨y,_,rfl⟩:=Ky.mp c;exact y.asc) S
 rw[<- AG]at i;rw[i];congr 2;show decide (w.s∈l.map Wo.s)=_;have d:∀a b:Wo,a.s=b.s->a=b:=by
  intro a b;ext a <;> ext b <;> first | (intro _;rfl) | (intro h;exact absurd h (by decide +kernel))
 grind
theorem ju(mk:Option Nat)(g:Nat)(S:Sto):b7 .Eq (oD mk) (.int (g:Int)) S=.ok (.bl (decide (mk=some g))) S:=by
 cases mk with
 | none=>rfl
 | some h=>
  show R.ok (D.bl (decide ((h:Int)=(g:Int)))) S=_;congr 2;by_cases q:h=g
  ·grind
  ·grind
theorem ze{i:Nat}(h:i<ws.length):ws[i]?=some (wAt ws i):=by unfold wAt;rw[KO,Jw h];rfl
def Wn(w v:Str):Prop:=∀S,b7 .Eq (.str w) (.str v) S=.ok (.bl false) S
def Wy(w:Str):Prop:=∀S,b7 .Eq (.str w) (.str w) S=.ok (.bl true) S
section
variable {mk:Option Nat}{cl:Bool}{ws:List Wo}{hs:List Nat}{w:Str}{xs:List D}{k:Nat}{S:Sto}{Q:D->Sto->Prop}
def sE(mk:Option Nat)(cl:Bool)(ws:List Wo)(hs:List Nat)(w:Str)(xs:List D):L3.Env:=[some (.tup (.str w::xs)),some (dec mk cl ws),some (.tup (hs.map nN)),some (oD mk),some (.bl cl),some (.tup (ws.map Wo.d)),some (.str w)]
def sT(k j:Nat)(e:L3.Env):M D:=nxt (evK Rs Γ (rn k) 40) A1 (([nth says_F.body 2,nth says_F.body 3,nth says_F.body 4,nth says_F.body 5,nth says_F.body 6,nth says_F.body 7,nth says_F.body 8]:List Stmt).drop j) endD (.nx e)
theorem af(h:Ok (sT k 0 (sE mk cl ws hs w xs)) S Q):Ok (rn (k+1) ci [.tup (.str w::xs),dec mk cl ws,.tup (hs.map nN)]) S Q:=by
 rw[rn,a9 rfl,qT,nt];exact Ok.first<|Ok.cg (Cb ..)<|Ok.eq rfl<|Ok.nxt<|Ok.cg (DB ..)<|(Ok.eq (g5 S rfl) (by exact h))
theorem sk2(n:Wn w "at") (h:Ok (sT k 1 (sE mk cl ws hs w xs)) S Q):Ok (sT k 0 (sE mk cl ws hs w xs)) S Q:=Ok.nxt<|Ok.cg (qD ..)<|Ok.eq (n S)<|Ok.eq rfl<|Ok.neg ⋯ h
theorem sk3(n:Wn w "mark") (h:Ok (sT k 2 (sE mk cl ws hs w xs)) S Q):Ok (sT k 1 (sE mk cl ws hs w xs)) S Q:=Ok.nxt<|Ok.cg (qR ..)<|Ok.eq (n S)<|Ok.eq rfl<|Ok.neg ⋯ h
theorem sk4(n:Wn w "free") (h:Ok (sT k 3 (sE mk cl ws hs w xs)) S Q):Ok (sT k 2 (sE mk cl ws hs w xs)) S Q:=Ok.nxt<|Ok.cg (oo ..)<|Ok.eq (n S)<|Ok.eq rfl<|Ok.neg ⋯ h
theorem sk5(n:Wn w "closed") (h:Ok (sT k 4 (sE mk cl ws hs w xs)) S Q):Ok (sT k 3 (sE mk cl ws hs w xs)) S Q:=Ok.nxt<|Ok.cg (oi ..)<|Ok.eq (n S)<|Ok.eq rfl<|Ok.neg ⋯ h
theorem sk6(n:Wn w "not") (h:Ok (sT k 5 (sE mk cl ws hs w xs)) S Q):Ok (sT k 4 (sE mk cl ws hs w xs)) S Q:=Ok.nxt<|Ok.cg (oE ..)<|Ok.eq (n S)<|Ok.eq rfl<|Ok.neg ⋯ h
theorem sk7(n:Wn w "both") (h:Ok (sT k 6 (sE mk cl ws hs w xs)) S Q):Ok (sT k 5 (sE mk cl ws hs w xs)) S Q:=Ok.nxt<|Ok.cg (sY ..)<|Ok.eq (n S)<|Ok.eq rfl<|Ok.neg ⋯ h
end
theorem cI:Wn "mark" "at":=λS=>by kernel_rfl
theorem bp:Wn "free" "at":=λS=>by kernel_rfl
theorem gQ:Wn "free" "mark":=λS=>by kernel_rfl
theorem W8:Wn "closed" "at":=λS=>by kernel_rfl
theorem bZ:Wn "closed" "mark":=λS=>by kernel_rfl
theorem bV:Wn "closed" "free":=λS=>by kernel_rfl
theorem fE:Wn "not" "at":=λS=>by kernel_rfl
theorem jG:Wn "not" "mark":=λS=>by kernel_rfl
theorem iL:Wn "not" "free":=λS=>by kernel_rfl
theorem R1:Wn "not" "closed":=λS=>by kernel_rfl
theorem cY:Wn "both" "at":=λS=>by kernel_rfl
theorem eT:Wn "both" "mark":=λS=>by kernel_rfl
theorem fS:Wn "both" "free":=λS=>by kernel_rfl
theorem M7:Wn "both" "closed":=λS=>by kernel_rfl
theorem aD:Wn "both" "not":=λS=>by kernel_rfl
theorem V9:Wn "either" "at":=λS=>by kernel_rfl
theorem bS:Wn "either" "mark":=λS=>by kernel_rfl
theorem bU:Wn "either" "free":=λS=>by kernel_rfl
theorem E6:Wn "either" "closed":=λS=>by kernel_rfl
theorem P9:Wn "either" "not":=λS=>by kernel_rfl
theorem N1:Wn "either" "both":=λS=>by kernel_rfl
theorem Fk:Wy "at":=λS=>by kernel_rfl
theorem Dc:Wy "mark":=λS=>by kernel_rfl
theorem sj:Wy "free":=λS=>by kernel_rfl
theorem fH:Wy "closed":=λS=>by kernel_rfl
theorem yy:Wy "not":=λS=>by kernel_rfl
theorem qC:Wy "both":=λS=>by kernel_rfl
theorem xp{hs:List Nat}(hh:∀h∈hs,h<ws.length)(S:Sto):∀(f:Fm)(k:Nat),f.vs hs.length->f.h<=k->rn k ci [f.d,dec mk cl ws,.tup (hs.map nN)] S=.ok (.bl (f.so mk cl ws hs)) S:=by
 intro f;have hv:∀v,v<hs.length->(hs.map nN)[v]?=some (.int ((hs.getD v 0:Nat):Int))/\(ws.map Wo.d)[hs.getD v 0]?=some (wAt ws (hs.getD v 0)).d:=λv hv=>by
  have e:hs[v]?=some (hs.getD v 0):=by rw[KO,Jw hv];rfl
  exact⟨n4 e,n4 (ze (hh _ (JL e)))⟩
 induction f with
 | at_ v l=>
  intro k vs hk;obtain⟨k,rfl⟩:∃j,k=j+1:=⟨k-1,by have:1<=k:=hk;omega⟩;obtain⟨h1,h2⟩:=hv v vs;refine d8 ?_;refine af ?_;exact Ok.nxt<|Ok.cg (qD ..)<|Ok.eq (Fk S)<|Ok.eq rfl<|Ok.pos rfl<|Ok.eq (g5 S rfl)<|Ok.eq (g5 S h1)<|Ok.eq (g5 S h2)<|Ok.eq (g5 S rfl)<|Ok.eq (in7 _ l S)<|Ok.ret ⟨rfl,rfl⟩
 | mark v=>
  intro k vs hk;obtain⟨k,rfl⟩:∃j,k=j+1:=⟨k-1,by have:1<=k:=hk;omega⟩;obtain⟨h1,h2⟩:=hv v vs;refine d8 ?_;refine af<|sk2 cI ?_;exact Ok.nxt<|Ok.cg (qR ..)<|Ok.eq (Dc S)<|Ok.eq rfl<|Ok.pos rfl<|Ok.eq (g5 S rfl)<|Ok.eq (g5 S h1)<|Ok.eq (ju mk _ S)<|Ok.ret ⟨rfl,rfl⟩
 | free=>
  intro k vs hk;obtain⟨k,rfl⟩:∃j,k=j+1:=⟨k-1,by have:1<=k:=hk;omega⟩;have e:b7 .Is (oD mk) .non S=.ok (.bl mk.isNone) S:=by ext mk <;> rfl
  refine d8 ?_;refine af<|sk2 bp<|sk3 gQ ?_;exact Ok.nxt<|Ok.cg (oo ..)<|Ok.eq (sj S)<|Ok.eq rfl<|Ok.pos rfl<|Ok.eq e<|Ok.ret ⟨rfl,rfl⟩
 | closed=>
  intro k vs hk;obtain⟨k,rfl⟩:∃j,k=j+1:=⟨k-1,by have:1<=k:=hk;omega⟩;refine d8 ?_;refine af<|sk2 W8<|sk3 bZ<|sk4 bV ?_;exact Ok.nxt<|Ok.cg (oi ..)<|Ok.eq (fH S)<|Ok.eq rfl<|Ok.pos rfl<|Ok.ret ⟨rfl,rfl⟩
 | no f ih=>
  intro k vs hk;obtain⟨k,rfl⟩:∃j,k=j+1:=⟨k-1,by have:f.h+1<=k:=hk;omega⟩;have a:=ih k vs (by have:f.h+1<=k+1:=hk;omega);refine d8 ?_;refine af<|sk2 fE<|sk3 jG<|sk4 iL<|sk5 R1 ?_;exact Ok.nxt<|Ok.cg (oE ..)<|Ok.eq (yy S)<|Ok.eq rfl<|Ok.pos rfl<|Ok.eq (g5 S rfl)<|Ok.eq a<|Ok.eq rfl<|Ok.ret ⟨rfl,rfl⟩
 | both f g ihf ihg=>
  intro k vs hk;have hk:max f.h g.h+1<=k:=hk;obtain⟨k,rfl⟩:∃j,k=j+1:=⟨k-1,by omega⟩;have a:=ihf k vs.1 ∅;have b:=ihg k vs.2 ∅;refine d8 ?_;refine af<|sk2 cY<|sk3 eT<|sk4 fS<|sk5 M7<|sk6 aD ?_;refine Ok.nxt<|Ok.cg (sY ..)<|Ok.eq (qC S)<|Ok.eq rfl<|Ok.pos rfl<|Ok.eq (g5 S rfl)<|Ok.eq a<|Ok.eq rfl ?_;show Ok _ S λd S'=>d=D.bl (f.so mk cl ws hs&&g.so mk cl ws hs)/\S'=S;cases f.so mk cl ws hs with
  | true=>exact Ok.pos rfl<|Ok.eq (g5 S rfl)<|Ok.eq b<|Ok.ret ⟨rfl,rfl⟩
  | false=>exact Ok.neg ⋯<|Ok.ret ⟨rfl,rfl⟩
 | either f g ihf ihg=>
  intro k vs hk;have hk:max f.h g.h+1<=k:=hk;obtain⟨k,rfl⟩:∃j,k=j+1:=⟨k-1,by omega⟩;have a:=ihf k vs.1 ∅;have b:=ihg k vs.2 ∅;refine d8 ?_;refine af<|sk2 V9<|sk3 bS<|sk4 bU<|sk5 E6<|sk6 P9<|sk7 N1 ?_;refine Ok.nxt<|Ok.cg (BZ ..)<|Ok.eq (g5 S rfl)<|Ok.eq a<|Ok.eq rfl ?_;show Ok _ S λd S'=>d=D.bl (f.so mk cl ws hs||g.so mk cl ws hs)/\S'=S;cases f.so mk cl ws hs with
  | true=>exact Ok.pos rfl<|Ok.ret ⟨rfl,rfl⟩
  | false=>exact Ok.neg ⋯<|Ok.eq (g5 S rfl)<|Ok.eq b<|Ok.ret ⟨rfl,rfl⟩
def hD(hs:List Nat):D:=.tup (hs.map nN)
def nsD(l:List (List Nat)):D:=.lst (l.map hD)
def cK(n:Nat):List (List Nat):=(List.range n).map λi=>[i]
def ap(n:Nat):List (List Nat):=(List.range n).flatMap λi=>((List.range n).filter λj=>decide (i≠j)).map λj=>[i,j]
theorem wo{n:Nat}(h:n<=5)(k:Nat)(S:Sto):rn (k+1) Z8 [.str "each",.int (n:Int)] S=.ok (nsD (cK n)) S:=by
 rw[rn,a9 rfl,Y4];have:n=0\/n=1\/n=2\/n=3\/n=4\/n=5:=by omega
 rcases this with rfl | rfl | rfl | rfl | rfl | rfl <;> kernel_rfl
theorem xJ{n:Nat}(h:n<=5)(k:Nat)(S:Sto):rn (k+1) Z8 [.str "some",.int (n:Int)] S=.ok (nsD (cK n)) S:=by
 rw[rn,a9 rfl,Y4];have:n=0\/n=1\/n=2\/n=3\/n=4\/n=5:=by omega
 rcases this with rfl | rfl | rfl | rfl | rfl | rfl <;> kernel_rfl
theorem vR{n:Nat}(h:n<=5)(k:Nat)(S:Sto):rn (k+1) Z8 [.str "pairs",.int (n:Int)] S=.ok (nsD (ap n)) S:=by
 rw[rn,a9 rfl,Y4];have:n=0\/n=1\/n=2\/n=3\/n=4\/n=5:=by omega
 rcases this with rfl | rfl | rfl | rfl | rfl | rfl <;> kernel_rfl
theorem kC(h:hs∈cK n):∃i,i<n/\hs=[i]:=by
 obtain⟨i,hi,rfl⟩:=Ky.mp h;grind
theorem tF(h:hs∈ap n):∃i j,i<n/\j<n/\i≠j/\hs=[i,j]:=by
 obtain⟨i,hi,h⟩:=LW.mp h;grind
theorem IA(h:n<=5):(cK n).length<=25/\(ap n).length<=25:=by
 have:n=0\/n=1\/n=2\/n=3\/n=4\/n=5:=by omega
 rcases this with rfl | rfl | rfl | rfl | rfl | rfl <;> decide +kernel
theorem GQ{w:Str}{q:Bool}{f:Fm}{b:List (List Nat)}{n k:Nat}{S:Sto}(m:b7 .Eq (.str w) (.str "some") S=.ok (.bl q) S) (j:rn (k+1) Z8 [.str w,.int (ws.length:Int)] S=.ok (nsD b) S) (r:b.length<=25) (hs:∀hs∈b,hs.length=n/\∀i∈hs,i<ws.length) (o:f.vs n) (p:f.h<=k+1):rn (k+2) rF [dec mk cl ws,.tup [.str w,f.d]] S=.ok (.bl (if q=true then b.any (λhs=>f.so mk cl ws hs)else b.all λhs=>f.so mk cl ws hs)) S:=by
 refine d8 ?_;rw[rn,a9 rfl,vZ,wf];have g:D2 (.tup (ws.map Wo.d)) S=.ok (.int (ws.length:Int)) S:=(v6 _ S).trans (by rw[Jr]);have c:=i2 (l:=b) (t:=λ_=>ret true) (f:=λh=>bind (rn (k+1) ci [f.d,dec mk cl ws,h]) λx6=>ret x6) (by rw[JS];omega) (λ_ _=>rfl) (λa d _=>by
  obtain⟨e,i⟩:=hs a d;exact a7 (xp i S f (k+1) (by rw[e];exact o) p))
 rw[La.mpr (λ_ _=>rfl),show(b.map λhs=>D.bl (f.so mk cl ws hs))=(b.map λhs=>f.so mk cl ws hs).map D.bl by rw[Lf];rfl]at c;refine Ok.first<|Ok.cg (EN ..)<|Ok.eq rfl ?_;refine Ok.nxt<|Ok.cg (Gc ..)<|nx_bind<|Ok.eq (g5 S rfl)<|Ok.eq g<|Ok.eq j<|Ok.eq rfl ?_;rw[Jr];refine Ok.of c ?_;refine Ok.nxt<|Ok.cg (GR ..)<|Ok.eq m<|Ok.eq (h8 _ _) ?_;cases q with
 | true=>
  refine Ok.pos rfl<|Ok.eq (L3.any_ok _ S)<|Ok.ret ⟨?_,rfl⟩;rw[NB];rfl
 | false=>
  refine Ok.neg ⋯<|Ok.eq (L3.all_ok _ S)<|Ok.ret ⟨?_,rfl⟩;rw[MS];rfl
inductive Sw where
 | each | some_ | pairs | plain
deriving DecidableEq
def Sw.s:Sw->Str
 | .each=>"each"
 | .some_=>"some"
 | .pairs=>"pairs"
 | .plain=>"plain"
def Sw.n:Sw->Nat
 | .each=>1
 | .some_=>1
 | .pairs=>2
 | .plain=>0
structure Sen where
 w:Sw
 f:Fm
def Sen.d(q:Sen):D:=.tup [.str q.w.s,q.f.d]
structure SOk(q:Sen):Prop where
 v:q.f.vs q.w.n
 h:q.f.h<=8
theorem Dq(h:w∈wds):∃o:Wo,w=o.s:=by
 rcases JH.mp h with rfl | h
 ·exact⟨.out,rfl⟩
 rcases JH.mp h with rfl | h
 ·exact⟨.ask,rfl⟩
 rcases JH.mp h with rfl | h
 ·exact⟨.close,rfl⟩
 rcases JH.mp h with rfl | h
 ·exact⟨.look,rfl⟩
 rcases JH.mp h with rfl | h
 ·exact⟨.holds,rfl⟩
 rcases JH.mp h with rfl | h
 ·exact⟨.right,rfl⟩
 rcases JH.mp h with rfl | h
 ·exact⟨.down,rfl⟩
 ext h
theorem qZ:∀{ws:List Str},(∀w∈ws,w∈wds)->∃l:List Wo,ws.map D.str=l.map Wo.d
 | [],_=>⟨[],rfl⟩
 | w::ws,h=>by
  obtain⟨o,e⟩:=Dq (h w Jy);obtain⟨l,b⟩:=qZ λx a=>h x (JE _ a);exact⟨o::l,by rw[JI,JI,b,e];rfl⟩
theorem qU(h:wOk d=true):∃l:List Wo,d=.tup (l.map Wo.d):=by
 unfold wOk at h;split at h
 ·split at h
  ·rename_i ds _ ws e;rw[Jp,JM]at h;obtain⟨l,b⟩:=qZ λw a=>Kb (h.1 w a);exact⟨l,by rw[aE e,b]⟩
  ·ext h
 ·ext h
theorem pf(hv:∀i∈hs,∃v:Nat,i=(v:Int)/\v<n){d:D}(h:one hs d=true):∃v:Nat,d=.int (v:Int)/\v<n:=by
 unfold one at h;grind
theorem y9(h:G4 a b=some m):∃x y,a=some x/\b=some y:=by
 cases a with
 | none=>ext h
 | some x=>cases b with
  | none=>ext h
  | some y=>grind
theorem kI(t:∀i∈hs,∃v:Nat,i=(v:Int)/\v<n):∀(o:Nat)(d:D)(m:Nat),sN hs o d=some m->∃f:Fm,d=f.d/\f.h<=o/\f.vs n
 | 0,_,_,h=>by ext h
 | o+1,d,m,h=>by
  have s:=kI t o;rw[sN]at h;by_cases p:A3 hs d=true
  ·rw[if_pos p]at h;obtain⟨_,y,_,u⟩:=y9 h;clear h;unfold A3 at p;split at p
   ·rename_i w ds;rw[Jp]at p;obtain⟨c,j⟩:=p;have c:=Kb c;refine ke (P:=λw=>nY (sN hs o) (U5 (.tup (.str w::ds)))=some y->iG w=some (ds.length+1)->(if w = "at" then one hs (ds.getD 0 .non)&&wOk (ds.getD 1 .non)else if w = "mark" then one hs (ds.getD 0 .non)else true)=true->∃f:Fm,D.tup (.str w::ds)=f.d/\f.h<=o+1/\f.vs n) ?_ ?_ ?_ ?_ ?_ ?_ ?_ ?_ w u c j
    ·intro _ c j;have c:(3:Nat)=ds.length+1:=by injection c
     match ds,c with
     | [a,b],_=>
      rw[if_pos rfl,Jp]at j;obtain⟨v,e,l⟩:=pf t j.1;obtain⟨ws,k⟩:=qU j.2;have e:a=.int (v:Int):=e;have k:b=.tup (ws.map Wo.d):=k;exact⟨.at_ v ws,by rw[e,k];rfl,Lj (Kg _),l⟩
    ·intro _ c j;have c:(2:Nat)=ds.length+1:=by injection c
     match ds,c with
     | [a],_=>
      rw[if_neg (by decide +kernel),if_pos rfl]at j;obtain⟨v,e,l⟩:=pf t j;have e:a=.int (v:Int):=e;exact⟨.mark v,by rw[e];rfl,Lj (Kg _),l⟩
    ·intro _ c j;have c:(1:Nat)=ds.length+1:=by injection c
     match ds,c with
     | [],_=>exact⟨.free,rfl,Lj (Kg _),True.intro⟩
    ·intro _ c j;have c:(1:Nat)=ds.length+1:=by injection c
     match ds,c with
     | [],_=>exact⟨.closed,rfl,Lj (Kg _),True.intro⟩
    ·intro r c j;have c:(2:Nat)=ds.length+1:=by injection c
     match ds,c with
     | [a],_=>
      obtain⟨x,_,q,_⟩:=y9 (r);obtain⟨f,e,l,v⟩:=s a x q;exact⟨.no f,by rw[e];rfl,Lj l,v⟩
    ·intro r c j;have c:(3:Nat)=ds.length+1:=by injection c
     match ds,c with
     | [a,b],_=>
      obtain⟨x,z,q,k⟩:=y9 (r);obtain⟨A,_,k,_⟩:=y9 k;obtain⟨f,e,l,v⟩:=s a x q;obtain⟨g,C,E,B⟩:=s b A k;exact⟨.both f g,by rw[e,C];rfl,Lj (Nat.max_le.mpr ⟨l,E⟩),v,B⟩
    ·intro r c j;have c:(3:Nat)=ds.length+1:=by injection c
     match ds,c with
     | [a,b],_=>
      obtain⟨x,z,q,k⟩:=y9 (r);obtain⟨A,_,k,_⟩:=y9 k;obtain⟨f,e,l,v⟩:=s a x q;obtain⟨g,C,E,B⟩:=s b A k;exact⟨.either f g,by rw[e,C];rfl,Lj (Nat.max_le.mpr ⟨l,E⟩),v,B⟩
    ·intro w F L G I H J K _ c _;unfold iG at c;rw[if_neg F,if_neg L,if_neg G,if_neg I,if_neg H,if_neg J,if_neg K]at c;ext c
   ·ext p
  ·grind
theorem Dm(h:Z7 d=true):∃q:Sen,d=q.d/\SOk q:=by
 unfold Z7 at h;split at h
 ·rename_i w x;revert h;have b:∀(u:Sw)(hs:List Int),cz u.s=some hs->(∀i∈hs,∃v:Nat,i=(v:Int)/\v<u.n)->(match cz u.s with
    | some hs=>few 0 (sN hs 8 x)
    | none=>false)=true->∃q:Sen,D.tup [.str u.s,x]=q.d/\SOk q:=λu hs e n h=>by
   rw[e]at h;dsimp only at h;cases c:sN hs 8 x with
   | none=>rw[c]at h;ext h
   | some m=>
    obtain⟨f,g,l,v⟩:=kI n 8 x m c;exact⟨⟨u,f⟩,by rw[g];rfl,v,l⟩
  refine jt (P:=λw=>(match cz w with
    | some hs=>few 0 (sN hs 8 x)
    | none=>false)=true->∃q:Sen,D.tup [.str w,x]=q.d/\SOk q) ?_ ?_ ?_ ?_ ?_ w
  ·exact b .each [0] rfl λi a=>⟨0,by simpa using a,Nat.zero_lt_one⟩
  ·exact b .some_ [0] rfl λi a=>⟨0,by simpa using a,Nat.zero_lt_one⟩
  ·refine b .pairs [0,1] rfl λi a=>?_;rcases JH.mp a with rfl | a
   ·exact⟨0,rfl,Nat.zero_lt_two⟩
   ·exact⟨1,by simpa using a,Nat.one_lt_two⟩
  ·exact b .plain [] rfl λi a=>by ext a
  ·intro w k p o j h;rw[ji k p o j]at h;ext h
 ·ext h
def hm(w:Sw)(n:Nat):List (List Nat):=match w with
 | .plain=>[[]]
 | .pairs=>ap n
 | _=>cK n
def Sen.so(q:Sen)(s:Dst):Bool:=if decide (q.w=.some_)=true then (hm q.w s.ws.length).any (λhs=>q.f.so s.ma s.cl s.ws hs)else (hm q.w s.ws.length).all λhs=>q.f.so s.ma s.cl s.ws hs
theorem rh(w:Sw){n:Nat}(h:n<=3)(k:Nat)(S:Sto):rn (k+1) Z8 [.str w.s,.int (n:Int)] S=.ok (nsD (hm w n)) S:=by
 cases w with
 | each=>exact wo ∅ k S
 | some_=>exact xJ ∅ k S
 | pairs=>exact vR ∅ k S
 | plain=>
  rw[rn,a9 rfl,Y4];kernel_rfl
theorem zr:∀hs∈hm w n,hs.length=w.n/\∀i∈hs,i<n:=λhs h=>by
 cases w with
 | plain=>
  cases JK.mp h;exact⟨rfl,λi hi=>by cases hi⟩
 | pairs=>
  obtain⟨i,j,hi,hj,_,rfl⟩:=tF h;refine⟨rfl,λx hx=>?_⟩;rcases JH.mp hx with rfl | hx
  ·exact hi
  ·grind
 | each=>
  obtain⟨i,hi,rfl⟩:=kC h;exact⟨rfl,λx hx=>by rw[JK.mp hx];exact hi⟩
 | some_=>
  obtain⟨i,hi,rfl⟩:=kC h;exact⟨rfl,λx hx=>by rw[JK.mp hx];exact hi⟩
theorem pM(w:Sw){n:Nat}(h:n<=3):(hm w n).length<=25:=by
 have:=IA (n:=n) ∅;cases w with
 | plain=>exact KD rfl
 | pairs=>exact this.2
 | each=>exact this.1
 | some_=>exact this.1
theorem wX(a:SOk q){s:Dst}(b:s.ws.length<=3)(k:Nat)(S:Sto):rn (k+9) rF [s.d,q.d] S=.ok (.bl (q.so s)) S:=
 GQ (by cases q with | mk w f=>ext w <;> kernel_rfl) (rh q.w b _ S) (pM q.w b) zr a.v (JW a.h (Nat.le_add_left 8 k))
theorem eQ(S:Sto):b7 .In (.str "mark") (.tup [(.str "mark"),(.str "free")]) S=.ok (.bl true) S/\b7 .In (.str "free") (.tup [(.str "mark"),(.str "free")]) S=.ok (.bl true) S:=by constructor <;> kernel_rfl
theorem kl(S:Sto):b7 .In (.str "closed") (.tup [(.str "mark"),(.str "free")]) S=.ok (.bl false) S/\b7 .In (.str "not") (.tup [(.str "mark"),(.str "free")]) S=.ok (.bl false) S/\b7 .In (.str "both") (.tup [(.str "mark"),(.str "free")]) S=.ok (.bl false) S/\b7 .In (.str "either") (.tup [(.str "mark"),(.str "free")]) S=.ok (.bl false) S:=by refine⟨?_,?_,?_,?_⟩ <;> kernel_rfl
theorem zm(a b:Bool)(S:Sto):b7 .In (.bl true) (.lst [.bl a,.bl b]) S=.ok (.bl (a||b)) S/\b7 .NotIn (.bl false) (.lst [.bl a,.bl b]) S=.ok (.bl (a&&b)) S:=by ext a <;> ext b <;> constructor <;> kernel_rfl
theorem Bm{hs:List Nat}(hh:∀h∈hs,h<ws.length)(S:Sto):∀(f:Fm)(k:Nat),f.vs hs.length->f.h<=k->rn k aR [f.d,dec mk cl ws,.tup (hs.map nN)] S=.ok (.bl (f.so mk cl ws hs)) S:=by
 intro f;have hv:∀v,v<hs.length->(hs.map nN)[v]?=some (.int ((hs.getD v 0:Nat):Int))/\(ws.map Wo.d)[hs.getD v 0]?=some (wAt ws (hs.getD v 0)).d:=λv hv=>by
  have e:hs[v]?=some (hs.getD v 0):=by rw[KO,Jw hv];rfl
  exact⟨n4 e,n4 (ze (hh _ (JL e)))⟩
 induction f with
 | at_ v l=>
  intro k vs hk;obtain⟨k,rfl⟩:∃j,k=j+1:=⟨k-1,by have:1<=k:=hk;omega⟩;obtain⟨h1,h2⟩:=hv v vs;refine d8 ?_;rw[rn,a9 rfl,E3];exact Ok.eq (g5 S rfl)<|Ok.eq (Fk S)<|Ok.eq rfl<|Ok.pos rfl<|Ok.eq (g5 S rfl)<|Ok.eq (g5 S rfl)<|Ok.eq (g5 S h1)<|Ok.eq (g5 S h2)<|Ok.eq (g5 S rfl)<|Ok.eq (in7 _ l S)<|Ok.ret ⟨rfl,rfl⟩
 | mark v=>
  intro k vs hk;obtain⟨k,rfl⟩:∃j,k=j+1:=⟨k-1,by have:1<=k:=hk;omega⟩;obtain⟨h1,h2⟩:=hv v vs;refine d8 ?_;rw[rn,a9 rfl,E3];refine Ok.eq (g5 S rfl)<|Ok.eq (cI S)<|Ok.eq rfl<|Ok.neg ⋯<|Ok.eq (eQ S).1<|Ok.eq rfl<|Ok.pos rfl<|Ok.eq (show b7 .Eq (.str "mark") (.str "free") S=.ok (.bl false) S by kernel_rfl)<|Ok.eq rfl<|Ok.neg ⋯<|Ok.eq (g5 S rfl) ?_;cases mk with
  | none=>exact Ok.eq rfl<|Ok.eq rfl<|Ok.neg ⋯<|Ok.ret ⟨rfl,rfl⟩
  | some g=>exact Ok.eq rfl<|Ok.eq rfl<|Ok.pos rfl<|Ok.eq (g5 S rfl)<|Ok.eq (g5 S rfl)<|Ok.eq (g5 S h1)<|Ok.eq (ju (some g) _ S)<|Ok.ret ⟨rfl,rfl⟩
 | free=>
  intro k vs hk;obtain⟨k,rfl⟩:∃j,k=j+1:=⟨k-1,by have:1<=k:=hk;omega⟩;have e:b7 .Is (oD mk) .non S=.ok (.bl mk.isNone) S:=by ext mk <;> rfl
  refine d8 ?_;rw[rn,a9 rfl,E3];exact Ok.eq (g5 S rfl)<|Ok.eq (bp S)<|Ok.eq rfl<|Ok.neg ⋯<|Ok.eq (eQ S).2<|Ok.eq rfl<|Ok.pos rfl<|Ok.eq (sj S)<|Ok.eq rfl<|Ok.pos rfl<|Ok.eq (g5 S rfl)<|Ok.eq e<|Ok.ret ⟨rfl,rfl⟩
 | closed=>
  intro k vs hk;obtain⟨k,rfl⟩:∃j,k=j+1:=⟨k-1,by have:1<=k:=hk;omega⟩;refine d8 ?_;rw[rn,a9 rfl,E3];exact Ok.eq (g5 S rfl)<|Ok.eq (W8 S)<|Ok.eq rfl<|Ok.neg ⋯<|Ok.eq (kl S).1<|Ok.eq rfl<|Ok.neg ⋯<|Ok.eq (fH S)<|Ok.eq rfl<|Ok.pos rfl<|Ok.eq (g5 S rfl)<|Ok.ret ⟨rfl,rfl⟩
 | no f ih=>
  intro k vs hk;obtain⟨k,rfl⟩:∃j,k=j+1:=⟨k-1,by have:f.h+1<=k:=hk;omega⟩;have a:=ih k vs (by have:f.h+1<=k+1:=hk;omega);have c:=i2 (l:=[f]) (g:=λf=>D.bl (f.so mk cl ws hs)) (t:=λ_=>ret true) (f:=λd1=>bind (rn k aR [d1,dec mk cl ws,.tup (hs.map nN)]) λx6=>ret x6) (by rw[JS];exact KD rfl) (λ_ _=>rfl) (λx hx _=>by
   rw[JK.mp hx];exact a7 a)
  refine d8 ?_;rw[rn,a9 rfl,E3];refine Ok.eq (g5 S rfl)<|Ok.eq (fE S)<|Ok.eq rfl<|Ok.neg ⋯<|Ok.eq (kl S).2.1<|Ok.eq rfl<|Ok.neg ⋯<|Ok.eq (R1 S)<|Ok.eq rfl<|Ok.neg ⋯<|nx_bind<|Ok.eq rfl<|Ok.eq rfl<|Ok.of c ?_;exact Ok.eq (yy S)<|Ok.eq rfl<|Ok.pos rfl<|Ok.eq rfl<|Ok.eq rfl<|Ok.ret ⟨rfl,rfl⟩
 | both f g ihf ihg=>
  intro k vs hk;have hk:max f.h g.h+1<=k:=hk;obtain⟨k,rfl⟩:∃j,k=j+1:=⟨k-1,by omega⟩;have a:=ihf k vs.1 ∅;have b:=ihg k vs.2 ∅;have c:=i2 (l:=[f,g]) (g:=λf=>D.bl (f.so mk cl ws hs)) (t:=λ_=>ret true) (f:=λd1=>bind (rn k aR [d1,dec mk cl ws,.tup (hs.map nN)]) λx6=>ret x6) (by rw[JS];exact KD rfl) (λ_ _=>rfl) (λx hx _=>by
   rcases JH.mp hx with rfl | hx
   ·exact a7 a
   ·rw[JK.mp hx];exact a7 b)
  refine d8 ?_;rw[rn,a9 rfl,E3];refine Ok.eq (g5 S rfl)<|Ok.eq (cY S)<|Ok.eq rfl<|Ok.neg ⋯<|Ok.eq (kl S).2.2.1<|Ok.eq rfl<|Ok.neg ⋯<|Ok.eq (M7 S)<|Ok.eq rfl<|Ok.neg ⋯<|nx_bind<|Ok.eq rfl<|Ok.eq rfl<|Ok.of c ?_;exact Ok.eq (aD S)<|Ok.eq rfl<|Ok.neg ⋯<|Ok.eq (qC S)<|Ok.eq rfl<|Ok.pos rfl<|Ok.eq (zm _ _ S).2<|Ok.ret ⟨rfl,rfl⟩
 | either f g ihf ihg=>
  intro k vs hk;have hk:max f.h g.h+1<=k:=hk;obtain⟨k,rfl⟩:∃j,k=j+1:=⟨k-1,by omega⟩;have a:=ihf k vs.1 ∅;have b:=ihg k vs.2 ∅;have c:=i2 (l:=[f,g]) (g:=λf=>D.bl (f.so mk cl ws hs)) (t:=λ_=>ret true) (f:=λd1=>bind (rn k aR [d1,dec mk cl ws,.tup (hs.map nN)]) λx6=>ret x6) (by rw[JS];exact KD rfl) (λ_ _=>rfl) (λx hx _=>by
   rcases JH.mp hx with rfl | hx
   ·exact a7 a
   ·rw[JK.mp hx];exact a7 b)
  refine d8 ?_;rw[rn,a9 rfl,E3];refine Ok.eq (g5 S rfl)<|Ok.eq (V9 S)<|Ok.eq rfl<|Ok.neg ⋯<|Ok.eq (kl S).2.2.2<|Ok.eq rfl<|Ok.neg ⋯<|Ok.eq (E6 S)<|Ok.eq rfl<|Ok.neg ⋯<|nx_bind<|Ok.eq rfl<|Ok.eq rfl<|Ok.of c ?_;exact Ok.eq (P9 S)<|Ok.eq rfl<|Ok.neg ⋯<|Ok.eq (N1 S)<|Ok.eq rfl<|Ok.neg ⋯<|Ok.eq (zm _ _ S).1<|Ok.ret ⟨rfl,rfl⟩
theorem yN{n:Nat}(h:n<=3)(S:Sto):(bind (y4 [.int (n:Int)]) λa=>g7 a.1 (λb=>ret true) (λb=>ret (.tup [b])) a.2 0 []) S=.ok ((cK n).map hD) S:=by
 have:n=0\/n=1\/n=2\/n=3:=by omega
 rcases this with rfl | rfl | rfl | rfl <;> kernel_rfl
theorem yV{n:Nat}(h:n<=3)(S:Sto):(bind (C3 (.int (n:Int)) (.int (n:Int))) λx5=>bind (y4 [x5]) λb=>g7 b.1 (λa=>bind (B0 a (.int (n:Int))) λx7=>bind (O0 a (.int (n:Int))) λx8=>bind (b7 .NotEq x7 x8) λf=>bind (asB f) λc=>ret c) (λa=>bind (B0 a (.int (n:Int))) λe=>bind (O0 a (.int (n:Int))) λd=>ret (.tup [e,d])) b.2 0 []) S=.ok ((ap n).map hD) S:=by
 have:n=0\/n=1\/n=2\/n=3:=by omega
 rcases this with rfl | rfl | rfl | rfl <;> kernel_rfl
theorem kR(k:Nat)(S:Sto):∀a:List Bool,e9 (i8 (k+1) S) (a.map D.bl)=some (a.map PyData.bool)
 | []=>rfl
 | b::a=>by
  show e9 (i8 (k+1) S) (D.bl b::a.map D.bl)=_;simp only[e9,kR k S a];rfl
theorem jE:∀a:List Bool,PyData.canLayAll0 (a.map PyData.bool)=true
 | []=>rfl
 | b::a=>by simp only[JI,PyData.canLayAll0,PyData.canLay0,jE a,MK]
theorem iN:∀a:List Bool,PyData.depthAll (a.map PyData.bool)=0
 | []=>rfl
 | b::a=>by simp[PyData.depthAll,PyData.depth,iN a]
theorem qY(v:Bool)(c:List Bool)(S:Sto):b7 .In (.bl v) (.lst (c.map D.bl)) S=.ok (.bl (c.any λb=>b==v)) S/\b7 .NotIn (.bl v) (.lst (c.map D.bl)) S=.ok (.bl (!c.any λb=>b==v)) S:=by
 have e:i8 64 S (.lst (c.map D.bl))=some (.list (c.map PyData.bool)):=by
  show(e9 (i8 63 S) (c.map D.bl)).map PyData.list=_;rw[kR 62 S c];rfl
 have a:((c.map PyData.bool).any λy=>PyData.eqv y (.bool v))=c.any λb=>b==v:=by
  rw[NB];refine congrArg (List.any c) (funext λb=>?_);ext b <;> ext v <;> rfl
 constructor
 ·show inD false (.bl v) (.lst (c.map D.bl)) S=_;unfold inD;rw[e];show bT false (.bool v) (c.map PyData.bool) S=_;unfold bT;rw[if_pos ⟨rfl,jE c,by rw[iN];exact JW (Nat.min_le_left _ _) (Kg _)⟩,a];rfl
 ·show inD true (.bl v) (.lst (c.map D.bl)) S=_;unfold inD;rw[e];show bT true (.bool v) (c.map PyData.bool) S=_;unfold bT;rw[if_pos ⟨rfl,jE c,by rw[iN];exact JW (Nat.min_le_left _ _) (Kg _)⟩,a];rfl
theorem xK(a:List Bool):(!a.any λb=>b==false)=a.all id:=by grind
theorem yW(a:List Bool):(a.any λb=>b==true)=a.any id:=by grind
theorem Co(ok:SOk q){s:Dst}(h3:s.ws.length<=3)(k:Nat)(S:Sto):rn (k+9) sw [s.d,q.d] S=.ok (.bl (q.so s)) S:=by
 obtain⟨w,f⟩:=q;refine d8 ?_;rw[rn,a9 rfl,xB,vU];have l1:D2 (.tup (s.ws.map Wo.d)) S=.ok (.int (s.ws.length:Int)) S:=(v6 _ S).trans (by rw[Jr]);have c:=i2 (l:=hm w s.ws.length) (t:=λ_=>ret true) (f:=λd1=>bind (ixD (Sen.mk w f).d (.int 1)) λx3=>bind (rn (k+8) aR [x3,s.d,d1]) λx4=>ret x4) (by rw[JS];have:=pM w h3;omega) (λ_ _=>rfl) (λa ha _=>by
  obtain⟨e,i⟩:=zr a ha;exact(a7 (g5 S rfl)).trans (a7 (Bm i S f (k+8) (by rw[e];exact ok.v) (JW ok.h (Nat.le_add_left 8 k)))))
 rw[La.mpr (λ_ _=>rfl),show((hm w s.ws.length).map λhs=>D.bl (f.so s.ma s.cl s.ws hs))=((hm w s.ws.length).map λhs=>f.so s.ma s.cl s.ws hs).map D.bl by rw[Lf];rfl]at c;have go:∀tr,Ok (nxt (evK Rs Γ (rn (k+8)) 40) W0 [nth soL_F.body 4,nth soL_F.body 5] endD (.nx [some s.d,some (Sen.mk w f).d,some (.int (s.ws.length:Int)),some (.lst ((hm w s.ws.length).map hD)),tr])) S λd S'=>d=.bl ((Sen.mk w f).so s)/\S'=S:=λtr=>by
  refine Ok.nxt<|Ok.cg (Em ..)<|nx_bind<|Ok.eq rfl ?_;rw[Jr];refine Ok.of c ?_;refine Ok.nxt<|Ok.cg (EA ..)<|Ok.eq (g5 S rfl)<|Ok.eq (show b7 .Eq (.str w.s) (.str "some") S=.ok (.bl (decide (w=.some_))) S by ext w <;> kernel_rfl)<|Ok.eq (h8 _ _) ?_;unfold Sen.so;cases q:decide (w=.some_) with
  | true=>
   refine Ok.pos rfl<|Ok.eq (qY true _ S).1<|Ok.ret ⟨?_,rfl⟩;rw[yW,NB];rfl
  | false=>
   refine Ok.neg ⋯<|Ok.eq (qY false _ S).2<|Ok.ret ⟨?_,rfl⟩;rw[xK,MS];rfl
 refine Ok.first<|Ok.cg (Fp ..)<|Ok.eq (g5 S rfl)<|Ok.eq l1 ?_;refine Ok.nxt<|Ok.cg (Hg ..)<|nx_bind<|Ok.of (yN h3 S) ?_;refine Ok.nxt<|Ok.cg (Fb ..)<|Ok.eq (g5 S rfl) ?_;cases w with
 | plain=>
  refine Ok.eq (show b7 .Eq (.str "plain") (.str "plain") S=.ok (.bl true) S by kernel_rfl)<|Ok.eq rfl<|Ok.pos rfl ?_;refine Ok.nxt<|Ok.cg (kJ ..)<|Ok.eq (g5 S rfl)<|Ok.eq (show b7 .Eq (.str "plain") (.str "pairs") S=.ok (.bl false) S by kernel_rfl)<|Ok.eq rfl<|Ok.neg ⋯ (go _)
 | pairs=>
  refine Ok.eq (show b7 .Eq (.str "pairs") (.str "plain") S=.ok (.bl false) S by kernel_rfl)<|Ok.eq rfl<|Ok.neg ⋯ ?_;refine Ok.nxt<|Ok.cg (kJ ..)<|Ok.eq (g5 S rfl)<|Ok.eq (show b7 .Eq (.str "pairs") (.str "pairs") S=.ok (.bl true) S by kernel_rfl)<|Ok.eq rfl<|Ok.pos rfl<|nx_bind<|Ok.of (yV h3 S) (go _)
 | each=>
  refine Ok.eq (show b7 .Eq (.str "each") (.str "plain") S=.ok (.bl false) S by kernel_rfl)<|Ok.eq rfl<|Ok.neg ⋯ ?_;refine Ok.nxt<|Ok.cg (kJ ..)<|Ok.eq (g5 S rfl)<|Ok.eq (show b7 .Eq (.str "each") (.str "pairs") S=.ok (.bl false) S by kernel_rfl)<|Ok.eq rfl<|Ok.neg ⋯ (go _)
 | some_=>
  refine Ok.eq (show b7 .Eq (.str "some") (.str "plain") S=.ok (.bl false) S by kernel_rfl)<|Ok.eq rfl<|Ok.neg ⋯ ?_;refine Ok.nxt<|Ok.cg (kJ ..)<|Ok.eq (g5 S rfl)<|Ok.eq (show b7 .Eq (.str "some") (.str "pairs") S=.ok (.bl false) S by kernel_rfl)<|Ok.eq rfl<|Ok.neg ⋯ (go _)
def j8(ps:List Sen)(s:Dst):Option Nat:=ps.findIdx? λq=>!q.so s
def paD(ps:List Sen):D:=.tup (ps.map Sen.d)
theorem nW{i:Nat}{q:Sen}(a:∀j q,j<i->ps[j]?=some q->q.so s=true)(e:ps[i]?=some q)(h:q.so s=false):j8 ps s=some i:=by
 obtain⟨l,e⟩:=Js.mp e;refine Lp.mpr ⟨l,by rw[e,h];rfl,λj hj=>?_⟩;grind
theorem tS(a:∀j q,j<ps.length->ps[j]?=some q->q.so s=true):j8 ps s=none:=by
 refine Mb.mpr λq c=>?_;obtain⟨j,b,e⟩:=Me c;rw[a j q b (by rw[Jw b,e])];rfl
theorem gA(h:j8 ps s=some i):i<ps.length:=(Lp.mp h).1
theorem wz{ps:List Sen}{i:Nat}{q:Sen}(e:ps[i]?=some q)(S:Sto):C4 (ps.map Sen.d) i S=some (some (.tup [.int (i:Int),q.d])):=by
 unfold C4;rw[n4 e]
theorem uH(ps:List Sen)(S:Sto):C4 (ps.map Sen.d) ps.length S=some none:=by
 unfold C4;grind
section
variable {ps:List Sen}(ok:∀q∈ps,SOk q){s:Dst}(h3:s.ws.length<=3)
include ok h3
theorem uG(k:Nat)(S:Sto):rn (k+10) iO [paD ps,s.d] S=.ok (oD (j8 ps s)) S:=by
 refine d8 ?_;rw[rn,a9 rfl,yr,yY];refine Ok.first<|Ok.cg (Er ..)<|Ok.eq rfl<|Ok.bind ?_;rw[Jr];refine(Ok.for_ (λi ρ S'=>(∀j q,j<i->ps[j]?=some q->q.so s=true)/\(∃o2 o3,ρ=[some (paD ps),some s.d,o2,o3])/\S'=S) (λ_ _=>False) (λd S'=>d=oD (j8 ps s)/\S'=S) (λρ S' h=>uH ps S') (λi ρ S' hi h=>?_) ps.length 0 _ S (Nat.add_zero _) ⟨λj q hj=>absurd hj (Nat.not_lt_zero _),⟨_,_,rfl⟩,rfl⟩).mono ?_
 ·obtain⟨a,⟨o2,o3,rfl⟩,rfl⟩:=h;have e:=Jw hi;refine⟨_,_,wz e S',rfl,?_⟩;unfold gj;rw[fm];refine Ok.first<|Ok.cg (mH ..)<|Ok.eq (wX (ok _ (JX hi)) h3 k S')<|Ok.eq (W3 _ _) ?_;cases q:(ps[i]).so s with
  | false=>exact Ok.pos rfl<|Ok.ret ⟨by rw[nW a e q];rfl,rfl⟩
  | true=>
   refine Ok.neg ⋯<|Ok.ret ⟨λj x hj ex=>?_,⟨_,_,rfl⟩,rfl⟩;rcases Nat.lt_succ_iff_lt_or_eq.mp hj with hj | rfl
   ·exact a j x hj ex
   ·grind
 ·rintro fl S' h;cases fl with
  | nx ρ=>
   rcases h with ⟨a,⟨o2,o3,rfl⟩,rfl⟩ | h
   ·exact Ok.nxt<|Ok.cg (FA ..)<|Ok.ret ⟨by rw[tS a];rfl,rfl⟩
   ·exact h.elim
  | rt d=>exact Ok.ret h
  | ct _=>exact h.elim
  | bk _=>exact h.elim
end
def shp:D->Option Nat
 | .tup ds=>if 12<ds.length then some 0 else ds.findIdx? λd=>!Z7 d
 | _=>some 0
def noP(w:Str)(i:Nat):O:=.exc 2 [("word",.str w),("at",.int (i:Int))]
def Xs(w:Str)(i:Nat)(S:Sto):Nat->Sto->Prop:=λn S'=>S'[n]?=some (noP w i)/\Ex S S'
theorem CA(h:shp d=none):∃ps:List Sen,d=paD ps/\(∀q∈ps,SOk q)/\ps.length<=12:=by
 unfold shp at h;split at h
 ·rename_i ds;by_cases l:12<ds.length
  ·grind
  ·rw[if_neg l]at h;have a:=Mb.mp h;have i:∀ds:List D,(∀d∈ds,(!Z7 d)=false)->∃ps:List Sen,ds=ps.map Sen.d/\∀q∈ps,SOk q:=by
    intro ds;induction ds with
    | nil=>simp_all
    | cons d ds f=>
     intro a;obtain⟨ps,e,o⟩:=f λx b=>a x (JE _ b);obtain⟨q,g,c⟩:=Dm (by simpa using a d Jy);refine⟨q::ps,by rw[e,g];rfl,λx b=>?_⟩;rcases JH.mp b with rfl | b
     ·exact c
     ·exact o x b
   obtain⟨ps,e,o⟩:=i ds a;refine⟨ps,by rw[e];rfl,o,?_⟩;rw[e,Jr]at l;omega
 ·ext h
theorem Gs{w:Str}{i:Nat}(S:Sto)(c:w = "shape"\/w = "first"\/w = "step") (d:i<=12):[D.str w,.int (i:Int)].all (w5 S)=true:=by
 have a:w5 S (.str w)=true:=by rcases c with rfl | rfl | rfl <;> kernel_rfl
 have b:w5 S (.int (i:Int))=true:=by
  have:i=0\/i=1\/i=2\/i=3\/i=4\/i=5\/i=6\/i=7\/i=8\/i=9\/i=10\/i=11\/i=12:=by omega
  rcases this with rfl | rfl | rfl | rfl | rfl | rfl | rfl | rfl | rfl | rfl | rfl | rfl | rfl <;> kernel_rfl
 grind
theorem raise_p{w:Str}{i:Nat}{S S':Sto}{κ:Fl->M α}(a:w = "shape"\/w = "first"\/w = "step") (b:i<=12) (c:Ex S S'):Xn (L3.bind (D5 2 ["word","at"] [.str w,.int (i:Int)]) λd=>L3.bind (t7 d) κ) S' (Xs w i S):=by
 refine(raise_k rfl (Gs S' a b)).mono ?_;rintro _ _ ⟨rfl,rfl⟩;exact⟨by rw[Ka (Ju _),Nat.sub_self];rfl,c.trans ⟨_,rfl⟩⟩
theorem uI(h:shp (.tup ds)=some i):(12<ds.length/\i=0)\/(ds.length<=12/\∃x,ds[i]?=some x/\Z7 x=false/\∀j y,j<i->ds[j]?=some y->Z7 y=true):=by
 unfold shp at h;dsimp only at h;by_cases l:12<ds.length
 ·grind
 ·rw[if_neg l]at h;obtain⟨a,b,c⟩:=Lp.mp h;refine .inr ⟨by omega,ds[i],Jw a,by simpa using b,λj y d e=>?_⟩;obtain⟨f,rfl⟩:=Js.mp e;simpa using c j d
theorem xM(h:shp (.tup ds)=none):ds.length<=12/\∀d∈ds,Z7 d=true:=by
 unfold shp at h;grind
theorem DC(h:shp d=some i):i<=12:=by
 cases d with
 | tup ds=>
  rcases uI h with ⟨_,rfl⟩ | ⟨l,x,e,_⟩
  ·exact Kg _
  ·grind
 | _=>ext h;exact Kg _
theorem pa(e:ds[i]?=some x)(S:Sto):C4 ds i S=some (some (.tup [.int (i:Int),x])):=by
 unfold C4;rw[e]
theorem ni(ds:List D)(S:Sto):C4 ds ds.length S=some none:=by
 unfold C4;grind
section
variable {j N:Nat}{d:D}(h:Any j N d)(hj:j<=40)(hN:N<=100000)(k:Nat)(S:Sto)
include h hj hN
theorem oW(e:shp d=some i):Xn (rn (k+6) tI [d]) S (Xs "shape" i S):=by
 rw[rn,a9 rfl,jg,lB];cases d with
 | scr _=>exact h.pl.elim
 | ref _=>exact h.pl.elim
 | tup ds=>
  refine Xn.first<|Xn.cgS (congrFun (oI ..) S)<|Xn.eq rfl<|Xn.eq rfl<|Xn.neg ⋯<|Xn.eq (v6 ds S)<|Xn.eq (cA _ _ S)<|Xn.eq (h8 _ _) ?_;rcases uI e with ⟨l,rfl⟩ | ⟨l,x,ex,sx,all⟩
  ·exact Xn.pos (JQ ∅)<|raise_p (.inl rfl) (Kg _) (Ex.refl S)
  ·refine Xn.neg (by rw[JR ∅];decide) ?_;refine Xn.nxt<|Xn.cgS (congrFun (zE ..) S)<|Xn.eq rfl<|Xn.bind ?_;have li:=(Js.mp ex).1;refine Xn.for_ (i0:=i) (λi ρ S'=>(∃o2 o3,ρ=[some (.tup ds),o2,o3])/\Ex S S') (λm ρ S' hm ⟨⟨o2,o3,er⟩,exS⟩=>?_) (λρ S' ⟨⟨o2,o3,er⟩,exS⟩=>?_) (ds.length+1) 0 _ S (Kg _) ∅ ⟨⟨_,_,rfl⟩,Ex.refl _⟩
   ·subst er;have em:ds[m]?=some ds[m]:=Jw ∅;refine⟨_,_,pa em S',rfl,?_⟩;unfold R0;rw[K9];refine Ok.first<|Ok.cg (U0 ..)<|Ok.bind ((cp (h.at (JX _)) hj hN k S').mono ?_);rintro _ S2 ⟨rfl,ex2⟩;refine Ok.eq (W3 _ _) ?_;rw[all m _ hm em];exact Ok.neg ⋯<|Ok.ret ⟨_,rfl,⟨_,_,rfl⟩,exS.trans ex2⟩
   ·subst er;refine⟨_,_,pa ex S',rfl,?_⟩;unfold R0;rw[K9];refine Xn.first<|Xn.cgS (congrFun (U0 ..) S')<|Xn.ok ((cp (h.at (JL ex)) hj hN k S').mono ?_);rintro _ S2 ⟨rfl,ex2⟩;refine Xn.eq (W3 _ _) ?_;rw[sx];exact Xn.pos rfl<|raise_p (.inl rfl) (DC e) (exS.trans ex2)
 | _=>
  ext e;exact Xn.first<|Xn.cgS (congrFun (oI ..) S)<|Xn.eq rfl<|Xn.eq rfl<|Xn.pos rfl<|raise_p (.inl rfl) (Kg _) (Ex.refl S)
theorem cP(e:shp d=none):Ok (rn (k+6) tI [d]) S λr S'=>Ex S S':=by
 rw[rn,a9 rfl,jg,lB];cases d with
 | tup ds=>
  obtain⟨l,all⟩:=xM e;refine Ok.first<|Ok.cg (oI ..)<|Ok.eq rfl<|Ok.eq rfl<|Ok.neg ⋯<|Ok.eq (v6 ds S)<|Ok.eq (cA _ _ S)<|Ok.eq (h8 _ _)<|Ok.neg (by rw[JR ∅];decide) ?_;refine Ok.nxt<|Ok.cg (zE ..)<|Ok.eq rfl<|Ok.bind ?_;refine(Ok.loop (λi ρ S'=>(∃o2 o3,ρ=[some (.tup ds),o2,o3])/\Ex S S') (λρ S' _=>ni ds S') (λm ρ S' hm ⟨⟨o2,o3,er⟩,exS⟩=>?_) ⟨⟨_,_,rfl⟩,Ex.refl _⟩).mono ?_
  ·subst er;have em:=Jw hm;refine⟨_,_,pa em S',rfl,?_⟩;unfold R0;rw[K9];refine Ok.first<|Ok.cg (U0 ..)<|Ok.bind ((cp (h.at (JX _)) hj hN k S').mono ?_);rintro _ S2 ⟨rfl,ex2⟩;refine Ok.eq (W3 _ _) ?_;rw[all _ (JX hm)];exact Ok.neg ⋯<|Ok.ret ⟨_,.inl rfl,⟨_,_,rfl⟩,exS.trans ex2⟩
  ·rintro _ S' ⟨ρ,rfl,⟨o2,o3,rfl⟩,ex⟩;exact Ok.ret ex
 | _=>ext e
end
def fvs(g:Dst->D)(l:List Dst):List (D×D):=l.map λs=>(s.d,g s)
theorem il(a:n<=3){g:Dst->D}(s:Dst):∀{l:List Dst},(∀x∈l,DI n x)->V6 (fvs g l) (kS s)=if s∈l then some (g s)else none
 | [],_=>rfl
 | t::l,h=>by
  have b:=il a (g:=g) s λx c=>h x (JE _ c);unfold V6 fvs at b ⊢;rw[JI,Kx];rw[tL (h t Jy) a];by_cases e:t=s
  ·grind
  ·rw[JR λz=>e (Au (JZ z))];rw[b];by_cases m:s∈l
   ·grind
   ·grind
def s0(n:Nat):Dst:=⟨none,false,List.replicate n .out⟩
theorem AH(n:Nat):DI n (s0 n):=⟨by simp[s0],λg a=>by cases a⟩
def A4(s:Dst)(n:Nat):List Dst:=(List.range n).filterMap (step s)
theorem fq(V:DI n s)(h:t∈A4 s n):DI n t:=by
 obtain⟨i,a,e⟩:=Lk.mp h;exact V.step (KE.mp a) e
theorem fZ{n:Nat}(b:1<=n)(a:n<=3)(k:Nat)(S:Sto):rn (k+1) GH [.int (n:Int)] S=.ok (s0 n).d S:=by
 rw[rn,a9 rfl,Cg];have:n=1\/n=2\/n=3:=by omega
 rcases this with rfl | rfl | rfl <;> kernel_rfl
theorem xr(V:DI n s)(a:n<=3)(k:Nat)(S:Sto):rn (k+3) ou [s.d] S=.ok (.lst ((A4 s n).map Dst.d)) S:=by
 refine d8 ?_;rw[rn,a9 rfl,DY];refine nx_bind<|Ok.bind ((nH V a (k+1) S).mono ?_);rintro _ S ⟨rfl,rfl⟩;have c:=i2 (l:=(List.range n).filter λj=>(step s j).isSome) (h:=λj=>D.int (j:Int)) (g:=iw s) (t:=λ_=>ret true) (f:=λo=>bind (rn (k+2) aV [s.d,o]) λd=>ret d) (by
  have:=Lo (λj=>(step s j).isSome) (List.range n);rw[MC]at this;rw[JS];omega) (λ_ _=>rfl) (λj p _=>by
  obtain⟨b,m⟩:=Mk.mp p;obtain⟨t,e⟩:=Kd.mp m;refine a7 ((qP V (KE.mp b) a e k S).trans ?_);unfold iw;rw[e])
 refine Ok.eq rfl ?_;rw[Jr];refine Ok.of c<|Ok.ret ⟨?_,rfl⟩;congr 1;rw[La.mpr (λ_ _=>rfl)];unfold A4;induction List.range n with
 | nil=>rfl
 | cons i l q=>
  cases e:step s i with
  | none=>grind
  | some t=>
   rw[LH (by rw[e];rfl),Np e,JI,JI,q];unfold iw;rw[e]
theorem dQ{f:Type}{l:List f}{h:f->D}{p:f->Bool}{g:f->List D}{t:D->M Bool}{b:D->List D->M (List D)}{src:Src}{S:Sto}(hs:∀i,src i S=some (l.map h)[i]?)(N:Nat)(j:∀a∈l,t (h a) S=.ok (p a) S)
  (k:∀a∈l,p a=true->∀es:List D,es.length+(g a).length<=N->b (h a) es S=.ok (es++g a) S):∀(m i:Nat)(es:List D),i+m=l.length->es.length+(((l.drop i).filter p).flatMap g).length<=N->lvM src t b (m+1) i es S=.ok (es++((l.drop i).filter p).flatMap g) S
 | 0,i,es,e,_=>by
  have:src i S=some none:=by rw[hs,Kn (by rw[Jr];omega)]
  rw[List.drop_eq_nil_of_le ∅,NK,List.flatMap_nil,Kc];simp only[lvM,this]
 | m+1,i,es,e,c=>by
  have d:i<l.length:=by omega
  have r:src i S=some (some (h l[i])):=by rw[hs,JU,Jw d];rfl
  have o:=j l[i] (JX d);rw[Ma d]at c ⊢;have n:lvM src t b (m+1+1) i es S=bind (t (h l[i])) (λz=>if z=true then bind (b (h l[i]) es) (λes'=>lvM src t b (m+1) (i+1) es')else lvM src t b (m+1) (i+1) es) S:=by
   conv=>lhs;unfold lvM
   simp only[r]
  rw[n,a7 o];cases q:p l[i] with
  | false=>
   rw[LG (by rw[q];exact Jt)]at c ⊢;rw[if_neg Jt];exact dQ hs N j k m (i+1) es ∅ c
  | true=>
   rw[LH q,MD]at c ⊢;rw[JP]at c;rw[if_pos rfl,a7 (k l[i] (JX d) q es ∅),dQ hs N j k m (i+1) (es++g l[i]) ∅ (by rw[JP];omega),LN]
theorem pQ{a:Type}{l:List a}{i:Nat}(h:i<l.length):l.take (i+1)=l.take i++[l[i]]:=by simp_all
theorem AO(S:Sto)(a b c:O):(S++[a,b]).set (S.length+1) c=S++[a,c]:=by simp_all
theorem Dv(S:Sto)(a b:O):(S++[a,b])[S.length]?=some a:=by grind
theorem uU(S:Sto)(a b:O):(S++[a,b])[S.length+1]?=some b:=by grind
theorem tZ(c:n<=3){l:List Dst}(p:l.Nodup)(hd:∀x∈l,DI n x)(r:l.length<=2744){g:Dst->D}{a:D->M D}(S:Sto)(o:∀s∈l,∀S',a s.d S'=.ok (g s) S'):∀(m i:Nat),i+m=l.length ->
  dcM (bc S.length) (λ_=>ret true) (λd=>ret d) a (.ref (S.length+1)) (m+1) i (S++[.lst (l.map Dst.d),.dcT (fvs g (l.take i))])=.ok () (S++[.lst (l.map Dst.d),.dcT (fvs g l)])
 | 0,i,e=>by
  have f:bc S.length i (S++[.lst (l.map Dst.d),.dcT (fvs g (l.take i))])=some none:=by
   unfold bc;rw[Dv];dsimp only;rw[Kn (by rw[Jr];omega)]
  simp only[dcM,f];rw[Le ∅]
 | m+1,i,e=>by
  have b:i<l.length:=by omega
  have f:bc S.length i (S++[.lst (l.map Dst.d),.dcT (fvs g (l.take i))])=some (some l[i].d):=by
   unfold bc;rw[Dv];dsimp only;rw[JU,Jw b];rfl
  have V:=hd _ (JX b);have t:l[i]∉l.take i:=λz=>by
   obtain⟨j,w,k⟩:=Me z;rw[List.getElem_take]at k;rw[Lh]at w;have:=(Nr p).mp k;omega
  have h:=il c (g:=g) l[i] (l:=l.take i) λx y=>hd x (List.mem_of_mem_take y);rw[if_neg t]at h;have u:W4 (.ref (S.length+1)) l[i].d (g l[i]) (S++[.lst (l.map Dst.d),.dcT (fvs g (l.take i))])=.ok .non (S++[.lst (l.map Dst.d),.dcT (fvs g (l.take (i+1)))]):=by
   have q:(fvs g (l.take i)).length<sizeLine:=by
    unfold fvs;rw[Jr,Lh,JS];omega
   simp only[W4,uU,tL V c,if_pos q];unfold nR;rw[h,if_neg ⋯,AO,pQ b];unfold fvs;rw[KW];rfl
  have A:dcM (bc S.length) (λ_=>ret true) (λd=>ret d) a (.ref (S.length+1)) (m+1+1) i (S++[.lst (l.map Dst.d),.dcT (fvs g (l.take i))])=bind (a l[i].d) (λv=>bind (W4 (.ref (S.length+1)) l[i].d v) λ_=>dcM (bc S.length) (λ_=>ret true) (λd=>ret d) a (.ref (S.length+1)) (m+1) (i+1)) (S++[.lst (l.map Dst.d),.dcT (fvs g (l.take i))]):=by
   conv=>lhs;unfold dcM
   simp only[f];rfl
  rw[A,a7 (o _ (JX b) _),a7 u];exact tZ c p hd r S o m (i+1) ∅
section
variable {n:Nat}(h1:1<=n)(h3:n<=3){ps:List Sen}(ok:∀q∈ps,SOk q)
def fD(ps:List Sen)(s:Dst):D:=oD (j8 ps s)
def st1(S:Sto)(n:Nat)(ps:List Sen):Sto:=S++[.lst ((all n).map Dst.d),.dcT (fvs (fD ps) (all n))]
theorem Ee{n:Nat}(h3:n<=3)(V:DI n s):s.ws.length<=3:=by rw[V.l];exact h3
include h3 ok
theorem ki(k:Nat)(S:Sto):(bind (rn (k+10) AC [.int (n:Int)]) λi=>bind (j4 i) λb=>bind mD λc=>bind (dcM b.1 (λa=>ret true) (λa=>ret a) (λa=>bind (rn (k+10) iO [paD ps,a]) λx5=>ret x5) c b.2 0) λ_=>ret c) S=.ok (.ref (S.length+1)) (st1 S n ps):=by
 have e:=O4 h3;rw[a7 (all_ok h3 (k+8) S)];have f:j4 (.ref S.length) (S++[.lst ((all n).map Dst.d)])=.ok (bc S.length,(all n).length+1) (S++[.lst ((all n).map Dst.d)]):=by
  simp only[j4,Ka (Ju _),Nat.sub_self,List.getElem?_cons_zero,Jr]
 rw[a7 f];have g:mD (S++[.lst ((all n).map Dst.d)])=.ok (.ref (S.length+1)) (S++[.lst ((all n).map Dst.d),.dcT []]):=by
  unfold mD;rw[JP,LN];rfl
 rw[a7 g];have d:=tZ h3 (CW n) (λx h=>all_mem.mp h) e (a:=λa=>bind (rn (k+10) iO [paD ps,a]) λx5=>ret x5) S (λs hs S'=>a7 (uG ok (Ee h3 (all_mem.mp hs)) k S')) (all n).length 0 (Nat.zero_add _);exact a7 d
theorem U4(V:DI n s)(S:Sto):M5 (.ref (S.length+1)) s.d (st1 S n ps)=.ok (fD ps s) (st1 S n ps):=by
 have f:=il h3 (g:=fD ps) s λx a=>all_mem.mp a;rw[if_pos (all_mem.mpr V)]at f;unfold st1;simp only[M5,uU,tL V h3,f];rfl
end
def G0(n:Nat)(ps:List Sen):List Dst:=(all n).filter λs=>(j8 ps s).isNone
def led(n:Nat)(ps:List Sen):List Nat:=(G0 n ps).flatMap λs=>(A4 s n).filterMap (j8 ps)
def Q0(n:Nat)(ps:List Sen):Option (Str×Nat):=match j8 ps (s0 n) with
 | some i=>some ("first",i)
 | none=>(led n ps).min?.map λi=>("step",i)
theorem aK(o:Option Nat)(S:Sto):b7 .Is (oD o) .non S=.ok (.bl o.isNone) S/\b7 .IsNot (oD o) .non S=.ok (.bl o.isSome) S:=by ext o <;> exact⟨rfl,rfl⟩
theorem jz(S:Sto)(i:Nat):iI (S.length+1) (all n).length i (st1 S n ps)=some ((all n).map Dst.d)[i]?:=by
 unfold iI st1;rw[uU];unfold fvs;grind
theorem BJ{ns:List Nat}{i:Nat}(h:ns.min?=some i)(S:Sto):bj [.lst (ns.map λj=>oD (some j))] S=.ok (.int (i:Int)) S:=by
 obtain⟨m,q⟩:=List.min?_eq_some_iff.mp h;have g:w9 (ns.map λj=>oD (some j))=some (ns.map λ(j:Nat)=>(j:Int)):=by
  clear h m q;induction ns with
  | nil=>rfl
  | cons x ns f=>
   show(w9 (ns.map λj=>oD (some j))).map ((x:Int)::·)=_;rw[f];rfl
 have k:fF (ns.map λ(j:Nat)=>(j:Int))=some (i:Int):=jc (Ky.mpr ⟨i,m,rfl⟩) λa c=>by
  obtain⟨b,d,rfl⟩:=Ky.mp c;have:=q b d;omega
 have e:(w9 (ns.map λj=>oD (some j))).bind fF=some (i:Int):=by rw[g];exact k
 unfold bj;refine(a7 rfl).trans ?_;rw[e];rfl
theorem cV{S S':Sto}(e:m S=.ok a S'):nx m S=.ok a S':=by unfold nx;rw[e]
theorem Ba(e:n<=3)(ps:List Sen):(led n ps).length<=9000:=by
 have a:=O4 e;have b:(G0 n ps).length<=2744:=JW (Lo _ _) a;have c:∀l:List Dst,(l.flatMap λs=>(A4 s n).filterMap (j8 ps)).length<=3 * l.length:=λl=>by
  induction l with
  | nil=>exact Kg _
  | cons s l g=>
   rw[MD,JP,KL];have d:=Nq (j8 ps) (A4 s n);have f:=Nq (step s) (List.range n);rw[MC]at f;have d:((A4 s n).filterMap (j8 ps)).length<=((List.range n).filterMap (step s)).length:=d;omega
 have:=c (G0 n ps);unfold led;omega
theorem DH:∀i∈led n ps,i<ps.length:=λi a=>by
 obtain⟨s,_,h⟩:=LW.mp a;obtain⟨t,_,e⟩:=Lk.mp h;exact gA e
theorem se(h:Q0 n ps=some (w,i)):i<ps.length:=by
 unfold Q0 at h;cases e:j8 ps (s0 n) with
 | some k=>rw[e]at h;ext h;exact gA e
 | none=>
  rw[e]at h;obtain⟨m,b,a⟩:=Ks.mp h;ext a;exact DH _ (List.min?_eq_some_iff.mp b).1
abbrev inn(f n:Nat)(v:D):D->List D->M (List D):=λd2=>λl3=>bind (bind (rn f ou [d2]) λx5=>bind (j4 x5) λsm6=>ret sm6) λsm4=>lvM sm4.1 (λd7=>bind (M5 v d7) λx8=>bind (b7 .IsNot x8 .non) λx9=>bind (asB x9) λz10=>ret z10) (λd7=>λl11=>bind (bind (M5 v d7) λx13=>ret x13) λx12=>if l11.length<sizeLine then ret (l11++[x12])else bad) sm4.2 0 l3
theorem P3{b:Type}(f:b->Option Nat):∀l:List b,(l.filter λa=>(f a).isSome).flatMap (λa=>[oD (f a)])=(l.filterMap f).map λj=>oD (some j)
 | []=>rfl
 | a::l=>by
  cases e:f a with
  | none=>rw[LG (by rw[e];exact Jt),List.filterMap_cons_none e];exact P3 f l
  | some j=>rw[LH (by rw[e];rfl),Np e,MD,JI,P3 f l,e];rfl
section
variable {n:Nat}(h3:n<=3){ps:List Sen}(ok:∀q∈ps,SOk q)
include h3 ok
theorem pL(k:Nat)(S:Sto):(bind (j4 (.lst ((G0 n ps).map Dst.d))) λc=>lvM c.1 (λx=>ret true) (inn (k+3) n (.ref (S.length+1))) c.2 0 []) (st1 S n ps)=.ok ((led n ps).map λj=>oD (some j)) (st1 S n ps):=by
 have r:=O4 h3;have w:(G0 n ps).length<=2744:=JW (Lo _ _) r;have u:∀s∈G0 n ps,DI n s:=λs hs=>all_mem.mp (Mk.mp hs).1;have v:((G0 n ps).flatMap λs=>((A4 s n).filterMap (j8 ps)).map λj=>oD (some j)).length<=9000:=by
  rw[<- LX,Jr];exact Ba h3 ps
 have y:(G0 n ps).flatMap (λs=>((A4 s n).filterMap (j8 ps)).map λj=>oD (some j))=(led n ps).map λj=>oD (some j):=by
  rw[<- LX];rfl
 rw[a7 (ek (G0 n ps) Dst.d (st1 S n ps))];have:=D8 (g:=λs=>((A4 s n).filterMap (j8 ps)).map λj=>oD (some j)) (b:=inn (k+3) n (.ref (S.length+1))) (src:=A2 ((G0 n ps).map Dst.d)) (S:=st1 S n ps) (λi=>rfl) 9000 (λs hs es d=>?_) (G0 n ps).length 0 [] (Nat.zero_add _) (by rw[KH];simpa using v)
 ·grind
 ·have V:=u s hs;unfold inn;have q:(bind (rn (k+3) ou [s.d]) λx5=>bind (j4 x5) λh=>ret h) (st1 S n ps)=.ok (A2 ((A4 s n).map Dst.d),(A4 s n).length+1) (st1 S n ps):=(a7 (xr V h3 k _)).trans (a7 (ek (A4 s n) Dst.d _));rw[a7 q];have:=dQ (t:=λo=>bind (M5 (.ref (S.length+1)) o) λx8=>bind (b7 .IsNot x8 .non) λp=>bind (asB p) λe=>ret e) (b:=λo=>λa=>bind (bind (M5 (.ref (S.length+1)) o) λl=>ret l) λm=>if a.length<sizeLine then ret (a++[m])else bad) (src:=A2 ((A4 s n).map Dst.d)) (S:=st1 S n ps) (λi=>rfl) 9000 (λt f=>?_) (λt f _ es d=>?_) (A4 s n).length 0 es (Nat.zero_add _) (by rw[KH,P3];exact d)
  ·rw[KH,P3]at this;exact this
  ·exact(a7 (U4 h3 ok (fq V f) S)).trans ((a7 (aK _ _).2).trans (a7 (h8 _ _)))
  ·refine(a7 ((a7 (U4 h3 ok (fq V f) S)).trans rfl)).trans ?_;have d:=d;rw[if_pos (by rw[JS];omega)];rfl
variable {j N:Nat}(hA:Any j N (paD ps))(hj:j<=40)(hN:N<=100000)(sh:shp (paD ps)=none)(h1:1<=n)(hl:ps.length<=12)
include hA hj hN sh h1 hl
theorem DX(e:Q0 n ps=some (w,i))(k:Nat)(S:Sto):Xn (rn (k+11) kf [.int (n:Int),paD ps]) S (Xs w i S):=by
 rw[rn,a9 rfl,gq,iZ];refine Xn.first<|Xn.cg (Bo ..)<|Xn.ok ((cP hA hj hN (k+4) S sh).mono ?_);intro _ b r;have y:=se e;have d:Ex S (st1 b n ps):=r.trans ⟨_,rfl⟩;refine Xn.nxt<|Xn.cg (Eb ..)<|Xn.eq (cV (ki h3 ok k b)) ?_;refine Xn.nxt<|Xn.cg (HH ..)<|Xn.eq (fZ h1 h3 (k+9) _)<|Xn.eq (U4 h3 ok (AH n) b) ?_;refine Xn.nxt<|Xn.cg (EM ..)<|Xn.eq (aK _ _).2<|Xn.eq (h8 _ _) ?_;unfold Q0 at e;unfold fD;cases q:j8 ps (s0 n) with
 | some m=>
  rw[q]at e;ext e;exact Xn.pos rfl<|raise_p (.inr (.inl rfl)) ∅ d
 | none=>
  rw[q]at e;obtain⟨m,f,g⟩:=Ks.mp e;ext g;refine Xn.neg ⋯ ?_;have c:=Q4 (t:=λp=>bind (M5 (.ref (b.length+1)) p) λu=>bind (b7 .Is u .non) λo=>bind (asB o) λv=>ret v) (jz b) (by have:=O4 h3;rw[JS];omega) (λs hs=>(a7 (U4 h3 ok (all_mem.mp hs) b)).trans ((a7 (aK _ _).1).trans (a7 (h8 _ _)))) (λ_ _ _=>rfl);have x:P7 (.ref (b.length+1)) (st1 b n ps)=.ok (iI (b.length+1) (all n).length,(all n).length+1) (st1 b n ps):=by
   unfold st1;simp only[P7,uU];unfold fvs;rw[Jr]
  refine Xn.nxt<|Xn.cg (Dz ..)<|Xn.eq (cV ((a7 x).trans c)) ?_;refine Xn.nxt<|Xn.cg (Dt ..)<|Xn.eq (cV (pL h3 ok (k+7) b)) ?_;have h:i6 (.lst ((led n ps).map λj=>oD (some j))) (st1 b n ps)=.ok true (st1 b n ps):=by
   cases z:led n ps with
   | nil=>rw[z]at f;ext f
   | cons a l=>rfl
  exact Xn.nxt<|Xn.cg (Gu ..)<|Xn.eq h<|Xn.pos rfl<|Xn.eq (BJ f _)<|raise_p (.inr (.inr rfl)) ∅ d
theorem xz(e:Q0 n ps=none)(k:Nat)(S:Sto):Ok (rn (k+11) kf [.int (n:Int),paD ps]) S λr S'=>r=.lst ((G0 n ps).map Dst.d)/\Ex S S':=by
 rw[rn,a9 rfl,gq,iZ];refine Ok.first<|Ok.cg (Bo ..)<|Ok.bind ((cP hA hj hN (k+4) S sh).mono ?_);intro _ a g;have b:Ex S (st1 a n ps):=g.trans ⟨_,rfl⟩;refine Ok.nxt<|Ok.cg (Eb ..)<|Ok.eq (cV (ki h3 ok k a)) ?_;refine Ok.nxt<|Ok.cg (HH ..)<|Ok.eq (fZ h1 h3 (k+9) _)<|Ok.eq (U4 h3 ok (AH n) a) ?_;refine Ok.nxt<|Ok.cg (EM ..)<|Ok.eq (aK _ _).2<|Ok.eq (h8 _ _) ?_;unfold Q0 at e;cases q:j8 ps (s0 n) with
 | some m=>rw[q]at e;ext e
 | none=>
  rw[q]at e;have j:=List.min?_eq_none_iff.mp (Option.map_eq_none_iff.mp e);refine Ok.neg ⋯ ?_;have c:=Q4 (t:=λf=>bind (M5 (.ref (a.length+1)) f) λh=>bind (b7 .Is h .non) λd=>bind (asB d) λi=>ret i) (jz a) (by have:=O4 h3;rw[JS];omega) (λs hs=>(a7 (U4 h3 ok (all_mem.mp hs) a)).trans ((a7 (aK _ _).1).trans (a7 (h8 _ _)))) (λ_ _ _=>rfl);have l:P7 (.ref (a.length+1)) (st1 a n ps)=.ok (iI (a.length+1) (all n).length,(all n).length+1) (st1 a n ps):=by
   unfold st1;simp only[P7,uU];unfold fvs;rw[Jr]
  refine Ok.nxt<|Ok.cg (Dz ..)<|Ok.eq (cV ((a7 l).trans c)) ?_;refine Ok.nxt<|Ok.cg (Dt ..)<|Ok.eq (cV (pL h3 ok (k+7) a)) ?_;rw[j];exact Ok.nxt<|Ok.cg (Gu ..)<|Ok.eq rfl<|Ok.neg ⋯<|Ok.nxt<|Ok.cg (IT ..)<|Ok.ret ⟨rfl,b⟩
end
theorem t2{a:D}{n Z:Nat}(b:Sml n Z a)(d:smB 0 70 (.str w)=true:=by decide +kernel):Sml (n+1) (Z+80) (.tup [.str w,a]):=by
 obtain⟨c,e,f⟩:=aH d;refine⟨⟨c,b.pl,trivial⟩,?_,?_⟩
 ·have:=b.dp;show max 0 (max (dp a) 0)+1<=n+1;omega
 ·have:=b.sz;show sz (.str w)+2+(sz a+2+0)+3<=_;omega
theorem t3{a b:D}{n Z:Nat}(d:Sml n Z a)(c:Sml n Z b)(f:smB 0 70 (.str w)=true:=by decide +kernel):Sml (n+1) (2 * Z+80) (.tup [.str w,a,b]):=by
 obtain⟨e,g,h⟩:=aH f;refine⟨⟨e,d.pl,c.pl,trivial⟩,?_,?_⟩
 ·have:=d.dp;have:=c.dp;show max 0 (max (dp a) (max (dp b) 0))+1<=n+1;omega
 ·have:=d.sz;have:=c.sz;show sz (.str w)+2+(sz a+2+(sz b+2+0))+3<=_;omega
theorem HL{ws:List Str}(h:∀w∈ws,w∈wds)(l:ws.length<=7):Sml 1 400 (.tup (ws.map D.str)):=
 (Sml.tup (Smls.map λw a=>by
  have:∀w∈wds,smB 0 54 (.str w)=true:=by decide +kernel
  exact Sml.w (this w (h w a))) (by rw[Jr];exact l)).up
def zF:Nat->Nat
 | 0=>600
 | n+1=>2 * zF n+80
def cF:Nat->Nat
 | 0=>12
 | n+1=>2 * cF n+12
theorem Ec(n:Nat):600<=zF n:=by
 induction n with
 | zero=>exact Ju _
 | succ n ih=>show 600<=2 * zF n+80;omega
theorem HX(n:Nat):12<=cF n:=by
 cases n with
 | zero=>exact Ju _
 | succ n=>show 12<=2 * cF n+12;omega
def fc:List D:=[.tup [.str "free"],.tup [.str "closed"]]
theorem Fh(h:d∈fc):Sml 1 70 d:=by
 have:∀d∈fc,smB 1 70 d=true:=by unfold fc;decide +kernel
 exact Sml.w (this d h)
theorem t9{p N m:Nat}{S:Sto}(h:Fw ns p (N+1) S)(g:0<m)(f:m<1073741824)(k:Nat):Ok (rn (k+1) bE [.ref p,.int (m:Int)]) S λd S'=>∃r:Nat,d=.int (r:Int)/\r<m/\Fw ns p N S'/\Kp p S S':=
 (yt h g f k).mono λ_ _ ⟨r,a,b,c,d,e⟩=>⟨r,a,b,c,d,e⟩
theorem O7{p v:Nat}(hv:v<=2):∀(n N k:Nat)(S:Sto),Fw ns p (N+cF n) S->Ok (rn (k+n+2) iA [.ref p,.int (n:Int),.int (v:Int)]) S λd S'=>Sml (n+2) (zF n) d/\Fw ns p N S'/\Kp p S S'
 | n,N,k,S,F=>by
  have zl:=Ec n;have cl:=HX n;rw[rn,a9 rfl,vK,vT];refine Ok.first<|Ok.cg (Ef ..)<|Ok.eq (cA _ _ S)<|Ok.eq (h8 _ S) ?_;have main:∀(q:Nat)(S1:Sto),(n=0->q<5)->q<9->Fw ns p (N+cF n-1) S1->Kp p S S1->Ok (nxt (evK Rs Γ (rn (k+n+1)) 40) E7 [nth Cl.body 1,nth Cl.body 2,nth Cl.body 3,nth Cl.body 4,nth Cl.body 5,nth Cl.body 6] endD (.nx [some (.ref p),some (.int (n:Int)),some (.int (v:Int)),some (.int (q:Int)),none,none])) S1 λd S'=>Sml (n+2) (zF n) d/\Fw ns p N S'/\Kp p S S':=by
   intro q S1 q5 q9 F1 K1;have small:Ok (bind (rn (k+n+1) bE [.ref p,.int 2]) λx=>bind (ixD (.lst fc) x) λy=>nxt (evK Rs Γ (rn (k+n+1)) 40) E7 [nth Cl.body 2,nth Cl.body 3,nth Cl.body 4,nth Cl.body 5,nth Cl.body 6] endD (.rt y)) S1 λd S'=>Sml (n+2) (zF n) d/\Fw ns p N S'/\Kp p S S':=by
    refine Ok.bind ((t9 (N:=N) (m:=2) (F1.less ∅) ∅ ∅ (k+n)).mono ?_);rintro _ S2 ⟨r,rfl,hr,F2,K2⟩;have er:fc[r]?=some (fc[r]'hr):=Jw hr;exact Ok.eq (Hb S2 er)<|Ok.ret ⟨(Fh (JX hr)).mono ∅ ∅,F2,K1.tr K2⟩
   refine Ok.nxt<|Ok.cg (HS ..)<|Ok.eq (jq _ _ S1)<|Ok.eq (h8 _ S1)<|Ok.ite (λc=>?_) λc=>?_
   ·have c:q<5:=by have:=Kb c;omega
    refine Ok.eq (E8 _ _ S1)<|Ok.eq (h8 _ S1)<|Ok.ite (λ_=>small) λv0=>?_;have v0:0<v:=Nat.pos_of_ne_zero λz=>v0 (JQ ∅);refine Ok.eq (E8 _ _ S1)<|Ok.eq (h8 _ S1)<|Ok.ite (λ_=>small) λc4=>?_;have c4:q≠4:=λz=>c4 (JQ ∅);refine Ok.nxt<|Ok.cg (zH ..)<|Ok.eq (E8 _ _ S1)<|Ok.eq (h8 _ S1)<|Ok.ite (λ_=>?_) λc3=>?_
    ·refine Ok.bind ((t9 (N:=N) (F1.less ∅) v0 ∅ (k+n)).mono ?_);rintro _ S2 ⟨r,rfl,hr,F2,K2⟩;exact Ok.ret ⟨(t2 (Sml.nat (n:=0) (N:=60) ∅)).mono ∅ ∅,F2,K1.tr K2⟩
    ·have c3:q≠3:=λz=>c3 (JQ ∅);refine Ok.nxt<|Ok.cg (zN ..)<|Ok.eq (jq _ _ S1)<|Ok.eq (h8 _ S1)<|Ok.pos (JQ ∅)<|nx_bind<|Ok.eq (Ak (k+n) S1)<|Ok.eq (a:=(A2 (wds.map D.str),8)) rfl<|(Ok.comp (λi S' es=>Fw ns p (N+2+(7-i)) S'/\Kp p S S'/\∃ws:List Str,es=ws.map D.str/\(∀w∈ws,w∈wds)/\ws.length<=i) (λS' es _=>rfl) ?_ ⟨F1.less ∅,K1,[],rfl,(λw hw=>by ext hw),Ju _⟩).mono ?_
     ·rintro i S' es hi ⟨Fi,Ki,ws,rfl,hw,hl⟩;have hi':=hi;have ei:(wds.map D.str)[i]?=some (.str wds[i]):=n4 (Jw hi');refine⟨.str wds[i],by simp only[A2,ei],Ok.bind ((t9 (N:=N+2+(7-(i+1))) (m:=3) (Fi.less ∅) ∅ ∅ (k+n)).mono ?_)⟩;rintro _ S2 ⟨r,rfl,hr,F2,K2⟩;refine Ok.eq (E8 _ _ S2)<|Ok.eq (h8 _ S2)<|Ok.ret ?_;split
      ·refine Ok.ret ⟨by rw[Jr,JS];omega,F2,Ki.tr K2,ws++[wds[i]],by rw[KW];rfl,λw hw'=>?_,by simp;omega⟩;rcases JY.mp hw' with z | z
       ·exact hw w z
       ·grind
      ·exact⟨F2,Ki.tr K2,ws,rfl,hw,by omega⟩
     ·rintro _ S2 ⟨F2,K2,ws,rfl,hw,hl⟩;have fin:∀(us:List Str)(S3:Sto),(∀w∈us,w∈wds)->us.length<=7->Fw ns p (N+1) S3->Kp p S S3->Ok (bind (rn (k+n+1) bE [.ref p,.int (v:Int)]) λx=>bind (G5 (.lst (us.map D.str))) λy=>nxt (evK Rs Γ (rn (k+n+1)) 40) E7 [nth Cl.body 4,nth Cl.body 5,nth Cl.body 6] endD (.rt (.tup [.str "at",x,y]))) S3 λd S'=>Sml (n+2) (zF n) d/\Fw ns p N S'/\Kp p S S':=by
       intro us S3 hu lu F3 K3;refine Ok.bind ((t9 F3 v0 ∅ (k+n)).mono ?_);rintro _ S4 ⟨r,rfl,hr,F4,K4⟩;refine Ok.eq rfl<|Ok.ret ⟨?_,F4,K3.tr K4⟩;have a:Sml 1 400 (.int (r:Int)):=Sml.nat ∅;have b:=HL hu lu;refine⟨(t3 a b).pl,by have:=(t3 (w:="at") a b).dp;omega,?_⟩;have:=b.sz;show 22+2+(60+2+(sz (.tup (us.map D.str))+2+0))+3<=_;omega
      refine Ok.bind ((t9 (N:=N+1) (m:=2) (F2.less ∅) ∅ ∅ (k+n)).mono ?_);rintro _ S3 ⟨r,rfl,hr,F3,K3⟩;refine Ok.eq (E8 _ _ S3)<|Ok.eq (h8 _ S3)<|Ok.ite (λ_=>?_) λ_=>fin ws S3 hw hl F3 (K2.tr K3);refine Ok.eq rfl<|Ok.eq (by rw[List.map_reverse];rfl)<|fin ws.reverse S3 (λw h=>hw w (List.mem_reverse.mp h)) (by rw[Mf];exact hl) F3 (K2.tr K3)
   ·have c:5<=q:=by
     have:¬ ((q:Int)<5):=λz=>c (JQ z);omega
    obtain⟨n',rfl⟩:∃n',n=n'+1:=⟨n-1,by
     have:=λz=>by have:=q5 z;omega
     omega⟩
    have ec:cF (n'+1)=2 * cF n'+12:=rfl;have ez:zF (n'+1)=2 * zF n'+80:=rfl;refine Ok.nxt<|Ok.cg (zH ..)<|Ok.eq (E8 _ _ S1)<|Ok.eq (h8 _ S1)<|Ok.neg (by rw[JR ∅];decide)<|Ok.nxt<|Ok.cg (zN ..)<|Ok.eq (jq _ _ S1)<|Ok.eq (h8 _ S1)<|Ok.neg (by rw[JR ∅];decide) ?_;refine Ok.nxt<|Ok.cg (FE ..)<|Ok.eq (cj (b:=1) ∅ S1)<|Ok.bind ((O7 hv n' (N+cF n') k S1 (F1.less ∅)).mono ?_);rintro a S2 ⟨ha,F2,K2⟩;refine Ok.nxt<|Ok.cg (Dr ..)<|Ok.eq (jq _ _ S2)<|Ok.eq (h8 _ S2)<|Ok.ite (λ_=>?_) λc7=>?_
    ·exact Ok.ret ⟨(t2 ha).mono ∅ ∅,F2.less ∅,K1.tr K2⟩
    ·have c7:7<=q:=by
      have:¬ ((q:Int)<7):=λz=>c7 (JQ z);omega
     refine Ok.nxt<|Ok.cg (Ey ..)<|Ok.eq (cj c7 S2) ?_;have go:∀w:Str,smB 0 70 (.str w)=true->ixD (.lst [.str "both",.str "either"]) (.int ((q-7:Nat):Int)) S2=.ok (.str w) S2->Ok (bind (ixD (.lst [.str "both",.str "either"]) (.int ((q-7:Nat):Int))) λx2=>bind (eO (.int ((n'+1:Nat):Int)) (.int 1)) λx3=>bind (rn (k+(n'+1)+1) iA [.ref p,x3,.int (v:Int)]) λx4=>nxt (evK Rs Γ (rn (k+(n'+1)+1)) 40) E7 [] endD (.rt (.tup [x2,a,x4]))) S2 λd S'=>Sml (n'+1+2) (zF (n'+1)) d/\Fw ns p N S'/\Kp p S S':=by
      intro w hw ew;refine Ok.eq ew<|Ok.eq (cj (b:=1) ∅ S2)<|Ok.bind ((O7 hv n' N k S2 F2).mono ?_);rintro b S3 ⟨hb,F3,K3⟩;exact Ok.ret ⟨(t3 ha hb hw).mono ∅ ∅,F3,K1.tr (K2.tr K3)⟩
     have:q=7\/q=8:=by omega
     rcases this with rfl | rfl
     ·exact go "both" (by decide +kernel) rfl
     ·exact go "either" (by decide +kernel) rfl
  refine Ok.ite (λc=>?_) λc=>?_
  ·refine Ok.bind ((t9 (N:=N+cF n-1) (m:=9) (F.less ∅) ∅ ∅ (k+n)).mono ?_);rintro _ S1 ⟨q,rfl,hq,F1,K1⟩;exact main q S1 (λz=>by subst z;exact absurd (Kb c) ⋯) hq F1 K1
  ·refine Ok.bind ((t9 (N:=N+cF n-1) (m:=5) (F.less ∅) ∅ ∅ (k+n)).mono ?_);rintro _ S1 ⟨q,rfl,hq,F1,K1⟩;exact main q S1 (λ_=>hq) ∅ F1 K1
theorem iW(F:Fw ns p N S)(h:Ex S S'):Fw ns p N S':=F.keep (h.at F.lt)
theorem wx(ns:List Int)(S:Sto)(k:Nat):∃ms:List Int,rn (k+1) Al [.scr (ns.map D.int)] S=.ok (.ref S.length) (S++[i3 ms 0 0 0]):=by
 obtain⟨ms,a⟩:=ph ns;refine⟨ms,?_⟩;rw[rn,a9 rfl,vB,a7 (show slD (.scr (ns.map D.int)) none (some 63) S=.ok (.lst (G3 (ns.map D.int) none (some 63))) S from rfl),a];kernel_rfl
def DK:Fm:=.at_ 0 [.look,.holds,.right,.down]
def IY:Fm:=.both (.mark 1) (.at_ 1 [.close,.look])
def f1:Fm:=.either (.no DK) .closed
def f2:Fm:=.either (.no .closed) (.at_ 0 [.look,.holds,.down])
def f3:Fm:=.either (.at_ 0 [.out]) (.no .free)
def f4:Fm:=.either (.no (.mark 0)) (.no (.at_ 0 [.out,.down]))
def f5:Fm:=.either (.no (.at_ 0 [.holds])) (.no IY)
def f6:Fm:=.no (.both (.at_ 0 [.holds]) (.at_ 1 [.holds]))
def sixS:List Sen:=[⟨.each,f1⟩,⟨.some_,f2⟩,⟨.each,f3⟩,⟨.each,f4⟩,⟨.pairs,f5⟩,⟨.pairs,f6⟩]
def six:List D:=sixS.map Sen.d
theorem P4(S:Sto)(l:List D)(d:D)(h:l.length<10):bb (.ref S.length) [d] (S++[.lst l])=.ok .non (S++[.lst (l++[d])]):=by
 have e:(S++[O.lst l])[S.length]?=some (.lst l):=by simp
 simp only[bb,e];rw[if_pos (by rw[JS];omega)];grind
theorem Q6(S:Sto)(l:List D):lstOf (.ref S.length) (S++[.lst l])=.ok l (S++[.lst l]):=by
 have e:(S++[O.lst l])[S.length]?=some (.lst l):=by simp
 simp only[lstOf,e]
theorem CQ(k:Nat)(S:Sto):rn (k+1) zC [] S=.ok (.ref S.length) (S++[.lst six]):=by
 suffices h:Ok (rn (k+1) zC []) S λd S'=>d=.ref S.length/\S'=S++[.lst six] by
  obtain⟨d,S',e,rfl,rfl⟩:=h;exact e
 rw[rn,a9 rfl,Bn];have c:=P4 S (six.take 1) (.tup [.str "some",f2.d]) ⋯;have a:=P4 S (six.take 2) (.tup [.str "each",f3.d]) ⋯;have g:=P4 S (six.take 3) (.tup [.str "each",f4.d]) ⋯;have f:=P4 S (six.take 4) (.tup [.str "pairs",f5.d]) ⋯;have b:=P4 S (six.take 5) (.tup [.str "pairs",f6.d]) ⋯;refine Ok.eq rfl ?_;refine Ok.eq (Q6 ..)<|Ok.eq c ?_;refine Ok.eq (Q6 ..)<|Ok.eq a ?_;refine Ok.eq (Q6 ..)<|Ok.eq g ?_;refine Ok.eq (Q6 ..)<|Ok.eq f ?_;refine Ok.eq (Q6 ..)<|Ok.eq b ?_;exact Ok.ret ⟨rfl,rfl⟩
theorem xI{ds:List D}(h:∀d∈ds,Any j Z d)(c:ds.length<=m):Any (j+1) ((Z+2) * m+3) (.tup ds):=by
 refine⟨Plns.up ds (Plns.of λd hd=>(h d hd).pl),?_,?_⟩
 ·have:∀l:List D,(∀d∈l,Any j Z d)->dps l<=3+j:=λl c=>by
   induction l with
   | nil=>exact Kg _
   | cons d l f=>
    have a:=(c d Jy).dp;have b:=f λx e=>c x (JE _ e);show max (dp d) (dps l)<=_;omega
  have:=this ds h;show dps ds+1<=_;omega
 ·have a:=dh λd hd=>(h d hd).sz;have b:(Z+2) * ds.length<=(Z+2) * m:=Nat.mul_le_mul_left _ c;show szs ds+3<=_;omega
def El(ds:List D):Prop:=ds.length<=13/\∀d∈ds,Any 3 2720 d
theorem El.any{ds:List D}(h:El ds):Any 4 35389 (.tup ds):=xI h.2 h.1
theorem kM(h:Sml n N d)(hn:n<=6):Any 3 N d:=⟨h.pl.ups,by have:=h.dp;omega,h.sz⟩
theorem fA{ns:List Int}{p N n:Nat}(hn:n<=2)(k:Nat)(S:Sto)(F:Fw ns p (N+200) S):Ok (rn (k+5) AV [.ref p,.int (n:Int)]) S λd S'=>Any 3 2720 d/\Fw ns p N S'/\Kp p S S':=by
 have z3:zF n<=2640/\cF n<=180:=by
  have:n=0\/n=1\/n=2:=by omega
  rcases this with rfl | rfl | rfl <;> decide
 rw[rn,a9 rfl,uY];refine Ok.bind ((t9 (N:=N+180) (m:=4) (F.less ∅) ∅ ∅ (k+3)).mono ?_);rintro _ S1 ⟨r,rfl,hr,F1,K1⟩;have go:∀(w:Str)(v:Nat),v<=2->smB 0 70 (.str w)=true->ixD (.lst [.str "each",.str "some",.str "pairs",.str "plain"]) (.int (r:Int)) S1=.ok (.str w) S1->ixD (.lst [.int 1,.int 1,.int 2,.int 0]) (.int (r:Int)) S1=.ok (.int (v:Int)) S1->Ok (bind (ixD (.lst [.str "each",.str "some",.str "pairs",.str "plain"]) (.int (r:Int))) λx2=>bind (ixD (.lst [.int 1,.int 1,.int 2,.int 0]) (.int (r:Int))) λx3=>bind (rn (k+4) iA [.ref p,.int (n:Int),x3]) λx4=>ret (.tup [x2,x4])) S1 λd S'=>Any 3 2720 d/\Fw ns p N S'/\Kp p S S':=by
  intro w v hv hw e1 e2;have fd:=O7 (ns:=ns) (p:=p) hv n N (k+2-n) S1 (F1.less ∅);rw[show k+2-n+n+2=k+4 by omega]at fd;refine Ok.eq e1<|Ok.eq e2<|Ok.bind (fd.mono ?_);rintro d S2 ⟨hd,F2,K2⟩;exact Ok.ret ⟨kM ((t2 hd hw).mono (n':=6) ∅ ∅) ∅,F2,K1.tr K2⟩
 have:r=0\/r=1\/r=2\/r=3:=by omega
 rcases this with rfl | rfl | rfl | rfl
 ·exact go "each" 1 ⋯ (by decide +kernel) rfl rfl
 ·exact go "some" 1 ⋯ (by decide +kernel) rfl rfl
 ·exact go "pairs" 2 ⋯ (by decide +kernel) rfl rfl
 ·exact go "plain" 0 ⋯ (by decide +kernel) rfl rfl
theorem iU:El six:=⟨by decide,λd hd=>by
 have:six.all (smB 6 2000)=true:=by decide +kernel
 have:=JM.mp this d hd;exact kM ((Sml.w this).mono (Ju _) ∅) (Ju _)⟩
theorem Fu:Γ.sub 2 2=true:=by kernel_rfl
theorem oC{n:Nat}{d:D}{w:Str}{i k:Nat}{S:Sto}(x:Xn (rn (k+11) kf [.int (n:Int),d]) S (Xs w i S)):Ok (rn (k+13) iQ [.int (n:Int),d]) S λr S'=>r=.bl false/\Ex S S':=by
 rw[rn,a9 rfl,kw,lU];refine Ok.first<|Ok.cg (zL ..)<|Ok.bind<|Ok.caught ?_;refine Xn.cg (ah ..)<|Xn.bind ?_;show Xn (rn (k+12) oJ [.int (n:Int),d]) S _;rw[rn,a9 rfl,kn];refine Xn.bind (x.mono ?_);intro m S1 ⟨e1,ex⟩;refine⟨2,_,e1,Fu,?_⟩;unfold rX;rw[fL];exact Ok.first<|Ok.cg (mI ..)<|Ok.ret<|Ok.ret ⟨rfl,ex⟩
theorem xn{n:Nat}{d:D}{k:Nat}{S:Sto}(x:Ok (rn (k+11) kf [.int (n:Int),d]) S λ_ S'=>Ex S S'):Ok (rn (k+13) iQ [.int (n:Int),d]) S λr S'=>r=.bl true/\Ex S S':=by
 rw[rn,a9 rfl,kw,lU];refine Ok.first<|Ok.cg (zL ..)<|Ok.bind<|Ok.try_ ?_;refine Ok.cg (ah ..)<|Ok.bind ?_;show Ok (rn (k+12) oJ [.int (n:Int),d]) S _;rw[rn,a9 rfl,kn];refine Ok.bind (x.mono ?_);intro _ S1 ex;exact Ok.ret<|Ok.ret<|Ok.ret ⟨rfl,ex⟩
structure Car(n:Nat)(ps:List Sen):Prop where
 ok:∀q∈ps,SOk q
 f0:j8 ps (s0 n)=none
 st:∀s t i,DI n s->j8 ps s=none->i<n->step s i=some t->j8 ps t=none
theorem Di{ps:List Sen}(ok:∀q∈ps,SOk q)(h:Q0 n ps=none):Car n ps:=by
 unfold Q0 at h;cases e:j8 ps (s0 n) with
 | some i=>rw[e]at h;ext h
 | none=>
  rw[e]at h;have e2:=List.min?_eq_none_iff.mp (Option.map_eq_none_iff.mp h);refine⟨ok,e,λs t i V hf hi est=>?_⟩;cases z:j8 ps t with
  | none=>rfl
  | some k=>
   have:k∈led n ps:=LW.mpr ⟨s,Mk.mpr ⟨all_mem.mpr V,by rw[hf];rfl⟩,Lk.mpr ⟨t,Lk.mpr ⟨i,KE.mpr hi,est⟩,z⟩⟩;rw[e2]at this;ext this
theorem wD(h:Any j N d)(hj:j<=40)(hN:N<=100000){n:Nat}(h1:1<=n)(h3:n<=3)(k:Nat)(S:Sto):Ok (rn (k+13) iQ [.int (n:Int),d]) S λr S'=>(r=.bl false\/(r=.bl true/\∃ps,d=paD ps/\Car n ps))/\Ex S S':=by
 cases e:shp d with
 | some i=>
  refine(oC (w:="shape") (i:=i) ?_).mono λr S' ⟨q,x⟩=>⟨.inl q,x⟩;rw[rn,a9 rfl,gq,iZ];exact Xn.first<|Xn.cg (Bo ..)<|Xn.bind (oW h hj hN (k+4) S e)
 | none=>
  obtain⟨ps,rfl,ok,hl⟩:=CA e;cases e2:Q0 n ps with
  | none=>exact(xn ((xz h3 ok h hj hN e h1 hl e2 k S).mono λ_ _ q=>q.2)).mono λr S' ⟨q,x⟩=>⟨.inr ⟨q,ps,rfl,Di ok e2⟩,x⟩
  | some p=>exact(oC (DX h3 ok h hj hN e h1 hl e2 k S)).mono λr S' ⟨q,x⟩=>⟨.inl q,x⟩
end L3.K92
namespace L3.Nt
open PySem PySem.Spec PyProof.Rows L2
inductive W7 where
 | out | ask | close | look | holds | right | down
deriving DecidableEq
def W7.s:W7->Str
 | .out=>"out"
 | .ask=>"ask"
 | .close=>"close"
 | .look=>"look"
 | .holds=>"holds"
 | .right=>"right"
 | .down=>"down"
def W7.d(w:W7):D:=.str w.s
def Wd.w7:Wd->W7
 | .out=>.out
 | .ask=>.ask
 | .close=>.close
 | .look=>.look
 | .holds=>.holds
def sA(b:Bool):W7:=if b=true then .down else .right
theorem Wd.w7_d(w:Wd):w.w7.d=w.d:=by ext w <;> rfl
theorem DZ(b:Bool):(sA b).d=D0 b:=by ext b <;> rfl
def kQ(p:Nat->Bool)(h:Hnd):W7:=match (List.range h.1.length).find? p with
 | some i=>sA (h.1.getD i false)
 | none=>if p h.1.length=true then h.2.w7 else .out
theorem xg(p:Nat->Bool)(h:Hnd):(kQ p h).d=w8 p h:=by
 unfold kQ w8;cases (List.range h.1.length).find? p with
 | some i=>exact DZ _
 | none=>
  by_cases q:p h.1.length=true
  ·rw[if_pos q,if_pos q];exact Wd.w7_d _
  ·rw[if_neg q,if_neg q];rfl
theorem AG(l:List W7):l.map W7.d=(l.map W7.s).map D.str:=by rw[Lf];rfl
theorem iK(hab:a<b):tri a+a<tri b:=by
 have e:∀n,tri (n+1)=tri n+(n+1):=by
  intro n;unfold tri;have:(n+1) * (n+1+1)=n * (n+1)+(n+1) * 2:=by
   rw[Nat.mul_add (n+1) (n+1) 1,Nat.add_mul n 1 (n+1)];omega
  rw[this,Nat.add_mul_div_right _ _ ∅]
 induction hab with
 | refl=>rw[e];omega
 | step _ ih=>rw[e];omega
def B6(c:Nat×Nat):Nat:=tri (c.1+c.2)+c.1
theorem fM(h:B6 c=B6 d):c=d:=by
 unfold B6 at h;rcases Nat.lt_trichotomy (c.1+c.2) (d.1+d.2)with q | q | q
 ·have:=iK q;omega
 ·grind
 ·have:=iK q;omega
def o1(t:List Bool):Nat×Nat:=(dn t,rt t)
theorem Y1(t:List Bool):(o1 t).1+(o1 t).2=t.length:=V5 t
def j2(t:List Bool):Nat:=tri t.length+dn t
theorem dD(t:List Bool):j2 t=B6 (o1 t):=by unfold j2 B6;rw[Y1];rfl
def w7c(c:Nat×Nat)(h:Hnd):W7:=if c.1+c.2<h.1.length/\o1 (h.1.take (c.1+c.2))=c then sA (h.1.getD (c.1+c.2) false)else if o1 h.1=c then h.2.w7 else .out
theorem pA{t:List Bool}{j:Nat}(hj:j<=t.length):(o1 (t.take j)).1+(o1 (t.take j)).2=j:=by rw[Y1,Lh];omega
def pC(t:List Bool)(c:Nat×Nat)(i:Nat):Bool:=decide ((dn (t.take i),rt (t.take i))=c)
theorem vJ(c:Nat×Nat)(h:Hnd):kQ (pC h.1 c) h=w7c c h:=by
 have b:∀j,j<=h.1.length->pC h.1 c j=true->j=c.1+c.2:=λj a e=>by
  have e:o1 (h.1.take j)=c:=Kb e;have:=pA a;rw[e]at this;omega
 unfold kQ w7c;by_cases q:c.1+c.2<h.1.length/\o1 (h.1.take (c.1+c.2))=c
 ·rw[if_pos q,jV q.1 (λj a=>?_) (JQ q.2)];cases e:pC h.1 c j with
  | false=>rfl
  | true=>have:=b j ∅ e;omega
 ·rw[if_neg q,V0 λj a=>?_]
  ·simp only;have:pC h.1 c h.1.length=decide (o1 h.1=c):=by unfold pC;rw[MJ];rfl
   rw[this];by_cases z:o1 h.1=c
   ·grind
   ·grind
  ·cases e:pC h.1 c j with
   | false=>rfl
   | true=>
    have:=b j ∅ e;subst this;exact absurd ⟨a,Kb e⟩ q
theorem AI(t:List Bool)(w:Wd):w7c (o1 t) (t,w)=w.w7:=by
 unfold w7c;rw[if_neg (λz=>by have:=z.1;rw[Y1]at this;exact Lu _ this),if_pos rfl]
theorem dA(w w':Wd)(h:c≠o1 t):w7c c (t,w')=w7c c (t,w):=by
 unfold w7c;grind
theorem Bc(t:List Bool)(b:Bool)(w:Wd):w7c (o1 t) (t++[b],w)=sA b:=by
 unfold w7c;rw[Y1,if_pos ⟨by simp,by rw[List.take_left]⟩];simp
theorem kc(b:Bool)(w:Wd)(h:c≠o1 t):w7c c (t++[b],.out)=w7c c (t,w):=by
 unfold w7c;by_cases q:c.1+c.2<t.length
 ·have e:(t++[b]).take (c.1+c.2)=t.take (c.1+c.2):=List.take_append_of_le_length ∅;have g:(t++[b]).getD (c.1+c.2) false=t.getD (c.1+c.2) false:=by simp[List.getD,Jz q]
  rw[e,g];by_cases z:o1 (t.take (c.1+c.2))=c
  ·grind
  ·have a:¬ (c.1+c.2<(t++[b]).length/\o1 (t.take (c.1+c.2))=c):=λy=>z y.2;have d:¬ (c.1+c.2<t.length/\o1 (t.take (c.1+c.2))=c):=λy=>z y.2;rw[if_neg a,if_neg d,if_neg (Ne.symm h)];exact ite_self _
 ·have a:¬ (c.1+c.2<(t++[b]).length/\o1 ((t++[b]).take (c.1+c.2))=c):=λy=>by
   have l:=y.1;rw[JP,KP]at l;have e:c.1+c.2=t.length:=by omega
   have f:=y.2;rw[e,List.take_left]at f;exact h f.symm
  have d:¬ (c.1+c.2<t.length/\o1 (t.take (c.1+c.2))=c):=λy=>q y.1;rw[if_neg a,if_neg d,if_neg (Ne.symm h)];exact ite_self _
structure VN(size many:Nat)(r:Nst):Prop where
 s5:size<=5
 m5:many<=5
 bl:r.bx.length=tri size
 hl:r.hs.length=many
 tr:∀h∈r.hs,h.1.length<size
 mg:∀b∈r.bx,∀g,b.1=some g->g<many
def k8(size:Nat)(r:Nst)(i n:Nat)(b:Box)(t:List Bool)(w:Wd):Option Nst:=if size<=t.length then none else some ⟨r.bx.set n b,r.hs.set i (t,w)⟩
def j5(size:Nat)(r:Nst)(i:Nat):Option Nst:=match r.hs[i]? with
 | none=>none
 | some (t,w)=>match r.bx[j2 t]? with
  | none=>none
  | some (mk,cl)=>match w with
   | .out=>k8 size r i (j2 t) (some i,cl) t .ask
   | .ask=>if cl=true then k8 size r i (j2 t) (mk,cl) (t++[false]) .out else k8 size r i (j2 t) (mk,cl) t .close
   | .close=>k8 size r i (j2 t) (mk,true) t .look
   | .look=>if mk=some i then k8 size r i (j2 t) (mk,cl) t .holds else k8 size r i (j2 t) (mk,cl) (t++[true]) .out
   | .holds=>none
def CV(size:Nat)(r:Nst)(i:Nat)(t:List Bool)(mk:Option Nat)(cl:Bool):Wd->Option Nst
 | .out=>k8 size r i (j2 t) (some i,cl) t .ask
 | .ask=>if cl=true then k8 size r i (j2 t) (mk,cl) (t++[false]) .out else k8 size r i (j2 t) (mk,cl) t .close
 | .close=>k8 size r i (j2 t) (mk,true) t .look
 | .look=>if mk=some i then k8 size r i (j2 t) (mk,cl) t .holds else k8 size r i (j2 t) (mk,cl) (t++[true]) .out
 | .holds=>none
theorem uE{r:Nst}{i:Nat}{t:List Bool}{w:Wd}{mk:Option Nat}{cl:Bool}(a:r.hs[i]?=some (t,w))(b:r.bx[j2 t]?=some (mk,cl)):j5 size r i=CV size r i t mk cl w:=by
 unfold j5;rw[a];simp only;rw[b];ext w <;> rfl
theorem qI{b:Type}{l:List b}{i:Nat}{a:b}(h:l[i]?=some a):l.set i a=l:=by
 induction l generalizing i with
 | nil=>rfl
 | cons x l c=>
  cases i with
  | zero=>ext h;rfl
  | succ i=>grind
end L3.Nt
namespace L3.K92
open PySem PySem.Spec PyProof.Rows L2 L3.Nt
theorem sM(n:Nat)(hn:n<1000)(k:Nat)(S:Sto):rn (k+1) Ap [.int (n:Int)] S=.ok (.int (tri n:Int)) S:=by
 refine d8 ?_;rw[rn,a9 rfl,uZ];refine Ok.eq (aU n 1 S) (Ok.eq (V3 (.inl ⟨by omega,by omega⟩) S) (Ok.eq (T7 ⋯ ⋯ S) (Ok.ret ⟨?_,rfl⟩)));have:((n:Int) * ((n+1:Nat):Int) / 2)=((n * (n+1) / 2:Nat):Int):=by
  rw[<- NI];exact(Int.natCast_ediv (n * (n+1)) 2).symm
 rw[this];rfl
theorem bM(t:List Bool)(k:Nat)(S:Sto):rn (k+1) Bi [trD t] S=.ok (.tup [.int (dn t:Int),.int (rt t:Int)]) S:=by
 refine d8 ?_;rw[rn,a9 rfl,xL];exact Ok.eq rfl (Ok.eq (xf t S) (Ok.eq rfl (Ok.eq (oP t S) (Ok.ret ⟨rfl,rfl⟩))))
theorem gx(d r:Nat)(h:d+r<1000)(k:Nat)(S:Sto):rn (k+2) df [.tup [.int (d:Int),.int (r:Int)]] S=.ok (.int ((tri (d+r)+d:Nat):Int)) S:=by
 refine d8 ?_;rw[rn,a9 rfl,yf];have e:xV (.tup [.int (d:Int),.int (r:Int)]) S=.ok (.int ((d+r:Nat):Int)) S:=by
  show R.ok (D.int ((d:Int)+((r:Int)+0))) S=_;rw[show((d:Int)+((r:Int)+0))=((d+r:Nat):Int) by omega]
 exact Ok.eq e (Ok.eq (sM (d+r) h k S) (Ok.eq rfl (Ok.eq (aU _ _ _) (Ok.ret ⟨rfl,rfl⟩))))
def pN(t:List Bool)(n i:Nat):Bool:=decide (tri (dn (t.take i)+rt (t.take i))+dn (t.take i)=n)
theorem Cc(hl:h.1.length<100)(n k:Nat)(S:Sto):Ok (rn (k+3) uS [hdD h,.int (n:Int)]) S λd S'=>d=w8 (pN h.1 n) h/\S'=S:=by
 obtain⟨t,w⟩:=h;have hl:t.length<100:=hl;rw[rn,a9 rfl,vp,xR];refine Ok.first<|Ok.cg (Dp ..)<|Ok.eq rfl<|Ok.nxt<|Ok.cg (Hc ..)<|Ok.eq (by show R.ok (C4 (t.map D0),(t.map D0).length+1) S=_;rw[Jr]) (Ok.bind ((Ok.for_ (n:=t.length) (λi ρ S'=>S'=S/\(∀j,j<i->pN t n j=false)/\∃o4 o5:Option D,ρ=[some (hdD (t,w)),some (.int (n:Int)),some (trD t),some w.d,o4,o5]) (λ_ _=>False) (λd S'=>d=w8 (pN t n) (t,w)/\S'=S) ?_ ?_ t.length 0 _ _ ∅ ⟨rfl,λj hj=>by omega,_,_,rfl⟩).mono ?_))
 ·intro ρ S' _;simp only[C4];rw[Kn (by rw[Jr];exact Ju _),Jr];simp
 ·rintro i ρ S' hi ⟨rfl,hp,o4,o5,rfl⟩;have e1:(t.map D0)[i]?=some (D0 (t.getD i false)):=by
   rw[JU,Jw hi];simp[hi]
  refine⟨.tup [.int (i:Int),D0 (t.getD i false)],[some (hdD (t,w)),some (.int (n:Int)),some (trD t),some w.d,some (.int (i:Int)),some (D0 (t.getD i false))],by simp only[C4,e1],rfl,?_⟩;unfold gS;rw[gP];refine Ok.first<|Ok.cg (nC ..)<|Ok.eq rfl<|Ok.eq (by show R.ok (D.tup (G3 (t.map D0) none (some (i:Int)))) S'=_;rw[gC (by rw[Jr];omega),<- List.map_take];rfl)<|Ok.eq (bM _ (k+1) S')<|Ok.eq (gx _ _ (by rw[V5,Lh];omega) k S')<|Ok.eq (E8 _ _ _)<|Ok.eq (h8 _ _) ?_;by_cases q:tri (dn (t.take i)+rt (t.take i))+dn (t.take i)=n
  ·refine Ok.pos (JQ ∅) (Ok.ret ⟨?_,rfl⟩);unfold w8;rw[jV hi hp (JQ q)]
  ·refine Ok.neg (by rw[JR ∅];exact Jt) (Ok.ret ⟨rfl,λj hj=>?_,_,_,rfl⟩);by_cases hji:j=i
   ·rw[hji];exact JR q
   ·exact hp j ∅
 ·rintro fl S' hf;cases fl with
  | nx ρ=>
   rcases hf with ⟨rfl,hp,o4,o5,rfl⟩ | hf
   ·refine Ok.nxt<|Ok.cg (FC ..)<|Ok.eq (bM t (k+1) S')<|Ok.eq (gx _ _ (by rw[V5];omega) k S')<|Ok.eq (E8 _ _ _)<|Ok.eq (h8 _ _) ?_;have e:(pN t n t.length)=decide (tri (dn t+rt t)+dn t=n):=by unfold pN;rw[MJ]
    by_cases q:tri (dn t+rt t)+dn t=n
    ·refine Ok.pos (JQ ∅) (Ok.ret ⟨?_,rfl⟩);unfold w8;rw[V0 hp];rw[e,JQ q,if_pos rfl]
    ·refine Ok.neg (by rw[JR ∅];exact Jt) (Ok.ret ⟨?_,rfl⟩);unfold w8;rw[V0 hp];rw[e,JR q,if_neg Jt]
   ·exact hf.elim
  | rt d=>exact Ok.ret hf
  | bk ρ=>exact hf.elim
  | ct ρ=>exact hf.elim
theorem rj(ds:List D)(S:Sto):j4 (.tup ds) S=.ok (A2 ds,ds.length+1) S:=rfl
def yg(r:Nst)(b:Box)(p:Hnd->Nat->Bool):D:=.tup [oD b.1,.bl b.2,.tup (r.hs.map λh=>w8 (p h) h)]
theorem fJ{b:Box}{n:Nat}(g:r.bx[n]?=some b)(j:∀h∈r.hs,h.1.length<100)(c:r.hs.length<=6)(o:D)(k:Nat)(S:Sto):Ok (rn (k+4) dj [o,r.d,.int (n:Int)]) S λd S'=>d=yg r b (λh=>pN h.1 n)/\S'=S:=by
 rw[rn,a9 rfl,wN,wY];refine Ok.first<|Ok.cg (Ga ..)<|Ok.eq rfl<|Ok.nxt<|Ok.cg (HZ ..)<|Ok.eq (g5 S (n4 g))<|Ok.eq rfl<|Ok.nxt<|Ok.cg (GP ..)<|nx_bind<|Ok.eq (rj _ S) ?_;rw[Jr];have e:=i2 (t:=λ_=>ret true) (f:=λd=>bind (rn (k+3) uS [d,.int (n:Int)]) λx=>ret x) (Hr c) (λa _=>rfl) (λa i _=>by
  rw[a7 (d8 (Cc (j a i) n k S))];rfl)
 rw[La.mpr (by simp)]at e;exact⟨_,_,e,Ok.eq rfl (Ok.ret ⟨rfl,rfl⟩)⟩
theorem Ah{size:Nat}(h5:size<=5){t:List Bool}(ht:t.length<size):j2 t<tri size:=by
 have h1:dn t<=t.length:=by have:=V5 t;omega
 unfold j2;generalize t.length=l at *;generalize dn t=d at *;have t0:tri 0=0:=rfl;have t1:tri 1=1:=rfl;have t2:tri 2=3:=rfl;have t3:tri 3=6:=rfl;have t4:tri 4=10:=rfl;have t5:tri 5=15:=rfl;have a:size=1\/size=2\/size=3\/size=4\/size=5:=by omega
 have b:l=0\/l=1\/l=2\/l=3\/l=4:=by omega
 rcases a with rfl | rfl | rfl | rfl | rfl <;> rcases b with rfl | rfl | rfl | rfl | rfl <;> omega
theorem zp{size:Nat}(h:size<=5):tri size<=15:=by
 have a:size=0\/size=1\/size=2\/size=3\/size=4\/size=5:=by omega
 rcases a with rfl | rfl | rfl | rfl | rfl | rfl <;> decide
def gD:Option Nst->D
 | none=>.non
 | some r=>r.d
def exS(i:Nat):O:=.exc 1 [("hand",.int (i:Int))]
def _root_.L3.Nt.Wd.o:Wd->Wo
 | .out=>.out
 | .ask=>.ask
 | .close=>.close
 | .look=>.look
 | .holds=>.holds
theorem o_d(w:Wd):w.o.d=w.d:=by ext w <;> rfl
theorem AY{i:Nat}{ws:List D}(b:ws[i]?=some Wd.holds.d)(c:i<100)(k:Nat)(S:Sto):Xn (rn (k+2) aV [.tup [oD mk,.bl cl,.tup ws],.int (i:Int)]) S λn S'=>n=S.length/\S'=S++[exS i]:=by
 rw[rn,a9 rfl,tE,rR];exact Xn.first<|Xn.cg (FK ..)<|Xn.eq rfl<|Xn.nxt<|Xn.cg (HW ..)<|Xn.eq (g5 S b)<|Xn.nxt<|Xn.cg (HE ..)<|Xn.eq (a:=.bl true) (by kernel_rfl)<|Xn.eq rfl<|Xn.pos rfl<|raise_k rfl (Eg (qM ⟨by omega,by omega⟩))
theorem yp(w:Wd)(k:Nat)(S:Sto):rn (k+1) lP [trD t,w.d] S=.ok (hdD (t,w)) S:=by
 refine d8 ?_;rw[rn,a9 rfl,sW];exact Ok.eq (a:=.bl false) (by ext w <;> kernel_rfl)<|Ok.eq rfl<|Ok.neg ⋯<|Ok.ret ⟨rfl,rfl⟩
theorem gV(b:Bool)(d:t.length<=5)(k:Nat)(S:Sto):rn (k+1) lP [trD t,D0 b] S=.ok (hdD (t++[b],.out)) S:=by
 refine d8 ?_;have e:(1000:Nat)<=sizeLine:=by decide
 have c:o9 (trD t) (.tup [D0 b]) S=.ok (trD (t++[b])) S:=by
  rw[trD,cat_tup (by simp;omega)];show R.ok (D.tup (t.map D0++[D0 b])) S=.ok (.tup ((t++[b]).map D0)) S;rw[KW];rfl
 rw[rn,a9 rfl,sW];exact Ok.eq (a:=.bl true) (by ext b <;> kernel_rfl)<|Ok.eq rfl<|Ok.pos rfl<|Ok.eq c<|Ok.ret ⟨rfl,rfl⟩
theorem oe(h:Hnd):w8 (pN h.1 (j2 h.1)) h=h.2.d:=by
 have p:∀j,pN h.1 (j2 h.1) j=decide (tri (h.1.take j).length+dn (h.1.take j)=tri h.1.length+dn h.1):=λj=>by
  unfold pN j2;rw[V5]
 have mono:∀a b:Nat,a<b->tri a+a<tri b:=by
  intro a b hab;have e:∀n,tri (n+1)=tri n+(n+1):=by
   intro n;unfold tri;have:(n+1) * (n+1+1)=n * (n+1)+(n+1) * 2:=by
    rw[Nat.mul_add (n+1) (n+1) 1,Nat.add_mul n 1 (n+1)];omega
   rw[this,Nat.add_mul_div_right _ _ ∅]
  induction hab with
  | refl=>rw[e];omega
  | step _ ih=>rw[e];omega
 have dl:=λt=>by have:=V5 t;omega
 unfold w8;grind
section
variable {size:Nat}{r:Nst}{i n:Nat}{t:List Bool}{w:Wd}{k:Nat}{S:Sto}{x0:D}
theorem qV(ha:r.hs[i]?=some (t,w))(en:rn (k+4) df [.tup [.int (dn t:Int),.int (rt t:Int)]] S=.ok (.int (n:Int)) S)(el:rn (k+4) dj [.int (size:Int),r.d,.int (n:Int)] S=.ok x0 S)(ed:rn (k+4) aV [x0,.int (i:Int)] S=.ok (.tup [oD m,.bl c,.tup ws]) S)
  (h:Ok (nxt (evK Rs Γ (rn (k+4)) 40) F9 [nth Id.body 4,nth Id.body 5,nth Id.body 6] endD (.nx [some (.int (size:Int)),some r.d,some (.int (i:Int)),some (.tup (r.bx.map bxD)),some (.tup (r.hs.map hdD)),some (trD t),some (.int (n:Int)),some (oD m),some (.bl c),some (.tup ws),none])) S Q):Ok (rn (k+5) A0 [.int (size:Int),r.d,.int (i:Int)]) S Q:=by
 rw[rn,a9 rfl,dG,ck];exact Ok.first<|Ok.cg (pk ..)<|Ok.eq rfl<|Ok.nxt<|Ok.cg (tO ..)<|Ok.eq (g5 S (n4 ha))<|Ok.eq rfl<|Ok.nxt<|Ok.cg (qE ..)<|Ok.eq (bM t (k+3) S)<|Ok.eq en<|Ok.nxt<|Ok.cg (uC ..)<|Ok.eq el<|Ok.eq ed<|Ok.eq rfl h
theorem By(ha:r.hs[i]?=some (t,w))(en:rn (k+4) df [.tup [.int (dn t:Int),.int (rt t:Int)]] S=.ok (.int (n:Int)) S)(el:rn (k+4) dj [.int (size:Int),r.d,.int (n:Int)] S=.ok x0 S)(ed:rn (k+4) aV [x0,.int (i:Int)] S=.ok (.tup [oD m,.bl c,.tup ws]) S)
  (h:Xn (nxt (evK Rs Γ (rn (k+4)) 40) F9 [nth Id.body 4,nth Id.body 5,nth Id.body 6] endD (.nx [some (.int (size:Int)),some r.d,some (.int (i:Int)),some (.tup (r.bx.map bxD)),some (.tup (r.hs.map hdD)),some (trD t),some (.int (n:Int)),some (oD m),some (.bl c),some (.tup ws),none])) S Q):Xn (rn (k+5) A0 [.int (size:Int),r.d,.int (i:Int)]) S Q:=by
 rw[rn,a9 rfl,dG,ck];exact Xn.first<|Xn.cg (pk ..)<|Xn.eq rfl<|Xn.nxt<|Xn.cg (tO ..)<|Xn.eq (g5 S (n4 ha))<|Xn.eq rfl<|Xn.nxt<|Xn.cg (qE ..)<|Xn.eq (bM t (k+3) S)<|Xn.eq en<|Xn.nxt<|Xn.cg (uC ..)<|Xn.eq el<|Xn.eq ed<|Xn.eq rfl h
theorem CL(ha:r.hs[i]?=some (t,w))(en:rn (k+4) df [.tup [.int (dn t:Int),.int (rt t:Int)]] S=.ok (.int (n:Int)) S)(el:rn (k+4) dj [.int (size:Int),r.d,.int (n:Int)] S=.ok x0 S)(ed:Xn (rn (k+4) aV [x0,.int (i:Int)]) S Q):Xn (rn (k+5) A0 [.int (size:Int),r.d,.int (i:Int)]) S Q:=by
 rw[rn,a9 rfl,dG,ck];exact Xn.first<|Xn.cg (pk ..)<|Xn.eq rfl<|Xn.nxt<|Xn.cg (tO ..)<|Xn.eq (g5 S (n4 ha))<|Xn.eq rfl<|Xn.nxt<|Xn.cg (qE ..)<|Xn.eq (bM t (k+3) S)<|Xn.eq en<|Xn.nxt<|Xn.cg (uC ..)<|Xn.eq el<|Xn.bind ed
theorem rZ{ws:List D}{y:D}(e:ws[i]?=some y)(a:rn (k+4) lP [trD t,y] S=.ok (hdD (t',w')) S)(h:t'.length<size)(g:n<r.bx.length)(f:i<r.hs.length)(j:r.bx.length<=15)(l:r.hs.length<=6):Ok (nxt (evK Rs Γ (rn (k+4)) 40) F9 [nth Id.body 4,nth Id.body 5,nth Id.body 6] endD (.nx [some (.int (size:Int)),some r.d,some (.int (i:Int)),some (.tup (r.bx.map bxD)),some (.tup (r.hs.map hdD)),some (trD t),some (.int (n:Int)),some (oD m),some (.bl c),some (.tup ws),none])) S λd S'=>d=gD (k8 size r i n (m,c) t' w')/\S'=S:=by
 have b:D2 (trD t') S=.ok (.int (t'.length:Int)) S:=(v6 _ S).trans (by rw[Jr]);refine Ok.nxt<|Ok.cg (zA ..)<|Ok.eq (g5 S e)<|Ok.eq a<|Ok.nxt<|Ok.cg (zg ..)<|Ok.eq rfl<|Ok.eq b<|Ok.eq (zv _ _ _)<|Ok.eq (h8 _ _)<|Ok.neg (by rw[JR ∅];decide)<|Ok.nxt<|Ok.cg (FH ..)<|Ok.eq (dH (.tup [oD m,.bl c]) (by rw[Jr];exact g) (by rw[Jr];omega) (k+3) S)<|Ok.eq (dH (hdD (t',w')) (by rw[Jr];exact f) (by rw[Jr];omega) (k+3) S)<|Ok.ret ⟨?_,rfl⟩;unfold k8;rw[if_neg ∅];show D.tup [.tup ((r.bx.map bxD).set n (bxD (m,c))),.tup ((r.hs.map hdD).set i (hdD (t',w')))]=.tup [.tup ((r.bx.set n (m,c)).map bxD),.tup ((r.hs.set i (t',w')).map hdD)];simp_all
theorem BE{ws:List D}{y:D}(d:ws[i]?=some y)(a:rn (k+4) lP [trD t,y] S=.ok (hdD (t',w')) S)(e:size<=t'.length)(f:i<100):Xn (nxt (evK Rs Γ (rn (k+4)) 40) F9 [nth Id.body 4,nth Id.body 5,nth Id.body 6] endD (.nx [some (.int (size:Int)),some r.d,some (.int (i:Int)),some (.tup (r.bx.map bxD)),some (.tup (r.hs.map hdD)),some (trD t),some (.int (n:Int)),some (oD m),some (.bl c),some (.tup ws),none])) S λn S'=>n=S.length/\S'=S++[exS i]:=by
 have b:D2 (trD t') S=.ok (.int (t'.length:Int)) S:=(v6 _ S).trans (by rw[Jr]);exact Xn.nxt<|Xn.cg (zA ..)<|Xn.eq (g5 S d)<|Xn.eq a<|Xn.nxt<|Xn.cg (zg ..)<|Xn.eq rfl<|Xn.eq b<|Xn.eq (zv _ _ _)<|Xn.eq (h8 _ _)<|Xn.pos (JQ ∅)<|raise_k rfl (Eg (qM ⟨by omega,by omega⟩))
end
section
variable {size many:Nat}{r:Nst}(V:VN size many r){i:Nat}(hi:i<many)(k:Nat)(S:Sto)
include V hi
theorem tW:(j5 size r i=none->Xn (rn (k+5) A0 [.int (size:Int),r.d,.int (i:Int)]) S λn S'=>n=S.length/\S'=S++[exS i])/\(j5 size r i≠none->rn (k+5) A0 [.int (size:Int),r.d,.int (i:Int)] S=.ok (gD (j5 size r i)) S):=by
 have b1:=V.bl;have b2:=V.hl;have b3:=V.s5;have b4:=V.m5;have b5:=zp b3;have hi':i<r.hs.length:=by omega
 have ha:=Jw hi';have htr:=V.tr r.hs[i] (JX hi');generalize r.hs[i]=h at ha htr;obtain⟨t,w⟩:=h;have htr:t.length<size:=htr;have hn:j2 t<r.bx.length:=by rw[b1];exact Ah b3 htr
 have hb:=Jw hn;generalize r.bx[j2 t]=b at hb;obtain⟨mk,cl⟩:=b;have hst:=uE (size:=size) ha hb;have nm:(tri (dn t+rt t)+dn t:Nat)=j2 t:=by unfold j2;rw[V5]
 have el:=d8 (fJ hb (λh hh=>by have:=V.tr h hh;omega) ∅ (.int (size:Int)) k S);obtain⟨ws,hws⟩:∃ws,ws=r.hs.map λh=>w8 (pN h.1 (j2 t)) h:=⟨_,rfl⟩;have hl:yg r (mk,cl) (λh=>pN h.1 (j2 t))=.tup [oD mk,.bl cl,.tup ws]:=by rw[hws];rfl
 rw[hl]at el;have wi:ws[i]?=some w.d:=by rw[hws,n4 ha];exact congrArg some (oe (t,w))
 have wl:ws.length<=6:=by rw[hws,Jr];omega
 clear hws hl;have en:=gx (dn t) (rt t) (by have:=V5 t;omega) (k+2) S;rw[nm]at en;have is:∀y:D,(ws.set i y)[i]?=some y:=λy=>Ke (Js.mp wi).1;have stay:∀(m:Option Nat)(c:Bool)(w':Wd),bh mk cl i w.o=some (m,c,w'.s)->j5 size r i=k8 size r i (j2 t) (m,c) t w'->w≠.holds->rn (k+5) A0 [.int (size:Int),r.d,.int (i:Int)] S=.ok (gD (j5 size r i)) S/\j5 size r i≠none:=by
  intro m c w' e1 e2 nh;have eb:bhD mk cl i w.o ws=.tup [oD m,.bl c,.tup (ws.set i w'.d)]:=by unfold bhD;rw[e1];rfl
  have ed:=hG (mk:=mk) (cl:=cl) (w:=w.o) (wi.trans (congrArg some (o_d w).symm)) wl (by rw[e1];exact λz=>by ext z) (k+2) S;rw[eb]at ed;refine⟨?_,?_⟩
  ·rw[e2];exact d8 (qV ha en el ed (rZ (is _) (yp w' (k+3) S) htr hn hi' ∅ ∅))
  ·rw[e2];unfold k8;rw[if_neg ∅];exact λz=>by ext z
 have leave:∀(m:Option Nat)(c b:Bool),bh mk cl i w.o=some (m,c,M4 b)->j5 size r i=k8 size r i (j2 t) (m,c) (t++[b]) .out->w≠.holds->(j5 size r i=none->Xn (rn (k+5) A0 [.int (size:Int),r.d,.int (i:Int)]) S λn S'=>n=S.length/\S'=S++[exS i])/\(j5 size r i≠none->rn (k+5) A0 [.int (size:Int),r.d,.int (i:Int)] S=.ok (gD (j5 size r i)) S):=by
  intro m c b e1 e2 nh;have eb:bhD mk cl i w.o ws=.tup [oD m,.bl c,.tup (ws.set i (D0 b))]:=by unfold bhD;rw[e1];rfl
  have ed:=hG (mk:=mk) (cl:=cl) (w:=w.o) (wi.trans (congrArg some (o_d w).symm)) wl (by rw[e1];exact λz=>by ext z) (k+2) S;rw[eb]at ed;rw[e2];by_cases q:size<=(t++[b]).length
  ·refine⟨λ_=>By ha en el ed (BE (is _) (gV b ∅ (k+3) S) q ∅),λz=>(z ?_).elim⟩;unfold k8;exact if_pos q
  ·refine⟨λz=>?_,λ_=>d8 (qV ha en el ed (rZ (is _) (gV b ∅ (k+3) S) ∅ hn hi' ∅ ∅))⟩;unfold k8 at z;rw[if_neg q]at z;ext z
 have of_stay:(rn (k+5) A0 [.int (size:Int),r.d,.int (i:Int)] S=.ok (gD (j5 size r i)) S/\j5 size r i≠none)->(j5 size r i=none->Xn (rn (k+5) A0 [.int (size:Int),r.d,.int (i:Int)]) S λn S'=>n=S.length/\S'=S++[exS i])/\(j5 size r i≠none->rn (k+5) A0 [.int (size:Int),r.d,.int (i:Int)] S=.ok (gD (j5 size r i)) S):=λh=>⟨λz=>(h.2 z).elim,λ_=>h.1⟩;cases w with
 | out=>exact of_stay (stay (some i) cl .ask rfl hst (by intro z;ext z))
 | ask=>
  cases cl with
  | true=>exact leave mk true false rfl hst (by intro z;ext z)
  | false=>exact of_stay (stay mk false .close rfl hst (by intro z;ext z))
 | close=>exact of_stay (stay mk true .look rfl hst (by intro z;ext z))
 | look=>
  by_cases q:mk=some i
  ·exact of_stay (stay mk cl .holds (AJ q) (by rw[hst];exact if_pos q) (by intro z;ext z))
  ·exact leave mk cl true (zP q) (by rw[hst];exact if_neg q) (by intro z;ext z)
 | holds=>exact⟨λ_=>CL ha en el (AY wi ∅ (k+2) S),λz=>(z hst).elim⟩
end
section
variable {size many:Nat}{r:Nst}(V:VN size many r){i:Nat}(hi:i<many)
include V hi
theorem wI{r':Nst}(e:j5 size r i=some r'):VN size many r':=by
 have put:∀{n:Nat}{b:Box}{t:List Bool}{w:Wd},k8 size r i n b t w=some r'->(∀g,b.1=some g->g<many)->VN size many r':=by
  intro n b t w e hb;unfold k8 at e;split at e
  ·ext e
  ·rename_i q;ext e;refine⟨V.s5,V.m5,by simp[V.bl],by simp[V.hl],λh hh=>?_,λx hx=>?_⟩
   ·rcases Nd hh with z | z
    ·exact V.tr h z
    ·rw[z];show t.length<size;omega
   ·rcases Nd hx with z | z
    ·exact V.mg x z
    ·rw[z];exact hb
 have b4:=V.m5;cases ha:r.hs[i]? with
 | none=>unfold j5 at e;rw[ha]at e;ext e
 | some h=>
  obtain⟨t,w⟩:=h;cases hb:r.bx[j2 t]? with
  | none=>unfold j5 at e;rw[ha]at e;simp only at e;rw[hb]at e;ext e
  | some b=>
   obtain⟨mk,cl⟩:=b;have hm:∀g,mk=some g->g<many:=V.mg (mk,cl) (JL hb);rw[uE ha hb]at e;cases w with
   | out=>exact put (n:=j2 t) (b:=(some i,cl)) (t:=t) (w:=.ask) e λg z=>by ext z;omega
   | ask=>
    cases cl with
    | true=>exact put (n:=j2 t) (b:=(mk,true)) (t:=t++[false]) (w:=.out) e hm
    | false=>exact put (n:=j2 t) (b:=(mk,false)) (t:=t) (w:=.close) e hm
   | close=>exact put (n:=j2 t) (b:=(mk,true)) (t:=t) (w:=.look) e hm
   | look=>
    by_cases q:mk=some i
    ·exact put (n:=j2 t) (b:=(mk,cl)) (t:=t) (w:=.holds) ((if_pos q).symm.trans e) hm
    ·exact put (n:=j2 t) (b:=(mk,cl)) (t:=t++[true]) (w:=.out) ((if_neg q).symm.trans e) hm
   | holds=>ext e
end
def o7:W7->Wo
 | .out=>.out
 | .ask=>.ask
 | .close=>.close
 | .look=>.look
 | .holds=>.holds
 | .right=>.right
 | .down=>.down
theorem IB(w:W7):(o7 w).d=w.d:=by ext w <;> rfl
theorem Gn(w:Wd):o7 w.w7=w.o:=by ext w <;> rfl
def loc(r:Nst)(c:Nat×Nat)(b:Box):Dst:=⟨b.1,b.2,r.hs.map λh=>o7 (w7c c h)⟩
theorem IR(t:List Bool)(c:Nat×Nat)(i:Nat):pN t (B6 c) i=pC t c i:=by
 unfold pN pC;exact decide_eq_decide.mpr ⟨λh=>fM (c:=(_,_)) h,λh=>by rw[<- h];rfl⟩
theorem Hf(r:Nst)(c:Nat×Nat)(b:Box):yg r b (λh=>pN h.1 (B6 c))=(loc r c b).d:=by
 unfold yg loc Dst.d;rw[Lf];refine congrArg (λx=>D.tup [_,_,.tup x]) (List.map_congr_left λh _=>?_);show w8 (pN h.1 (B6 c)) h=(o7 (w7c c h)).d;rw[IB,<- vJ,xg,show pN h.1 (B6 c)=pC h.1 c from funext (IR h.1 c)]
theorem og{size many:Nat}{r:Nst}(V:VN size many r){c:Nat×Nat}{b:Box}(hb:r.bx[B6 c]?=some b):DI many (loc r c b):=
 ⟨(Jr _).trans V.hl,V.mg b (JL hb)⟩
theorem sO{size many:Nat}{r r':Nst}(V:VN size many r){i:Nat}(e:j5 size r i=some r'){c:Nat×Nat}{b:Box}(hb:r.bx[B6 c]?=some b):∃b',r'.bx[B6 c]?=some b'/\(loc r' c b'=loc r c b\/step (loc r c b) i=some (loc r' c b')):=by
 have put:∀{t t':List Bool}{w w':Wd}{b0 b1:Box},r.hs[i]?=some (t,w)->r.bx[j2 t]?=some b0->k8 size r i (j2 t) b1 t' w'=some r'->(∀c,c≠o1 t->w7c c (t',w')=w7c c (t,w))->step (loc r (o1 t) b0) i=some ⟨b1.1,b1.2,(loc r (o1 t) b0).ws.set i (o7 (w7c (o1 t) (t',w')))⟩->∃b',r'.bx[B6 c]?=some b'/\(loc r' c b'=loc r c b\/step (loc r c b) i=some (loc r' c b')):=by
  intro t t' w w' b0 b1 ha h0 eg ho es;unfold k8 at eg;split at eg
  ·ext eg
  ·ext eg;by_cases q:c=o1 t
   ·subst q;rw[<- dD,h0]at hb;ext hb;refine⟨b1,?_,.inr ?_⟩
    ·show(r.bx.set (j2 t) b1)[B6 (o1 t)]?=some b1;rw[<- dD];exact Ke (Js.mp h0).1
    ·rw[es];show _=some (Dst.mk b1.1 b1.2 ((r.hs.set i (t',w')).map λh=>o7 (w7c (o1 t) h)));rw[List.map_set];rfl
   ·refine⟨b,?_,.inl ?_⟩
    ·show(r.bx.set (j2 t) b1)[B6 c]?=some b;rw[Kk (λz=>q (fM (by rw[<- z,dD])))];exact hb
    ·show Dst.mk b.1 b.2 ((r.hs.set i (t',w')).map λh=>o7 (w7c c h))=_;rw[List.map_set,ho c q,qI (by rw[JU,ha];rfl)];rfl
 cases ha:r.hs[i]? with
 | none=>unfold j5 at e;rw[ha]at e;ext e
 | some h=>
  obtain⟨t,w⟩:=h;cases h0:r.bx[j2 t]? with
  | none=>unfold j5 at e;rw[ha]at e;simp only at e;rw[h0]at e;ext e
  | some b0=>
   obtain⟨mk,cl⟩:=b0;rw[uE ha h0]at e;have ow:(loc r (o1 t) (mk,cl)).ws[i]?=some w.o:=by
    show(r.hs.map λh=>o7 (w7c (o1 t) h))[i]?=_;rw[JU,ha];show some (o7 (w7c (o1 t) (t,w)))=_;rw[AI,Gn]
   have st:∀(w':Wd),o7 (w7c (o1 t) (t,w'))=w'.o:=λw'=>by rw[AI,Gn]
   have lv:∀(b:Bool)(w':Wd),o7 (w7c (o1 t) (t++[b],w'))=o7 (sA b):=λb w'=>by rw[Bc]
   cases w with
   | out=>exact put ha h0 e (λc q=>dA _ _ q) (by unfold K92.step;rw[ow,st];rfl)
   | ask=>
    cases cl with
    | true=>exact put (t':=t++[false]) (w':=.out) (b1:=(mk,true)) ha h0 e (λc q=>kc _ _ q) (by unfold K92.step;rw[ow,lv];rfl)
    | false=>exact put (t':=t) (w':=.close) (b1:=(mk,false)) ha h0 e (λc q=>dA _ _ q) (by unfold K92.step;rw[ow,st];rfl)
   | close=>exact put ha h0 e (λc q=>dA _ _ q) (by unfold K92.step;rw[ow,st];rfl)
   | look=>
    by_cases q:mk=some i
    ·exact put (t':=t) (w':=.holds) (b1:=(mk,cl)) ha h0 ((if_pos q).symm.trans e) (λc q=>dA _ _ q) (by
      unfold K92.step;rw[ow,st];show some (Dst.mk mk cl (List.set _ i (if mk=some i then Wo.holds else .down)))=_;rw[if_pos q];rfl)
    ·exact put (t':=t++[true]) (w':=.out) (b1:=(mk,cl)) ha h0 ((if_neg q).symm.trans e) (λc q=>kc _ _ q) (by
      unfold K92.step;rw[ow,lv];show some (Dst.mk mk cl (List.set _ i (if mk=some i then Wo.holds else .down)))=_;rw[if_neg q];rfl)
   | holds=>ext e
def N0(size many:Nat):Nst:=⟨List.replicate (tri size) (none,false),List.replicate many ([],.out)⟩
theorem IH{size:Nat}(h0:1<=size)(h5:size<=5):size=1\/size=2\/size=3\/size=4\/size=5:=by omega
theorem yB{size many:Nat}(h0:1<=size)(h5:size<=5)(m1:1<=many)(m2:many<=2)(k:Nat)(S:Sto):rn (k+2) DR [.int (size:Int),.int (many:Int)] S=.ok (N0 size many).d S:=by
 refine d8 ?_;rw[rn,a9 (fd:=tu) rfl,vP];have e1:C3 (.tup [(.tup [.non,(.bl false)])]) (.int (tri size:Int)) S=.ok (.tup (List.replicate (tri size) (.tup [.non,.bl false]))) S:=by
  rcases IH h0 h5 with rfl | rfl | rfl | rfl | rfl <;> kernel_rfl
 have e2:C3 (.tup [(.tup [(.tup []),(.str "out")])]) (.int (many:Int)) S=.ok (.tup (List.replicate many (.tup [.tup [],.str "out"]))) S:=by
  have:many=1\/many=2:=by omega
  rcases this with rfl | rfl <;> kernel_rfl
 refine Ok.eq (sM size ∅ k S)<|Ok.eq e1<|Ok.eq e2<|Ok.ret ⟨?_,rfl⟩;unfold N0 Nst.d;rw[Nb,Nb];rfl
theorem N0.vn{size many:Nat}(h0:1<=size)(h5:size<=5)(m2:many<=2):VN size many (N0 size many):=
 ⟨h5,JW m2 ⋯,KC,KC,λh hh=>by rw[(List.mem_replicate.mp hh).2];exact h0,λb hb g z=>by rw[(List.mem_replicate.mp hb).2]at z;cases z⟩
def So(size:Nat)(ps:List Sen)(r:Nst):Prop:=∀c:Nat×Nat,c.1+c.2<size->∃b,r.bx[B6 c]?=some b/\j8 ps (loc r c b)=none
theorem pb:((List.range 6).all λsize=>(List.range (tri size)).all λn=>(List.range 5).any λa=>(List.range 5).any λb=>decide (a+b<size)&&decide (B6 (a,b)=n))=true:=by decide +kernel
theorem Dg{size n:Nat}(h5:size<=5)(hn:n<tri size):∃c:Nat×Nat,c.1+c.2<size/\B6 c=n:=by
 have h:=JM.mp (JM.mp pb size (KE.mpr ∅)) n (KE.mpr hn);obtain⟨a,_,h⟩:=List.any_eq_true.mp h;obtain⟨b,_,h⟩:=List.any_eq_true.mp h;rw[Jp,JJ,JJ]at h;exact⟨(a,b),h⟩
theorem wR{size:Nat}{c:Nat×Nat}(h:c.1+c.2<size):B6 c<tri size:=by
 have:=iK h;unfold B6;omega
theorem N0.so{size many:Nat}{ps:List Sen}(hc:Car many ps):So size ps (N0 size many):=λc h=>by
 refine⟨(none,false),?_,?_⟩
 ·show(List.replicate (tri size) (none,false))[B6 c]?=_;rw[Kv,if_pos (wR h)]
 ·have:loc (N0 size many) c (none,false)=s0 many:=by
   show Dst.mk none false ((List.replicate many ([],Wd.out)).map λh=>o7 (w7c c h))=_;rw[Nb,show o7 (w7c c ([],Wd.out))=.out by
    unfold w7c;rw[if_neg (λz=>Nat.not_lt_zero _ z.1)];exact(apply_ite o7 _ _ _).trans (ite_self _)]
   rfl
  rw[this];exact hc.f0
theorem So.step{size many:Nat}{ps:List Sen}{r r':Nst}(hc:Car many ps)(V:VN size many r)(G:So size ps r){i:Nat}(hi:i<many)(e:j5 size r i=some r'):So size ps r':=λc h=>by
 obtain⟨b,hb,hf⟩:=G c h;obtain⟨b',hb',q⟩:=sO V e hb;refine⟨b',hb',?_⟩;rcases q with q | q
 ·rw[q];exact hf
 ·exact hc.st _ _ i (og V hb) hf hi q
theorem BQ{ps:List Sen}{s:Dst}(h:j8 ps s=none):∀q∈ps,q.so s=true:=λq hq=>by
 have:=Mb.mp h q hq;simpa using this
theorem eL{size many:Nat}{ps:List Sen}{r:Nst}(hl:ps.length<1000)(hok:∀q∈ps,SOk q)(h0:1<=size)(m3:many<=3)(V:VN size many r)(G:So size ps r)(k:Nat)(S:Sto):Ok (rn (k+10) BC [.int (size:Int),r.d,paD ps]) S λd S'=>d=.bl true/\S'=S:=by
 rw[rn,a9 (fd:=Jh) rfl,vt,xG];have s5:=V.s5;have et:((size:Int) * ((size+1:Nat):Int) / 2)=(tri size:Int):=by
  rw[<- NI];exact(Int.natCast_ediv (size * (size+1)) 2).symm
 have t15:=zp s5;have ed:=T7 (i:=(size:Int) * ((size+1:Nat):Int)) (j:=2) ⋯ ⋯ S;rw[et]at ed;refine Ok.first<|Ok.cg (EB ..)<|Ok.eq (aU size 1 S)<|Ok.eq (V3 (.inl ⟨by omega,by omega⟩) S)<|Ok.eq ed<|Ok.eq (iF ∅ S)<|Ok.bind ?_;refine(Ok.loop (n:=tri size) (λi ρ S'=>S'=S/\∃o3 o4,ρ=[some (.int (size:Int)),some r.d,some (paD ps),o3,o4]) (λρ S' _=>X8 _ S') (λi ρ S' hi ⟨hS,o3,o4,er⟩=>?_) ⟨rfl,_,_,rfl⟩).mono ?_
 ·subst er hS;refine⟨_,_,dC hi S',rfl,?_⟩;show Ok (Z4 (rn (k+9)) [some (.int (size:Int)),some r.d,some (paD ps),some (.int (i:Int)),o4]) S' _;unfold Z4;rw[gU];obtain⟨c,hc,rfl⟩:=Dg s5 hi;obtain⟨b,hb,hf⟩:=G c hc;have el:=d8 (fJ (r:=r) hb (λh hh=>by have:=V.tr h hh;omega) (by rw[V.hl];omega) (.int (size:Int)) (k+5) S');rw[Hf]at el;refine Ok.first<|Ok.cg (nV ..)<|Ok.eq el<|Ok.nxt<|Ok.cg (mK ..)<|nx_bind<|Ok.eq (S1:=S') (a:=(A2 (ps.map Sen.d),(ps.map Sen.d).length+1)) rfl ?_;rw[Jr];have l3:(loc r c b).ws.length<=3:=by rw[(og V hb).l];exact m3
  have e:=i2 (l:=ps) (h:=Sen.d) (g:=λ_=>D.bl true) (p:=λ_=>true) (t:=λ_=>ret true) (f:=λd=>bind (rn (k+9) sw [(loc r c b).d,d]) λx=>ret x) (S:=S') (by rw[JS];omega) (λ_ _=>rfl) (λq hq _=>by
   rw[a7 (Co (hok q hq) l3 k S'),BQ hf q hq];rfl)
  rw[La.mpr (λ_ _=>rfl)]at e;refine Ok.of e ?_;have en:b7 .In (.bl false) (.lst (ps.map λ_=>D.bl true)) S'=.ok (.bl false) S':=by
   have:=(qY false (ps.map λ_=>true) S').1;rw[Lf]at this;refine this.trans ?_;rw[show((ps.map λ_=>true).any λb=>b==false)=false from List.any_eq_false.mpr λx hx=>by
    obtain⟨_,_,rfl⟩:=Ky.mp hx;decide]
  exact Ok.eq en<|Ok.eq (a:=false) rfl<|Ok.neg ⋯<|Ok.ret ⟨_,.inl rfl,rfl,_,_,rfl⟩
 ·rintro _ S' ⟨ρ,rfl,rfl,o3,o4,rfl⟩;exact Ok.nxt<|Ok.cg (Fc ..)<|Ok.ret ⟨rfl,rfl⟩
theorem GD:Γ.sub 1 1=true:=by kernel_rfl
theorem tP{size many:Nat}{r:Nst}(V:VN size many r){i:Nat}(hi:i<many)(k:Nat)(S:Sto):Ok (rn (k+6) Ao [.int (size:Int),r.d,.int (i:Int)]) S λd S'=>(∃r',d=r'.d/\(r'=r\/j5 size r i=some r'))/\Ex S S':=by
 rw[rn,a9 (fd:=Jj) rfl,yo,wC];obtain⟨no,yes⟩:=tW V hi k S;cases e:j5 size r i with
 | none=>
  refine Ok.first<|Ok.cg (zh ..)<|Ok.bind<|Ok.caught ?_;refine Xn.cg (aM ..)<|Xn.bind ?_;refine(no e).mono ?_;rintro n S1 ⟨rfl,rfl⟩;refine⟨1,[("hand",.int (i:Int))],by simp[exS],GD,?_⟩;show Ok (jA (rn (k+5)) [some (.int (size:Int)),some r.d,some (.int (i:Int))]) _ _;unfold jA;rw[fT];exact Ok.first<|Ok.cg (mO ..)<|Ok.ret<|Ok.ret ⟨⟨r,rfl,.inl rfl⟩,⟨_,rfl⟩⟩
 | some r'=>
  have y:=yes (by rw[e];exact λz=>by ext z);rw[e]at y;refine Ok.first<|Ok.cg (zh ..)<|Ok.bind<|Ok.try_ ?_;refine Ok.cg (aM ..)<|Ok.eq y ?_;exact Ok.ret<|Ok.ret ⟨⟨r',rfl,.inr rfl⟩,Ex.refl _⟩
section
variable {ns:List Int}{p size many:Nat}(h0:1<=size)(h5:size<=5)(m1:1<=many)(m2:many<=2){ps:List Sen}(hl:ps.length<1000)(hc:Car many ps)
include h0 h5 m1 m2 hl hc
theorem vo{N:Nat}(S:Sto)(F:Fw ns p (N+14) S):Ok (rn 14 Cn [.ref p,.int (size:Int),.int (many:Int),paD ps]) S λd S'=>d=.bl true/\Fw ns p N S':=by
 rw[rn,a9 (fd:=Jc) rfl,vO,xq];refine Ok.first<|Ok.cg (Gz ..)<|Ok.eq (yB h0 h5 m1 m2 11 S) ?_;obtain⟨m7,hm7⟩:∃m,m=7 * many:=⟨_,rfl⟩;have em:C3 (.int 7) (.int (many:Int)) S=.ok (.int (m7:Int)) S:=by
  have:many=1\/many=2:=by omega
  rcases this with rfl | rfl <;> subst hm7 <;> kernel_rfl
 refine Ok.nxt<|Ok.cg (GN ..)<|Ok.eq em<|Ok.eq (iF ∅ S)<|Ok.bind ?_;refine(Ok.loop (n:=m7) (λi ρ S'=>(∃r o5,ρ=[some (.ref p),some (.int (size:Int)),some (.int (many:Int)),some (paD ps),some r.d,o5]/\VN size many r/\So size ps r)/\Fw ns p (N+(m7-i)) S') (λρ S' _=>X8 _ S') (λi ρ S' hi ⟨⟨r,o5,er,V,G⟩,F'⟩=>?_) ⟨⟨N0 size many,_,rfl,N0.vn h0 h5 m2,N0.so hc⟩,F.less ∅⟩).mono ?_
 ·subst er;refine⟨_,_,dC hi S',rfl,?_⟩;show Ok (aI (rn 13) [some (.ref p),some (.int (size:Int)),some (.int (many:Int)),some (paD ps),some r.d,some (.int (i:Int))]) S' _;unfold aI;rw[fo];refine Ok.first<|Ok.cg (nP ..)<|Ok.eq (d8 (eL hl hc.ok h0 ∅ V G 3 S'))<|Ok.eq (a:=true) rfl<|Ok.neg ⋯ ?_;have e:N+(m7-i)=N+(m7-(i+1))+1:=by omega
  rw[e]at F';refine Ok.nxt<|Ok.cg (mz ..)<|Ok.bind ((t9 (m:=many) F' ∅ ∅ 12).mono ?_);rintro _ S2 ⟨h,rfl,hh,F2,_⟩;refine Ok.bind ((tP V hh 7 S2).mono ?_);rintro _ S3 ⟨⟨r',rfl,q⟩,ex⟩;have vg:VN size many r'/\So size ps r':=by
   rcases q with rfl | q
   ·exact⟨V,G⟩
   ·exact⟨wI V hh q,G.step hc V hh q⟩
  exact Ok.ret ⟨_,.inl rfl,⟨r',_,rfl,vg⟩,iW F2 ex⟩
 ·rintro _ S' ⟨ρ,rfl,⟨r,o5,rfl,V,G⟩,F'⟩;exact Ok.nxt<|Ok.cg (Gd ..)<|Ok.eq (d8 (eL hl hc.ok h0 ∅ V G 3 S'))<|Ok.ret ⟨rfl,F'.less ∅⟩
end
end L3.K92
namespace L3.K92
open PySem PySem.Spec PyProof.Rows L2
section
variable {ns:List Int}{p:Nat}
theorem Ce{N:Nat}(S:Sto)(F:Fw ns p (N+6) S):Ok (bind (j4 (.tup six)) λsm2=>g7 sm2.1 (λd1=>bind (rn 14 bE [.ref p,.int 3]) λx3=>bind (b7 .Gt x3 (.int 0)) λx4=>bind (asB x4) λz5=>ret z5) (λd1=>ret d1) sm2.2 0 []) S λes S'=>(es.length<=6/\∀d∈es,Any 3 2720 d)/\Fw ns p N S':=by
 refine Ok.eq (eA six S) ?_;refine(Ok.comp (n:=6) (λi S' es=>(es.length<=i/\∀d∈es,Any 3 2720 d)/\Fw ns p (N+(6-i)) S') (λS' es _=>rfl) (λi S' es hi ⟨⟨l,a⟩,F'⟩=>?_) ⟨⟨Ju _,λd hd=>by cases hd⟩,F⟩).mono ?_
 ·have e:N+(6-i)=N+(6-(i+1))+1:=by omega
  rw[e]at F';obtain⟨_,S2,e2,r,rfl,hr,F2,_⟩:=t9 (m:=3) F' ⋯ ⋯ 13;have hi':=hi;refine⟨six[i],by show some six[i]?=_;rw[Jw hi'],decide (0<(r:Int)),S2,(a7 e2).trans ((a7 (cA _ _ S2)).trans (a7 (h8 _ _))),?_⟩;cases decide (0<(r:Int)) with
  | true=>
   rw[if_pos rfl];refine⟨_,S2,rfl,by rw[JS];omega,⟨by rw[JP,KP];omega,λd hd=>?_⟩,F2⟩;rcases JY.mp hd with hd | hd
   ·exact a d hd
   ·rw[JK.mp hd];exact iU.2 _ (JX hi')
  | false=>
   rw[if_neg Jt];exact⟨⟨by omega,a⟩,F2⟩
 ·grind
theorem wW{N:Nat}(o0 o3 o4 o5 o6 o7 o8:Option D)(S:Sto)(F:Fw ns p (N+300) S):Ok (aP (rn 14) [o0,some (.ref p),some (.tup six),o3,o4,o5,o6,o7,o8]) S λfl S'=>∃o4 o5 o6 o7 o8,fl=.nx [o0,some (.ref p),some (.tup six),o3,o4,o5,o6,o7,o8]/\Fw ns p N S':=by
 unfold aP;rw[fg];refine Ok.first<|Ok.cg (mG ..)<|Ok.bind ((t9 (N:=N+290) (m:=3) (F.less ∅) ⋯ ⋯ 13).mono ?_);rintro _ S1 ⟨a,rfl,ha,F1,_⟩;obtain⟨n,en,n1,n2⟩:∃n:Nat,ixD (.lst [(.int 2),(.int 2),(.int 1)]) (.int (a:Int)) S1=.ok (.int (n:Int)) S1/\1<=n/\n<=2:=by
  have:a=0\/a=1\/a=2:=by omega
  rcases this with rfl | rfl | rfl
  ·exact⟨2,rfl,by decide,by decide⟩
  ·exact⟨2,rfl,by decide,by decide⟩
  ·exact⟨1,rfl,by decide,by decide⟩
 refine Ok.eq en<|Ok.nxt<|Ok.cg (md ..)<|Ok.bind ((t9 (N:=N+285) (m:=2) (F1.less ∅) ⋯ ⋯ 13).mono ?_);rintro _ S2 ⟨m,rfl,hm,F2,_⟩;refine Ok.eq (a:=.int ((1+m:Nat):Int)) (S1:=S2) (by show R.ok _ _=_;rw[Int.natCast_add];rfl) ?_;refine Ok.bind ((fA (N:=N+80) (n:=1+m) ∅ 9 S2 (F2.less ∅)).mono ?_);rintro one S3 ⟨h1,F3,_⟩;refine Ok.nxt<|Ok.cg (mm ..)<|nx_bind<|((Ce (N:=N+60) S3 (F3.less ∅)).mono ?_);rintro es S4 ⟨⟨l6,ae⟩,F4⟩;refine Ok.eq (S1:=S4) (a:=.tup es) rfl<|Ok.eq (cat_tup (by rw[JS];exact KD rfl)) ?_;have e1:El [one]:=⟨KD rfl,λx hx=>by rw[JK.mp hx];exact h1⟩;have e2:El (six++[one]):=⟨by rw[JP];exact KD rfl,λx hx=>by
  rcases JY.mp hx with hx | hx
  ·exact iU.2 x hx
  ·exact e1.2 x hx⟩
 refine Ok.nxt<|Ok.cg (nT ..)<|Ok.bind ((t9 (N:=N+50) (m:=4) (F4.less ∅) ⋯ ⋯ 13).mono ?_);rintro _ S5 ⟨u,rfl,hu,F5,_⟩;obtain⟨ds,ed,hE⟩:∃ds,[D.tup six,.tup es,.tup [one],.tup (six++[one])][u]?=some (.tup ds)/\El ds:=by
  have:u=0\/u=1\/u=2\/u=3:=by omega
  rcases this with rfl | rfl | rfl | rfl
  ·exact⟨_,rfl,iU⟩
  ·exact⟨_,rfl,JW l6 ⋯,ae⟩
  ·exact⟨_,rfl,e1⟩
  ·exact⟨_,rfl,e2⟩
 refine Ok.eq (Hb S5 ed)<|Ok.nxt<|Ok.cg (mn ..)<|Ok.eq (cj (a:=6) ∅ S5)<|Ok.bind ((t9 (N:=N+40) (m:=6-n) (F5.less ∅) ∅ ∅ 13).mono ?_);rintro _ S6 ⟨v,rfl,hv,F6,_⟩;refine Ok.eq (aU n v S6)<|Ok.nxt<|Ok.cg (lr ..)<|Ok.bind ((wD hE.any ⋯ ⋯ n1 ∅ 1 S6).mono ?_);rintro _ S7 ⟨rfl | ⟨rfl,ps,eds,hc⟩,ex⟩
 ·exact Ok.eq (a:=false) rfl<|Ok.neg ⋯<|Ok.ret ⟨_,_,_,_,_,rfl,(iW F6 ex).less ∅⟩
 ·refine Ok.eq (a:=true) rfl<|Ok.pos rfl ?_;rw[eds];have hl:ps.length<1000:=by
   have:=hE.1;injection eds with eds;rw[eds,Jr]at this;omega
  refine Ok.bind ((vo (N:=N) ∅ ∅ n1 n2 hl hc S7 ((iW F6 ex).less ∅)).mono ?_);rintro _ S8 ⟨rfl,F8⟩;exact Ok.eq (a:=true) rfl<|Ok.neg ⋯<|Ok.ret ⟨_,_,_,_,_,rfl,F8⟩
end
theorem AZ(ns:List Int):∃S',rn 15 rg [.scr (ns.map D.int)] []=.ok (.bl true) S':=by
 suffices h:Ok (rn 15 rg [.scr (ns.map D.int)]) [] λr _=>r=.bl true by
  obtain⟨r,S',e,rfl⟩:=h;exact⟨S',e⟩
 rw[rn,a9 rfl,vf,yI];obtain⟨ms,ef⟩:=wx ns [] 13;refine Ok.first<|Ok.cg (FS ..)<|Ok.eq ef ?_;have F0:Fw ms 0 9000 ([]++[i3 ms 0 0 0]):=⟨0,0,0,rfl,by decide,by decide,by decide,by decide⟩;generalize ([]++[i3 ms 0 0 0]:Sto)=S at F0;refine Ok.nxt<|Ok.cg (Ej ..)<|Ok.eq (CQ 13 S)<|Ok.eq (a:=.tup six) (S1:=S++[.lst six]) (by
  show bind (M9 (.ref S.length)) _ _=_;rw[a7 (show M9 (.ref S.length) (S++[.lst six])=.ok six (S++[.lst six]) by
   have e:(S++[O.lst six])[S.length]?=some (.lst six):=by simp
   simp only[M9,e,lstOf])]
  rfl) ?_
 refine Ok.nxt<|Ok.cg (Fn ..)<|Ok.eq (a:=(eV 0 2,3)) rfl<|Ok.bind ?_;refine(Ok.loop (n:=2) (λi ρ S'=>(∃o3 o4 o5 o6 o7 o8,ρ=[some (.scr (ns.map D.int)),some (.ref 0),some (.tup six),o3,o4,o5,o6,o7,o8])/\Fw ms 0 (300 * (2-i)) S') (λρ S' _=>X8 2 S') (λi ρ S' hi ⟨⟨o3,o4,o5,o6,o7,o8,er⟩,F'⟩=>?_) ⟨⟨_,_,_,_,_,_,rfl⟩,(F0.push _).less ⋯⟩).mono ?_
 ·subst er;refine⟨_,_,dC hi S',rfl,?_⟩;have e:300 * (2-i)=300 * (2-(i+1))+300:=by omega
  rw[e]at F';refine(wW _ _ _ _ _ _ _ S' F').mono ?_;rintro _ S2 ⟨a,b,c,d,f,rfl,F2⟩;exact⟨_,.inl rfl,⟨_,_,_,_,_,_,rfl⟩,F2⟩
 ·rintro _ S' ⟨ρ,rfl,⟨o3,o4,o5,o6,o7,o8,rfl⟩,_⟩;exact Ok.nxt<|Ok.cg (GA ..)<|Ok.ret rfl
end L3.K92
namespace L3.K92
open PySem L2 Hn
abbrev iHE:Stmt:=dt (top 1) 0
abbrev iNS:Stmt:=dt (top 2) 0
abbrev iNP:Stmt:=dt (top 3) 0
section
variable {P:Program}{w:World}{K:PySem.W.Frag}{mg:Str->Option Value}{base:Heap}{f fB B:Addr}{fd fdB:FuncData}
theorem Ic:FnScope ["self","text"] ["self","text"] (c9 iHE):=⟨rfl,rfl,rfl,by decide +kernel,rfl,by decide +kernel,by decide +kernel⟩
theorem sH(F:Fun K "__init__" "HandError.__init__" iHE f fd) (T:TxE K mg B fB):FnOk P w K mg base CX0 1 f fd ["self","text"] (spHE K):=by
 refine F.ok Ic (λvs H Q E h=>?_) (λcdv A outer s H vs Q E hr h=>?_)
 ·obtain⟨x,y,C,d,rfl,_⟩:=h;rfl
 ·obtain⟨x,y,C,d,rfl,M,e0,k⟩:=h;refine⟨_,dN (X6 (rL rfl T.mV T.fV (y8 (pv 0) (y8 (pv 1) bL)))),?_⟩;exact⟨_,rfl,_,rfl,x,C,d,y,rfl,M,e0,k⟩
theorem IW:FnScope ["self","hand"] ["self","hand"] (c9 iNS):=⟨rfl,rfl,rfl,by decide +kernel,rfl,by decide +kernel,by decide +kernel⟩
theorem FD(F:Fun K "__init__" "NoStep.__init__" iNS f fd) (T:TxE K mg B fB) (FB:Fun K "__init__" "HandError.__init__" iHE fB fdB) (bB:Binds K fdB ["self","text"] []):FnOk P w K mg base CX0 2 f fd ["self","hand"] (sp1 K "hand"):=by
 have G:FnOk P w K mg base CX0 1 fB fdB ["self","text"] (spHE K):=sH FB T;refine F.ok IW (λvs H Q E h=>?_) (λcdv A outer s H vs Q E hr h=>?_)
 ·obtain⟨x,v,C,dv,rfl,_⟩:=h;rfl
 ·obtain⟨x,v,C,dv,rfl,M,na,e0,ft,k⟩:=h;have hu:(A.deeper (PyProof.Rows.envOfC "NoStep.__init__" (c9 iNS) s.heap.objs.size f cdv)).units+80<cLine:=by have:=hr.un;omega
  refine⟨_,R7 (X6 (gN rfl T.mB T.sB T.rB T.cB T.kB G hr bB fX (y8 (pv 0) (y8 (lM (X5 (dR hr.gd hu (pv 1) (X5 kA))) ⋯) bL))))
   (dN (dZ (pv 0) (pv 1) rfl)),?_⟩
  refine⟨_,rfl,_,rfl,dv,ft.at_,ft.sh,ft.l1,ft.l2,λz hz=>?_⟩;refine⟨x,.str z,C,none,rfl,M,e0,?_⟩;refine⟨_,rfl,_,rfl,x,C,rfl,M,na,.inl ⟨e0,λd hd=>?_⟩⟩;have ne:d≠x:=λq=>by rw[q,e0]at hd;ext hd
  exact k _ ⟨d,hd,ne,b8,by rw[a8 ne,b8],λb hb hb2=>by rw[a8 hb,a8 hb2]⟩
theorem Hs:FnScope ["self","word","at"] ["self","word","at"] (c9 iNP):=⟨rfl,rfl,rfl,by decide +kernel,rfl,by decide +kernel,by decide +kernel⟩
theorem Do(F:Fun K "__init__" "NoPaper.__init__" iNP f fd) (T:TxE K mg B fB) (FB:Fun K "__init__" "HandError.__init__" iHE fB fdB) (bB:Binds K fdB ["self","text"] []):FnOk P w K mg base CX0 2 f fd ["self","word","at"] (sp2 K "word" "at"):=by
 have G:FnOk P w K mg base CX0 1 fB fdB ["self","text"] (spHE K):=sH FB T;refine F.ok Hs (λvs H Q E h=>?_) (λcdv A outer s H vs Q E hr h=>?_)
 ·obtain⟨x,v,u,C,dv,du,rfl,_⟩:=h;rfl
 ·obtain⟨x,v,u,C,dv,du,rfl,M,na,nb,e0,ft,fu,k⟩:=h;have hu:(A.deeper (PyProof.Rows.envOfC "NoPaper.__init__" (c9 iNP) s.heap.objs.size f cdv)).units+80<cLine:=by have:=hr.un;omega
  refine⟨_,R7 (X6 (gN rfl T.mB T.sB T.rB T.cB T.kB G hr bB fX (y8 (pv 0) (y8 (lM (X5 (dR hr.gd hu (pv 1) (X5 (dR hr.gd hu (pv 2) kA)))) ⋯) bL))))
   (R7 (dZ (pv 0) (pv 1) rfl) (dN (dZ (pv 0) (pv 2) rfl))),?_⟩
  refine⟨_,rfl,_,rfl,dv,ft.at_,ft.sh,ft.l1,ft.l2,_,rfl,du,fu.at_,fu.sh,fu.l1,fu.l2,λz hz=>?_⟩;refine⟨x,.str z,C,none,rfl,M,e0,?_⟩;refine⟨_,rfl,_,rfl,x,C,rfl,M,na,.inl ⟨e0,λd hd=>?_⟩⟩;have ne:d≠x:=λq=>by rw[q,e0]at hd;ext hd
  refine⟨_,rfl,_,rfl,x,C,rfl,M,nb,.inr ⟨d,_,ne,b8,by rw[a8 ne,b8],by show 1<900;decide,?_⟩⟩;refine k _ ⟨d,hd,ne,by rw[a8 ne.symm,b8],by rw[b8,wu],λb hb hb2=>by rw[a8 hb2,a8 hb,a8 hb2]⟩
end
end L3.K92
namespace L3
open PySem PySem.Spec PyProof.Rows L2
def tpB(K:PySem.W.Frag)(v:Value):Option (List Value):=match v with
 | .ref a=>(match K.lookup a with
  | some ⟨.type t,none,.seq b _,_⟩=>if t = "tuple"/\b.size<=1000 then some b.toList else none
  | _=>none)
 | _=>none
def iB(i:Int):Value->Bool
 | .int j _=>decide (i=j)
 | _=>false
def sB(x:Str):Value->Bool
 | .str y _=>decide (x=y)
 | _=>false
def tB(f:List Value->Bool):Option (List Value)->Bool
 | some us=>f us
 | none=>false
def hB(f:Value->List Value->Bool):List Value->Bool
 | u::us=>f u us
 | []=>false
mutual
noncomputable def cB(K:PySem.W.Frag):D->Value->Bool
 | .int i=>iB i
 | .str x=>sB x
 | .tup ds=>λv=>tB (cBs K ds) (tpB K v)
 | .non=>λ_=>false
 | .bl _=>λ_=>false
 | .lst _=>λ_=>false
 | .scr _=>λ_=>false
 | .ref _=>λ_=>false
noncomputable def cBs(K:PySem.W.Frag):List D->List Value->Bool
 | []=>List.isEmpty
 | d::ds=>hB λu us=>cB K d u&&cBs K ds us
end
section
variable {K:PySem.W.Frag}
theorem AW{v:Value}{us:List Value}(h:tpB K v=some us):∃a o b n,v=.ref a/\K.lookup a=some o/\o.cls=.type "tuple"/\o.data=.seq b n/\b.size<=sizeLine/\b.toList=us/\o.dict=none:=by
 unfold tpB at h;split at h
 ·split at h
  ·rename_i a _ t b n d e;split at h
   ·rename_i c;ext h;exact⟨a,_,b,n,rfl,e,by rw[c.1],rfl,JW c.2 (by rw[JS];decide),rfl,rfl⟩
   ·ext h
  ·ext h
 ·ext h
mutual
theorem zZ:∀(d:D)(v:Value),cB K d v=true->∃x:V,RelV x v/\∀μ H,RD K μ H d x
 | .int i,v,h=>by
  rw[cB]at h;cases v with
  | int j t=>cases Kb (p:=i=j) h;exact⟨.int i,⟨_,rfl⟩,λμ H=>.int _⟩
  | _=>ext h
 | .str x,v,h=>by
  rw[cB]at h;cases v with
  | str y t=>cases Kb (p:=x=y) h;exact⟨.str x,⟨_,rfl⟩,λμ H=>.str _⟩
  | _=>ext h
 | .tup ds,v,h=>by
  rw[cB]at h;have h2:tB (cBs K ds) (tpB K v)=true:=h;clear h;cases e:tpB K v with
  | none=>rw[e]at h2;ext h2
  | some us=>
   rw[e]at h2;obtain⟨a,o,its,n,rfl,e1,e2,e3,e4,e5,e6⟩:=AW e;obtain⟨xs,r,q⟩:=sk ds us h2;exact⟨.ref a,rfl,λμ H=>.tup (xs:=xs) (.inr ⟨o,its,n,e1,e2,e3,e4,by rw[e5];exact r,e6⟩) (q μ H)⟩
 | .non,_,h=>by rw[cB]at h;ext h
 | .bl _,_,h=>by rw[cB]at h;ext h
 | .lst _,_,h=>by rw[cB]at h;ext h
 | .scr _,_,h=>by rw[cB]at h;ext h
 | .ref _,_,h=>by rw[cB]at h;ext h
theorem sk:∀(ds:List D)(us:List Value),cBs K ds us=true->∃xs:List V,Vals xs us/\∀μ H,RDs K μ H ds xs
 | [],us,h=>by
  rw[cBs]at h;cases us with
  | nil=>exact⟨[],.nil,λμ H=>.nil⟩
  | cons _ _=>ext h
 | d::ds,us,h=>by
  rw[cBs]at h;cases us with
  | nil=>ext h
  | cons u us=>
   have h:(cB K d u&&cBs K ds us)=true:=h;rw[Jp]at h;obtain⟨x,r,q⟩:=zZ d u h.1;obtain⟨xs,rs,a⟩:=sk ds us h.2;exact⟨x::xs,.cons r rs,λμ H=>.cons (q μ H) (a μ H)⟩
end
def nB(K:PySem.W.Frag)(a:Addr)(x:Str)(d:D):Bool:=match PySem.W.nsIn K a x with
 | some (some v)=>cB K d v
 | _=>false
theorem nw{a:Addr}{x:Str}{d:D}(h:nB K a x d=true):∃u v,PySem.W.nsIn K a x=some (some u)/\RelV v u/\∀μ H,RD K μ H d v:=by
 unfold nB at h;split at h
 ·rename_i u e;obtain⟨v,r,q⟩:=zZ d u h;exact⟨u,v,e,r,q⟩
 ·ext h
def zO(K:PySem.W.Frag)(Γ:Gm):Bool:=Γ.gl.all λp=>match p.2 with
 | .val d=>nB K mainGlobals p.1 d
 | _=>true
theorem vX{T:Tx}{Γ:Gm}{h:Heap}(X:T.K.In h)(G:h.Ns mainGlobals T.mg)(b:zO T.K Γ=true):∀x d,Γ.gl.lookup x=some (.val d)->∃u v,T.mg x=some u/\RelV v u/\∀μ H,RD T.K μ H d v:=λx d e=>by
 obtain⟨u,v,a,r,q⟩:=nw ((JM.mp b) _ (L2.mem_of_lookup e));exact⟨u,v,Lg X G a,r,q⟩
end
abbrev G1(K:PySem.W.Frag)(x:Str)(st:Stmt)(p:Prop):Prop:=(∃g,GF K x st g)/\p
structure ER(K:PySem.W.Frag)(x q:Str)(st:Stmt)(C f:Addr):Prop where
 a:PySem.W.nsIn K mainGlobals x=some (some (.ref C))
 i:PySem.W.findIn K (.ref C) "__init__" = some (some (.ref f))
 n:PySem.W.isFn K (.ref f)=true
 f:∃fd,Fun K "__init__" q st f fd
theorem er_mk{K:PySem.W.Frag}{x q:Str}{st:Stmt}{C g:Addr}{m:Value}{od h:Option Addr}{e:Array (Option Value)}{o d j b f:Value}(a:PySem.W.nsIn K mainGlobals x=some (some (.ref C)))(i:PySem.W.findIn K (.ref C) "__init__" = some (some (.ref g))) (n:PySem.W.isFn K (.ref g)=true) (l:K.lookup g=some ⟨m,od,.func (PySem.W.fnOf "__init__" q (v5 st) (j6 st) (c9 st) .none o d j h b f),e⟩) (c:PySem.W.codeIn K b q=true) (k:PySem.W.keepIn K (.ref g)=true):ER K x q st C g:=⟨a,i,n,_,jB l c k⟩
end L3
section
namespace L3.K92
open PySem PySem.Spec PyProof.Rows L2 Hn
theorem all_mk{l:PySem.W.OpenLaw}{w:World}{K:PySem.W.Frag}{h:Heap}{mg:Str->Option Value}{fa B fB C1 f1 C2 f2 g:Addr}(X:K.In h)(G:h.Ns mainGlobals mg)(hfa:mg "law" = some (.ref fa))
  {Zc4:Addr} {esC4:Array DictEntry} {nC4:Nat} {Zc5:Addr} {esC5:Array DictEntry} {nC5:Nat}
  (eHE:ER K "HandError" "HandError.__init__" iHE B fB)
  (eNS:ER K "NoStep" "NoStep.__init__" iNS C1 f1)
  (eNP:ER K "NoPaper" "NoPaper.__init__" iNP C2 f2)
  (fV:PySem.W.findCls K (.type "ValueError") (.type "type") "__init__" = some (.val (.builtin "ValueError.__init__"))) (sB:PySem.W.specialIn K (.ref B) "__getattribute__" = some (some (.builtin "type.__getattribute__"))) (rB:PySem.W.readsIn K B (.type "type")=true) (cB:PySem.W.findCls K (.ref B) (.type "type") "__init__" = some (.val (.ref fB)))
  (RB:RowB K Γ [B,C1,C2] fB)
  (dg:G1 K "is_whole" (top 5)<|G1 K "is_one_of" (top 6)<|G1 K "is_tuple_of" (top 7)<|G1 K "with_at" (top 8)<|G1 K "triangle" (top 9)<|G1 K "first_decider" (top 13)<|G1 K "step_decider" (top 14)<|G1 K "moving_hands" (top 15)<|G1 K "all_deciders" (top 16)<|G1 K "all_words" (top 17)<|G1 K "is_sentence" (top 23)<|G1 K "is_formula" (top 24)<|G1 K "is_built" (top 25)<|G1 K "formulas_in" (top 26)<|G1 K "are_words" (top 27)<|G1 K "is_so" (top 28)<|G1 K "hands_meant" (top 29)<|G1 K "says" (top 30)<|G1 K "lets_paper" (top 33)<|G1 K "carried_stands" (top 34)<|G1 K "check_shape" (top 35)<|G1 K "first_fault" (top 36)<|G1 K "stands_next" (top 37)<|G1 K "first_net" (top 39)<|G1 K "end_of" (top 40)<|G1 K "number_of" (top 41)<|G1 K "step_net" (top 42)<|G1 K "hand_behind" (top 43)<|G1 K "local_at" (top 44)<|G1 K "word_at" (top 45)<|G1 K "_law_feed" (top 47)<|G1 K "_law_draw" (top 48)<|G1 K "_law_words" (top 49)<|G1 K "_law_formula" (top 51)<|G1 K "_law_sentence" (top 52)<|G1 K "_law_says" (top 53)<|G1 K "_law_so" (top 54)<|G1 K "_law_good_sentences" (top 55)<|G1 K "_law_lets" (top 56)<|G1 K "_law_moves" (top 57)<|G1 K "_law_so_there" (top 58)<|G1 K "_law_holds" (top 59)<|True)
  (dl:GF K "law" (top 60) g)
  (rcs:zO K Γ=true)
  (aC4:PySem.W.nsIn K mainGlobals "HANDS" = some (some (.ref Zc4))) (lC4:K.lookup Zc4=some ⟨.type "dict",none,.dict esC4 nC4,#[]⟩) (kC4:PySem.W.KeysLit w.params esC4.toList) (sC4:(Zc4==sysModules)=false) (zC4:O2 esC4.toList=some (["each","some","pairs","plain"]:List Str))
  (bC4:(([("each",.tup [.int 0]),("some",.tup [.int 0]),("pairs",.tup [.int 0,.int 1]),("plain",.tup [])]:List (Str×D)).all λp=>nB K Zc4 p.1 p.2)=true)
  (aC5:PySem.W.nsIn K mainGlobals "PARTS" = some (some (.ref Zc5))) (lC5:K.lookup Zc5=some ⟨.type "dict",none,.dict esC5 nC5,#[]⟩) (kC5:PySem.W.KeysLit w.params esC5.toList) (sC5:(Zc5==sysModules)=false) (zC5:O2 esC5.toList=some (["at","mark","free","closed","not","both","either"]:List Str))
  (bC5:(([("at",.int 3),("mark",.int 2),("free",.int 1),("closed",.int 1),("not",.int 2),("both",.int 3),("either",.int 3)]:List (Str×D)).all λp=>nB K Zc5 p.1 p.2)=true) :
  ∃fd:FuncData,(∀(s:Shared)(v:Value),BindsTo s fd ⟨[v],[]⟩ [("_law_script",v)])/\∀base:Heap,K.In base->base.Ns mainGlobals mg->FnOk l.prog w K mg base CX0 18 fa fd ["_law_script"] (dX K):=by
 have e:=hfa.symm.trans (Lg X G dl.a);ext e;obtain⟨_,FHE⟩:=eHE.f;have bHE:=FHE.binds (ps:=["self","text"]) λ_ _ _ _ _ _ us hl=>yu hl λ_ _=>rfl;obtain⟨_,FNS⟩:=eNS.f;have bNS:=FNS.binds (ps:=["self","hand"]) λ_ _ _ _ _ _ us hl=>yu hl λ_ _=>rfl;obtain⟨_,FNP⟩:=eNP.f;have bNP:=FNP.binds (ps:=["self","word","at"]) λ_ _ _ _ _ _ us hl=>AL hl λ_ _ _=>rfl;obtain⟨_,⟨oc,od,kV,dc,pm,an,cd,ct,sl,rfl,lk,hc⟩,kp⟩:=dl.f;have FL:=jB lk hc kp;refine⟨PySem.W.fnOf "law" "law" (v5 (top 60)) (j6 (top 60)) (c9 (top 60)) .none kV dc pm an cd ct,λs v=>.of_eq rfl,λbase KB GB=>?_⟩
 let T:Tx:=⟨l.prog,w,K,mg,base,eF [B,C1,C2] fB⟩
 have mV:mg "ValueError" = none:=PySem.W.mg_none_of X G (Z3 ((JM.mp RB.bl) "ValueError" ⋯));have TE:TxE K mg B fB:=⟨mV,fV,Lg X G eHE.a,sB,rB,cB,FHE.2⟩;have gHE:FnOk l.prog w K mg base CX0 2 fB _ ["self","text"] (spHE K):=(sH FHE TE).mono ⋯;have gNS:FnOk l.prog w K mg base CX0 2 f1 _ _ _:=FD FNS TE FHE bHE;have gNP:FnOk l.prog w K mg base CX0 2 f2 _ _ _:=Do FNP TE FHE bHE;have st:TxSt T Γ:=by
  refine RB.st (T:=T) X G rfl (vX (T:=T) X G rcs) (λx c fs e=>?_) (λx kvs e=>?_)
  ·have m:=L2.mem_of_lookup e;simp only[Γ,JH,LF,NP,Prod.mk.injEq,L3.G.err.injEq,reduceCtorEq,and_false,false_or]at m;rcases m with ⟨rfl,rfl,rfl⟩ | ⟨rfl,rfl,rfl⟩ | ⟨rfl,rfl,rfl⟩
   ·exact⟨by simp,⟨iH ((JM.mp RB.xc) B (by simp)),Lg X G eHE.a,_,_,_,eHE.i,eHE.n,bHE,gHE⟩,by simp⟩
   ·exact⟨by simp,⟨iH ((JM.mp RB.xc) C1 (by simp)),Lg X G eNS.a,_,_,_,eNS.i,eNS.n,bNS,gNS⟩,by simp[Γ]⟩
   ·exact⟨by simp,⟨iH ((JM.mp RB.xc) C2 (by simp)),Lg X G eNP.a,_,_,_,eNP.i,eNP.n,bNP,gNP⟩,by simp[Γ]⟩
  ·have m:=L2.mem_of_lookup e;simp only[Γ,JH,LF,NP,Prod.mk.injEq,L3.G.dct.injEq,reduceCtorEq,and_false,false_or]at m;rcases m with ⟨rfl,rfl⟩ | ⟨rfl,rfl⟩
   ·exact⟨Zc4,_,_,Lg X G aC4,lC4,kC4,sC4,λk e2=>zJ lC4 zC4 rfl e2,λk d e2=>nw ((JM.mp bC4) _ (L2.mem_of_lookup e2))⟩
   ·exact⟨Zc5,_,_,Lg X G aC5,lC5,kC5,sC5,λk e2=>zJ lC5 zC5 rfl e2,λk d e2=>nw ((JM.mp bC5) _ (L2.mem_of_lookup e2))⟩
 have fs:oA T Γ Tb:=by
  refine Gy ?_
  iterate 42
   obtain⟨⟨_,d⟩,dg⟩:=dg;refine And.intro (by first | exact fe X G (T:=T) d (by decide +kernel) (λ_ _ _ _ _ _ us hl=>Fv hl rfl) rfl rfl | exact fe X G (T:=T) d (by decide +kernel) (λ_ _ _ _ _ _ us hl=>GU hl λ_=>rfl) rfl rfl | exact fe X G (T:=T) d (by decide +kernel) (λ_ _ _ _ _ _ us hl=>yu hl λ_ _=>rfl) rfl rfl | exact fe X G (T:=T) d (by decide +kernel) (λ_ _ _ _ _ _ us hl=>AL hl λ_ _ _=>rfl) rfl rfl | exact fe X G (T:=T) d (by decide +kernel) (λ_ _ _ _ _ _ us hl=>Gg hl λ_ _ _ _=>rfl) rfl rfl) ?_;clear d
  have d:=dl;refine And.intro (by first | exact fe X G (T:=T) d (by decide +kernel) (λ_ _ _ _ _ _ us hl=>Fv hl rfl) rfl rfl | exact fe X G (T:=T) d (by decide +kernel) (λ_ _ _ _ _ _ us hl=>GU hl λ_=>rfl) rfl rfl | exact fe X G (T:=T) d (by decide +kernel) (λ_ _ _ _ _ _ us hl=>yu hl λ_ _=>rfl) rfl rfl | exact fe X G (T:=T) d (by decide +kernel) (λ_ _ _ _ _ _ us hl=>AL hl λ_ _ _=>rfl) rfl rfl | exact fe X G (T:=T) d (by decide +kernel) (λ_ _ _ _ _ _ us hl=>Gg hl λ_ _ _ _=>rfl) rfl rfl) ?_
  trivial
 have ok:=wQ (Rs:=Rs) (T:=T) (k:=14) (i:=42) (fd:=h9 (top 60) []) (wG st fs 14) rfl FL rfl rfl (bA (by decide +kernel));exact FnOk.imp ok (nO AZ)
theorem walk{l:PySem.W.OpenLaw}{q:Program}{loose:List Str}{XP:(Str->Option Value)->Heap->Prop}{YP:World->Heap->Prop}{d:DefRec}{K:Params->PySem.W.Frag}(hn:l.most=some 63)(hdf:d.params.defaults=[])
  (hY:∀(w:World)(h:Heap),YP w h->(K w.params).In h)
  (F:∀(w:World)(mg:Str->Option Value)(fa:Addr)(h:Heap),(K w.params).In h->h.Ns mainGlobals mg->mg d.name=some (.ref fa) ->
   ∃fd:FuncData,(∀(s:Shared)(u:Value),BindsTo s fd ⟨[u],[]⟩ [("_law_script",u)])/\∀base:Heap,(K w.params).In base->base.Ns mainGlobals mg->FnOk l.prog w (K w.params) mg base CX0 18 fa fd ["_law_script"] (dX (K w.params))) :
  PySem.W.WalkO q loose XP YP l.row.toRowW d [] (λf vs=>PySem.call f vs):=
 L2.walk_of (n:=63) (k:=18) (x:="_law_script") (CX:=λ_=>CX0) (sp:=λw=>dX (K w.params)) hn ⋯ hdf ⟨λ_=>rfl,by decide,by decide,rfl⟩ hY F (λ_ _ a ns hl _ hS=>⟨a,ns,rfl,hS,λ_=>rfl⟩) λ_ _ _ _ _ z=>z
end L3.K92
open PySem PySem.W PyProof.Rows
set_option maxRecDepth 100000 in
set_option maxHeartbeats 0 in
theorem PySem.Challenge.cw_handnames_k92_whole_papers_hold_in_nets_holds : PySem.Challenge.rw_handnames_k92_whole_papers_hold_in_nets.Holds := by
 w_on;o_law;k_head;(case hw=>w_witness2)
 k_fill
 refine L3.K92.walk (l:=PySem.Challenge.rw_handnames_k92_whole_papers_hold_in_nets) rfl rfl (λw h Y=>PySem.W.kIn_of Y) ?F
 case F=>
  intro w mg fa h KX G hmg;refine' L3.K92.all_mk KX G hmg ?_ ?_ ?_ ?_ ?_ ?_ ?_ ?_ ?_ ?_ ?_ ?_ ?_ ?_ ?_ ?_ ?_ ?_ ?_ ?_ ?_ ?_ ?_
  rotate_left 13
  iterate 3 (refine' L3.er_mk ?a ?i ?n ?l ?c ?k;(case a=>k_is);(case i=>k_is);(case n=>k_is);(case l=>k_is);(case c=>k_is);(case k=>k_is))
  iterate 4 k_is
  ((refine' L3.RowB.mk ?_ ?_ ?_ ?_ ?_ ?_ ?_;iterate 7 kernel_rfl))
  ((iterate 42 (refine' And.intro ⟨_,L3.gf_mk ?a ?l ?c ?k⟩ ?_;(case a=>k_is);(case l=>k_is);(case c=>k_is);(case k=>k_is)));exact True.intro)
  ((refine' L3.gf_mk ?a ?l ?c ?k;(case a=>k_is);(case l=>k_is);(case c=>k_is);(case k=>k_is)))
  (kernel_rfl)
  iterate 2 k_is
  (repeat (first | exact True.intro | refine And.intro ⟨_,_,rfl,rfl⟩ ?_))
  iterate 2 rfl
  (kernel_rfl)
  iterate 2 k_is
  (repeat (first | exact True.intro | refine And.intro ⟨_,_,rfl,rfl⟩ ?_))
  iterate 2 rfl
  (kernel_rfl)
end
