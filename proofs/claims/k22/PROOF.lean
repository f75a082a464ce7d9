import PyProof.Rows.All
import Wide.All
import OpenK.AllK
import Wide.FinOn
import KE.KOpsOwn
import KE.KCallOwn
import PyProof.InstNe
import HandS.ForMost
import HandS.IsInst
import HandS.Property
import HandS.FStr
import HandS.WideBits
import HandS.Zip
import HandS.TupAny
import HandS.RaiseMore
import HandS.Defaults
import HandS.SlotsOwn
import KE.KFmtOwn
import PyProof.FactsAll.object_2
import HandS.Walk
import HandS.NoneIn
import HandS.Style
import HandS.Finally
import HandS.DictTup
import HandS.DictComp
import HandS.Keys
import PyProof.ReprRoads
import PyProof.Rows.NestShow
import HandS.ExcInit
import HandS.ExcField
import HandS.WordsExc
import HandS.ExcOwn
import HandS.TryMany
import HandS.EndTab
import KE.KNestM
import PyProof.StrLawsRepr
import HandS.MakeKwOnly
import OpenK.KMeth
import KE.KExcInit
import PyProof.ExcBaseAll.LookupError
import PyProof.ExcBaseAll.RuntimeError
import PyProof.ExcBaseAll.ArithmeticError
import KE.SortKeyHeap
import PyProof.ListCopy
import KE.KSortKey
import HandS.Star
import HandS.OwnEq
import HandS.TupMul
import HandS.SetFor
import HandS.Flow
import HandS.Iter
import KE.GoesMore
import HandS.ClsMeth
import HandS.CallLocal
import OpenK.KOps
import HandS.WordsDict
import HandS.FltList
import HandS.Gcd
import PyProof.InstStoreFacts
import PySem.Challenge.RW_stitchsizes_k22_whole_evenly_worked
set_option Elab.async false
section
open PySem PySem.W PyProof.Rows
def PySem.W.Fast.tw2132029292895624192 : Unit := ()
def PySem.W.Fast.tw8186657734068701312 : Unit := ()
def PySem.W.Fast.tw7151132215420815488 : Unit := ()
def PySem.W.Fast.tw13343918040275786880 : Unit := ()
def PySem.W.Fast.tw16103829930404553856 : Unit := ()
def PySem.W.Fast.tw7501186508268903616 : Unit := ()
def PySem.W.Fast.tw18407495941553956032 : Unit := ()
def PySem.W.Fast.tw16212330677787901120 : Unit := ()
def PySem.W.Fast.tw463774138113389760 : Unit := ()
def PySem.W.Fast.tw1835071406663858368 : Unit := ()
def PySem.W.Fast.tw6856243202995728640 : Unit := ()
def PySem.W.Fast.tw14961746396406840608 : Unit := ()
def PySem.W.Fast.tw18367749455379333440 : Unit := ()
def PySem.W.Fast.tw17577329170770402720 : Unit := ()
def PySem.W.Fast.tw15540911362017771936 : Unit := ()
def PySem.W.Fast.tw17862349074038704544 : Unit := ()
def PySem.W.Fast.tw10294118229990073760 : Unit := ()
def PySem.W.Fast.tw5341297951324810720 : Unit := ()
def PySem.W.Fast.tw11107512795663914464 : Unit := ()
def PySem.W.Fast.tw14710976976299594304 : Unit := ()
def PySem.W.Fast.tw13437419889732721216 : Unit := ()
def PySem.W.Fast.tw7422445781565681216 : Unit := ()
def PySem.W.Fast.tw10387345722656961088 : Unit := ()
def PySem.W.Fast.tw9496581404884138560 : Unit := ()
def PySem.W.Fast.tw3919386906821981792 : Unit := ()
def PySem.W.Fast.tw10151330197121100416 : Unit := ()
def PySem.W.Fast.tw15932183184989994656 : Unit := ()
def PySem.W.Fast.tw4693966885379303072 : Unit := ()
def PySem.W.Fast.tw3520257249291928256 : Unit := ()
def PySem.W.Fast.tw13953587524928339648 : Unit := ()
def PySem.W.Fast.tw2353497105660221152 : Unit := ()
def PySem.W.Fast.tw4953865588907285216 : Unit := ()
def PySem.W.Fast.tw3543459598558145280 : Unit := ()
def PySem.W.Fast.tw15418378422589880096 : Unit := ()
def PySem.W.Fast.tw18031968618487185184 : Unit := ()
def PySem.W.Fast.tw13691094477983478592 : Unit := ()
def PySem.W.Fast.tw3075201292733833056 : Unit := ()
def PySem.W.Fast.tw16422413458241162112 : Unit := ()
def PySem.W.Fast.tw11180800956215176064 : Unit := ()
def PySem.W.Fast.tw4600438763894957952 : Unit := ()
def PySem.W.Fast.tw140001813534094272 : Unit := ()
def PySem.W.Fast.tw12314708539913122752 : Unit := ()
def PySem.W.Fast.tw5449563278759341024 : Unit := ()
def PySem.W.Fast.tw13385558918117058561 : Unit := ()
def PySem.W.Fast.tw5233118043267047457 : Unit := ()
def PySem.W.Fast.tw11513857634932158529 : Unit := ()
def PySem.W.Fast.tw11063759124802658401 : Unit := ()
def PySem.W.Fast.tw5832305185047221409 : Unit := ()
def PySem.W.Fast.tw908480701973217441 : Unit := ()
def PySem.W.Fast.tw8422229294311615681 : Unit := ()
def PySem.W.Fast.tw5748170370737335489 : Unit := ()
def PySem.W.Fast.tw15127105006835628225 : Unit := ()
def PySem.W.Fast.tw4545961482378311905 : Unit := ()
def PySem.W.Fast.tw10388488172074580225 : Unit := ()
def PySem.W.Fast.tw13931877327420345601 : Unit := ()
def PySem.W.Fast.tw2261719852989239553 : Unit := ()
def PySem.W.Fast.tw15267169705364848929 : Unit := ()
def PySem.W.Fast.tw12132596417379514657 : Unit := ()
def PySem.W.Fast.tw4211115844707057057 : Unit := ()
def PySem.W.Fast.tw15499940227032437249 : Unit := ()
def PySem.W.Fast.tw8919978131948313185 : Unit := ()
def PySem.W.Fast.tw10345075266393484897 : Unit := ()
def PySem.W.Fast.tw14845619989558847073 : Unit := ()
def PySem.W.Fast.tw13348088958985639553 : Unit := ()
def PySem.W.Fast.tw6325675986683464353 : Unit := ()
def PySem.W.Fast.tw8432719020341155521 : Unit := ()
def PySem.W.Fast.tw9104974531708491489 : Unit := ()
def PySem.W.Fast.tw17137270108147033825 : Unit := ()
def PySem.W.Fast.tw8171798328758944481 : Unit := ()
def PySem.W.Fast.tw14651306747883248417 : Unit := ()
def PySem.W.Fast.tw8949853181751564097 : Unit := ()
def PySem.W.Fast.tw8272569733616993153 : Unit := ()
def PySem.W.Fast.tw15052318979288761249 : Unit := ()
def PySem.W.Fast.tw12188032599808994241 : Unit := ()
def PySem.W.Fast.tw16797375974695604193 : Unit := ()
def PySem.W.Fast.tw14321067358777074657 : Unit := ()
def PySem.W.Fast.tw8185545411690514434 : Unit := ()
def PySem.W.Fast.tw10479991185640055810 : Unit := ()
def PySem.W.Fast.tw15978794797337165890 : Unit := ()
def PySem.W.Fast.tw9433028549170029634 : Unit := ()
def PySem.W.Fast.tw17334828202450815106 : Unit := ()
def PySem.W.Fast.tw12858089460409395330 : Unit := ()
def PySem.W.Fast.tw14940998509354871970 : Unit := ()
def PySem.W.Fast.tw4413860948169739490 : Unit := ()
def PySem.W.Fast.tw12884060626414724322 : Unit := ()
def PySem.W.Fast.tw4102176305081739490 : Unit := ()
def PySem.W.Fast.tw4991487270385306882 : Unit := ()
def PySem.W.Fast.tw9530734954097333506 : Unit := ()
def PySem.W.Fast.tw13343301709244559618 : Unit := ()
def PySem.W.Fast.tw6327569006664949090 : Unit := ()
def PySem.W.Fast.tw14329579894275425762 : Unit := ()
def PySem.W.Fast.tw13141587033338554882 : Unit := ()
def PySem.W.Fast.tw6472337539984862722 : Unit := ()
def PySem.W.Fast.tw16132249320637822498 : Unit := ()
def PySem.W.Fast.tw8293125293789966914 : Unit := ()
def PySem.W.Fast.tw5667099127317398114 : Unit := ()
def PySem.W.Fast.tw5711038861398032994 : Unit := ()
def PySem.W.Fast.tw17592209452093105858 : Unit := ()
def PySem.W.Fast.tw16116027297012810434 : Unit := ()
def PySem.W.Fast.tw4561898282857576226 : Unit := ()
def PySem.W.Fast.tw10861573186032746274 : Unit := ()
def PySem.W.Fast.tw5812350808301622050 : Unit := ()
def PySem.W.Fast.tw5909976876416983842 : Unit := ()
def PySem.W.Fast.tw8356303796347215682 : Unit := ()
def PySem.W.Fast.tw3433779192033484610 : Unit := ()
def PySem.W.Fast.tw8151759404152838978 : Unit := ()
def PySem.W.Fast.tw6680039986389304194 : Unit := ()
def PySem.W.Fast.tw8480184845173159842 : Unit := ()
def PySem.W.Fast.tw1401067106901849026 : Unit := ()
def PySem.W.Fast.tw10958628066121416707 : Unit := ()
def PySem.W.Fast.tw16279288168775177219 : Unit := ()
def PySem.W.Fast.tw12773500944031208451 : Unit := ()
def PySem.W.Fast.tw13439652990877377571 : Unit := ()
def PySem.W.Fast.tw5459702643516471331 : Unit := ()
def PySem.W.Fast.tw13366278800048369731 : Unit := ()
def PySem.W.Fast.tw4858918184162951299 : Unit := ()
def PySem.W.Fast.tw9786136246686688387 : Unit := ()
def PySem.W.Fast.tw1062514266329012355 : Unit := ()
def PySem.W.Fast.tw640624198105042115 : Unit := ()
def PySem.W.Fast.tw9116068151291705539 : Unit := ()
def PySem.W.Fast.tw7943549864190904611 : Unit := ()
def PySem.W.Fast.tw9860861378791804195 : Unit := ()
def PySem.W.Fast.tw1922157984580058403 : Unit := ()
def PySem.W.Fast.tw6284410105664486691 : Unit := ()
def PySem.W.Fast.tw211337195705725219 : Unit := ()
def PySem.W.Fast.tw14201004317487731011 : Unit := ()
def PySem.W.Fast.tw3382625519597670723 : Unit := ()
def PySem.W.Fast.tw2041926188850086339 : Unit := ()
def PySem.W.Fast.tw2868442198168577507 : Unit := ()
def PySem.W.Fast.tw11280630913190679075 : Unit := ()
def PySem.W.Fast.tw8565224436197482051 : Unit := ()
def PySem.W.Fast.tw1158361714356455011 : Unit := ()
def PySem.W.Fast.tw18003772858949239459 : Unit := ()
def PySem.W.Fast.tw8397711864191134371 : Unit := ()
def PySem.W.Fast.tw511232430288663203 : Unit := ()
def PySem.W.Fast.tw8757050672659960515 : Unit := ()
def PySem.W.Fast.tw10258873121960336067 : Unit := ()
def PySem.W.Fast.tw1717767836212652739 : Unit := ()
def PySem.W.Fast.tw14562155634004365027 : Unit := ()
def PySem.W.Fast.tw18124618509676941091 : Unit := ()
def PySem.W.Fast.tw17346623794827051843 : Unit := ()
def PySem.W.Fast.tw6597789921013551971 : Unit := ()
def PySem.W.Fast.tw9739999909748841315 : Unit := ()
def PySem.W.Fast.tw14782954611325821827 : Unit := ()
def PySem.W.Fast.tw14715273107921467267 : Unit := ()
def PySem.W.Fast.tw6829468419937405859 : Unit := ()
def PySem.W.Fast.tw6058616519681280931 : Unit := ()
def PySem.W.Fast.tw8498532028676091811 : Unit := ()
def PySem.W.Fast.tw17397653436517662659 : Unit := ()
def PySem.W.Fast.tw429539710256275620 : Unit := ()
def PySem.W.Fast.tw1887573119177674980 : Unit := ()
def PySem.W.Fast.tw15675013803050531044 : Unit := ()
def PySem.W.Fast.tw12917704675397863716 : Unit := ()
def PySem.W.Fast.tw14143020097148135716 : Unit := ()
def PySem.W.Fast.tw8176730645128964420 : Unit := ()
def PySem.W.Fast.tw2358075552688931204 : Unit := ()
def PySem.W.Fast.tw3652199383789512132 : Unit := ()
def PySem.W.Fast.tw16925712312323332580 : Unit := ()
def PySem.W.Fast.tw8319933024895762948 : Unit := ()
def PySem.W.Fast.tw1864683662541468164 : Unit := ()
def PySem.W.Fast.tw13462424878891718212 : Unit := ()
def PySem.W.Fast.tw8725675927981157988 : Unit := ()
def PySem.W.Fast.tw11373181179767321252 : Unit := ()
def PySem.W.Fast.tw6508132753307246276 : Unit := ()
def PySem.W.Fast.tw17694573340227235524 : Unit := ()
def PySem.W.Fast.tw5515903443438498500 : Unit := ()
def PySem.W.Fast.tw12903330217458380548 : Unit := ()
def PySem.W.Fast.tw8909772338491405060 : Unit := ()
def PySem.W.Fast.tw4548300405975405348 : Unit := ()
def PySem.W.Fast.tw9592300441314626372 : Unit := ()
def PySem.W.Fast.tw6851275008772768644 : Unit := ()
def PySem.W.Fast.tw6858818405166986180 : Unit := ()
def PySem.W.Fast.tw15593559885672580101 : Unit := ()
def PySem.W.Fast.tw13444670453868202053 : Unit := ()
def PySem.W.Fast.tw360634875079729221 : Unit := ()
def PySem.W.Fast.tw5805800948307579973 : Unit := ()
def PySem.W.Fast.tw14560624547652848805 : Unit := ()
def PySem.W.Fast.tw12003660372656728261 : Unit := ()
def PySem.W.Fast.tw13345342141187717317 : Unit := ()
def PySem.W.Fast.tw8331849164307833061 : Unit := ()
def PySem.W.Fast.tw14577027041581768965 : Unit := ()
def PySem.W.Fast.tw13710940844802916613 : Unit := ()
def PySem.W.Fast.tw12151077715039277381 : Unit := ()
def PySem.W.Fast.tw6631347999910079877 : Unit := ()
def PySem.W.Fast.tw7557421358154311045 : Unit := ()
def PySem.W.Fast.tw8219003486749837733 : Unit := ()
def PySem.W.Fast.tw86012387029904805 : Unit := ()
def PySem.W.Fast.tw14592624751514493413 : Unit := ()
def PySem.W.Fast.tw9402243437249704421 : Unit := ()
def PySem.W.Fast.tw11859619671507778021 : Unit := ()
def PySem.W.Fast.tw3500664145855060485 : Unit := ()
def PySem.W.Fast.tw8521684928402303493 : Unit := ()
def PySem.W.Fast.tw5498123283257192965 : Unit := ()
def PySem.W.Fast.tw12740759652641322565 : Unit := ()
def PySem.W.Fast.tw10910644110388302437 : Unit := ()
def PySem.W.Fast.tw3344036261162260069 : Unit := ()
def PySem.W.Fast.tw8996207646774452837 : Unit := ()
def PySem.W.Fast.tw10844150739181073093 : Unit := ()
def PySem.W.Fast.tw14538725608371270373 : Unit := ()
def PySem.W.Fast.tw4313010194945074917 : Unit := ()
def PySem.W.Fast.tw1342123614928995077 : Unit := ()
def PySem.W.Fast.tw14154597600763967237 : Unit := ()
def PySem.W.Fast.tw402139726102294341 : Unit := ()
def PySem.W.Fast.tw2492000799826889573 : Unit := ()
def PySem.W.Fast.tw11076892268299887525 : Unit := ()
def PySem.W.Fast.tw18384110700954362821 : Unit := ()
def PySem.W.Fast.tw8222940686941784037 : Unit := ()
def PySem.W.Fast.tw7387728532749555685 : Unit := ()
def PySem.W.Fast.tw431221854992830470 : Unit := ()
def PySem.W.Fast.tw14849461344987154502 : Unit := ()
def PySem.W.Fast.tw6548459193220583526 : Unit := ()
def PySem.W.Fast.tw8122695690928665766 : Unit := ()
def PySem.W.Fast.tw16902440903046159558 : Unit := ()
def PySem.W.Fast.tw11078473246598507814 : Unit := ()
def PySem.W.Fast.tw4436474186459923750 : Unit := ()
def PySem.W.Fast.tw4039707410889071942 : Unit := ()
def PySem.W.Fast.tw17427164358705649990 : Unit := ()
def PySem.W.Fast.tw5289818103960998278 : Unit := ()
def PySem.W.Fast.tw15057269961097804198 : Unit := ()
def PySem.W.Fast.tw6216382948874008006 : Unit := ()
def PySem.W.Fast.tw8865387616306378214 : Unit := ()
def PySem.W.Fast.tw991626836265849350 : Unit := ()
def PySem.W.Fast.tw4267111383703672358 : Unit := ()
def PySem.W.Fast.tw3215387988796971590 : Unit := ()
def PySem.W.Fast.tw6338894885288841830 : Unit := ()
def PySem.W.Fast.tw10550934584343373414 : Unit := ()
def PySem.W.Fast.tw14801369171006070438 : Unit := ()
def PySem.W.Fast.tw1725486776273817318 : Unit := ()
def PySem.W.Fast.tw11823594873375168262 : Unit := ()
def PySem.W.Fast.tw16670775579421159206 : Unit := ()
def PySem.W.Fast.tw296083027919845158 : Unit := ()
def PySem.W.Fast.tw8950108695139179302 : Unit := ()
def PySem.W.Fast.tw14074196154385387334 : Unit := ()
def PySem.W.Fast.tw1149798457248472902 : Unit := ()
def PySem.W.Fast.tw12315944733273679750 : Unit := ()
def PySem.W.Fast.tw5725222548895626118 : Unit := ()
def PySem.W.Fast.tw17214186515701724070 : Unit := ()
def PySem.W.Fast.tw8899516883271353254 : Unit := ()
def PySem.W.Fast.tw12058884036946728934 : Unit := ()
def PySem.W.Fast.tw2705429854395057126 : Unit := ()
def PySem.W.Fast.tw7372170664606466022 : Unit := ()
def PySem.W.Fast.tw9358312197846296583 : Unit := ()
def PySem.W.Fast.tw11657350159256941575 : Unit := ()
def PySem.W.Fast.tw17731313482808627303 : Unit := ()
def PySem.W.Fast.tw4971374062829452455 : Unit := ()
def PySem.W.Fast.tw17558320327384617127 : Unit := ()
def PySem.W.Fast.tw1941844328875101383 : Unit := ()
def PySem.W.Fast.tw7164969610272591079 : Unit := ()
def PySem.W.Fast.tw15541240446876304647 : Unit := ()
def PySem.W.Fast.tw7403982271040965895 : Unit := ()
def PySem.W.Fast.tw3328811466098603303 : Unit := ()
def PySem.W.Fast.tw16522183678017940807 : Unit := ()
def PySem.W.Fast.tw12125097214300078407 : Unit := ()
def PySem.W.Fast.tw4483904966330829159 : Unit := ()
def PySem.W.Fast.tw885948055608056263 : Unit := ()
def PySem.W.Fast.tw11564986514327137767 : Unit := ()
def PySem.W.Fast.tw2483321941437592071 : Unit := ()
def PySem.W.Fast.tw5948871876076421671 : Unit := ()
def PySem.W.Fast.tw9818998656811842119 : Unit := ()
def PySem.W.Fast.tw9294201344175945319 : Unit := ()
def PySem.W.Fast.tw4493901809537577575 : Unit := ()
def PySem.W.Fast.tw9331231397406362311 : Unit := ()
def PySem.W.Fast.tw1804834754348979943 : Unit := ()
def PySem.W.Fast.tw13937768818610491111 : Unit := ()
def PySem.W.Fast.tw14703100239697439463 : Unit := ()
def PySem.W.Fast.tw18105302477358141223 : Unit := ()
def PySem.W.Fast.tw12528221419883600679 : Unit := ()
def PySem.W.Fast.tw2789304352393801511 : Unit := ()
def PySem.W.Fast.tw9536688357841153863 : Unit := ()
def PySem.W.Fast.tw12307553483252862823 : Unit := ()
def PySem.W.Fast.tw16298917771340976007 : Unit := ()
def PySem.W.Fast.tw5610444585433571239 : Unit := ()
def PySem.W.Fast.tw5694767641087392711 : Unit := ()
def PySem.W.Fast.tw13769103115541136327 : Unit := ()
def PySem.W.Fast.tw13257283266767686631 : Unit := ()
def PySem.W.Fast.tw18157406047293677543 : Unit := ()
def PySem.W.Fast.tw11263768400469242888 : Unit := ()
def PySem.W.Fast.tw14594842627406614536 : Unit := ()
def PySem.W.Fast.tw17659185236578331656 : Unit := ()
def PySem.W.Fast.tw593343749668468936 : Unit := ()
def PySem.W.Fast.tw14847308668706973960 : Unit := ()
def PySem.W.Fast.tw14260533273033392520 : Unit := ()
def PySem.W.Fast.tw354308444213283272 : Unit := ()
def PySem.W.Fast.tw8622715204490130888 : Unit := ()
def PySem.W.Fast.tw15495752065017430504 : Unit := ()
def PySem.W.Fast.tw13831308528885131752 : Unit := ()
def PySem.W.Fast.tw5404398260228975080 : Unit := ()
def PySem.W.Fast.tw13861969467909019144 : Unit := ()
def PySem.W.Fast.tw9977182230042388008 : Unit := ()
def PySem.W.Fast.tw2956708394376553000 : Unit := ()
def PySem.W.Fast.tw15060872555676474952 : Unit := ()
def PySem.W.Fast.tw14755158882433999464 : Unit := ()
def PySem.W.Fast.tw6329614223026926184 : Unit := ()
def PySem.W.Fast.tw2810200551564342888 : Unit := ()
def PySem.W.Fast.tw6651725471809605288 : Unit := ()
def PySem.W.Fast.tw10297410513487048360 : Unit := ()
def PySem.W.Fast.tw15779231459743154856 : Unit := ()
def PySem.W.Fast.tw5205737364524765896 : Unit := ()
def PySem.W.Fast.tw424408320835691240 : Unit := ()
def PySem.W.Fast.tw9304451534382375720 : Unit := ()
def PySem.W.Fast.tw6942634455013318504 : Unit := ()
def PySem.W.Fast.tw11322711164460184488 : Unit := ()
def PySem.W.Fast.tw2187251505897268136 : Unit := ()
def PySem.W.Fast.tw256976265262469064 : Unit := ()
def PySem.W.Fast.tw2983494736656345032 : Unit := ()
def PySem.W.Fast.tw4938610541543285704 : Unit := ()
def PySem.W.Fast.tw17890440400047909864 : Unit := ()
def PySem.W.Fast.tw16120054744476736488 : Unit := ()
def PySem.W.Fast.tw7220529860990300233 : Unit := ()
def PySem.W.Fast.tw2084650752826471497 : Unit := ()
def PySem.W.Fast.tw1125065396945160393 : Unit := ()
def PySem.W.Fast.tw17312402878845073609 : Unit := ()
def PySem.W.Fast.tw4321966507151631593 : Unit := ()
def PySem.W.Fast.tw12250869413391326473 : Unit := ()
def PySem.W.Fast.tw16457251377207888201 : Unit := ()
def PySem.W.Fast.tw17986951261819808105 : Unit := ()
def PySem.W.Fast.tw15254633091992210921 : Unit := ()
def PySem.W.Fast.tw2386784164831690217 : Unit := ()
def PySem.W.Fast.tw14811890972901180937 : Unit := ()
def PySem.W.Fast.tw16060203290454839817 : Unit := ()
def PySem.W.Fast.tw13313058339493701161 : Unit := ()
def PySem.W.Fast.tw6984818610989830729 : Unit := ()
def PySem.W.Fast.tw3350206127114907401 : Unit := ()
def PySem.W.Fast.tw1205274952441263945 : Unit := ()
def PySem.W.Fast.tw11308061921803828041 : Unit := ()
def PySem.W.Fast.tw1045582712504079209 : Unit := ()
def PySem.W.Fast.tw8413399678365625193 : Unit := ()
def PySem.W.Fast.tw4944497897694004105 : Unit := ()
def PySem.W.Fast.tw9678289623588505577 : Unit := ()
def PySem.W.Fast.tw3214969091617688553 : Unit := ()
def PySem.W.Fast.tw1383625962624193546 : Unit := ()
def PySem.W.Fast.tw13459084325293418506 : Unit := ()
def PySem.W.Fast.tw18328257000508772394 : Unit := ()
def PySem.W.Fast.tw561727478393794602 : Unit := ()
def PySem.W.Fast.tw15572387867429868682 : Unit := ()
def PySem.W.Fast.tw7607420049574824106 : Unit := ()
def PySem.W.Fast.tw727924238349540522 : Unit := ()
def PySem.W.Fast.tw17170472223608059050 : Unit := ()
def PySem.W.Fast.tw5462360663327728810 : Unit := ()
def PySem.W.Fast.tw9768259533172459722 : Unit := ()
def PySem.W.Fast.tw7407744344239389898 : Unit := ()
def PySem.W.Fast.tw14172470266813156586 : Unit := ()
def PySem.W.Fast.tw15251835097244881130 : Unit := ()
def PySem.W.Fast.tw4470585836733325578 : Unit := ()
def PySem.W.Fast.tw9848817304349107530 : Unit := ()
def PySem.W.Fast.tw16765560720781731146 : Unit := ()
def PySem.W.Fast.tw17435391645217708394 : Unit := ()
def PySem.W.Fast.tw123454888095987114 : Unit := ()
def PySem.W.Fast.tw12930229547647579594 : Unit := ()
def PySem.W.Fast.tw2134106378703910346 : Unit := ()
def PySem.W.Fast.tw11220919329744738794 : Unit := ()
def PySem.W.Fast.tw15917658305576242666 : Unit := ()
def PySem.W.Fast.tw14903569129155370506 : Unit := ()
def PySem.W.Fast.tw14387916025512776202 : Unit := ()
def PySem.W.Fast.tw16248296213531012650 : Unit := ()
def PySem.W.Fast.tw1484650774730072618 : Unit := ()
def PySem.W.Fast.tw10539347186207431242 : Unit := ()
def PySem.W.Fast.tw12132732476715806282 : Unit := ()
def PySem.W.Fast.tw11844019762684407370 : Unit := ()
def PySem.W.Fast.tw11962351593759143498 : Unit := ()
def PySem.W.Fast.tw9744259246892133002 : Unit := ()
def PySem.W.Fast.tw11219443903484984970 : Unit := ()
def PySem.W.Fast.tw2768188642542392010 : Unit := ()
def PySem.W.Fast.tw7985883749528016586 : Unit := ()
def PySem.W.Fast.tw17160835175205238506 : Unit := ()
def PySem.W.Fast.tw5128061309963564778 : Unit := ()
def PySem.W.Fast.tw5816495043963226922 : Unit := ()
def PySem.W.Fast.tw13913613514976480042 : Unit := ()
def PySem.W.Fast.tw16947231599799070506 : Unit := ()
def PySem.W.Fast.tw13812277999558781770 : Unit := ()
def PySem.W.Fast.tw16232239604740543338 : Unit := ()
def PySem.W.Fast.tw4449799235075362730 : Unit := ()
def PySem.W.Fast.tw8212203176049278890 : Unit := ()
def PySem.W.Fast.tw9619071485814978506 : Unit := ()
def PySem.W.Fast.tw6607644564249050058 : Unit := ()
def PySem.W.Fast.tw7509565986652818475 : Unit := ()
def PySem.W.Fast.tw5661595848482461739 : Unit := ()
def PySem.W.Fast.tw8150244357695641675 : Unit := ()
def PySem.W.Fast.tw10851082721055443051 : Unit := ()
def PySem.W.Fast.tw2403389108928632939 : Unit := ()
def PySem.W.Fast.tw15042883488752021643 : Unit := ()
def PySem.W.Fast.tw9646623106273453227 : Unit := ()
def PySem.W.Fast.tw4333590680753393835 : Unit := ()
def PySem.W.Fast.tw3277229846650655979 : Unit := ()
def PySem.W.Fast.tw5845002605336314091 : Unit := ()
def PySem.W.Fast.tw12182174808115992843 : Unit := ()
def PySem.W.Fast.tw13631397514672939371 : Unit := ()
def PySem.W.Fast.tw13622603851894308203 : Unit := ()
def PySem.W.Fast.tw18183970276198133131 : Unit := ()
def PySem.W.Fast.tw628631919661052299 : Unit := ()
def PySem.W.Fast.tw5634867526602368427 : Unit := ()
def PySem.W.Fast.tw3270257207059953099 : Unit := ()
def PySem.W.Fast.tw2546767868308347339 : Unit := ()
def PySem.W.Fast.tw7001957589650049515 : Unit := ()
def PySem.W.Fast.tw12524954882073270795 : Unit := ()
def PySem.W.Fast.tw14202271707224943307 : Unit := ()
def PySem.W.Fast.tw14061609134260724683 : Unit := ()
def PySem.W.Fast.tw4538635040379822027 : Unit := ()
def PySem.W.Fast.tw13069393092227542028 : Unit := ()
def PySem.W.Fast.tw258204147387103276 : Unit := ()
def PySem.W.Fast.tw1932759071263863916 : Unit := ()
def PySem.W.Fast.tw8297923619242306668 : Unit := ()
def PySem.W.Fast.tw2997480634906808460 : Unit := ()
def PySem.W.Fast.tw8159993647027272844 : Unit := ()
def PySem.W.Fast.tw13333588703604149420 : Unit := ()
def PySem.W.Fast.tw6690350156832105676 : Unit := ()
def PySem.W.Fast.tw10843851513400154316 : Unit := ()
def PySem.W.Fast.tw446995266069924076 : Unit := ()
def PySem.W.Fast.tw1642651162322924780 : Unit := ()
def PySem.W.Fast.tw7181997581385953548 : Unit := ()
def PySem.W.Fast.tw16108870410212019532 : Unit := ()
def PySem.W.Fast.tw4804111812005502284 : Unit := ()
def PySem.W.Fast.tw12053924596057091436 : Unit := ()
def PySem.W.Fast.tw12747814925858328940 : Unit := ()
def PySem.W.Fast.tw1378205811072252300 : Unit := ()
def PySem.W.Fast.tw3717076922277056940 : Unit := ()
def PySem.W.Fast.tw247591363613054380 : Unit := ()
def PySem.W.Fast.tw12528533614272120300 : Unit := ()
def PySem.W.Fast.tw7764699552788554220 : Unit := ()
def PySem.W.Fast.tw209982475168477708 : Unit := ()
def PySem.W.Fast.tw7091221385724896812 : Unit := ()
def PySem.W.Fast.tw11717715558655726156 : Unit := ()
def PySem.W.Fast.tw16636501806038632012 : Unit := ()
def PySem.W.Fast.tw16101134707931498060 : Unit := ()
def PySem.W.Fast.tw12627051441459223148 : Unit := ()
def PySem.W.Fast.tw17410218998227585676 : Unit := ()
def PySem.W.Fast.tw14332157829676619468 : Unit := ()
def PySem.W.Fast.tw13946496683202179788 : Unit := ()
def PySem.W.Fast.tw13032259773685033708 : Unit := ()
def PySem.W.Fast.tw17483705464198625004 : Unit := ()
def PySem.W.Fast.tw7828442866392281868 : Unit := ()
def PySem.W.Fast.tw7485256538410118956 : Unit := ()
def PySem.W.Fast.tw2015444344454546412 : Unit := ()
def PySem.W.Fast.tw11362737164128661484 : Unit := ()
def PySem.W.Fast.tw4903002758410956813 : Unit := ()
def PySem.W.Fast.tw13053770412826190925 : Unit := ()
def PySem.W.Fast.tw16682895059504647277 : Unit := ()
def PySem.W.Fast.tw11449968299874610285 : Unit := ()
def PySem.W.Fast.tw14842496431369740429 : Unit := ()
def PySem.W.Fast.tw4046790133079468173 : Unit := ()
def PySem.W.Fast.tw7921390202802761869 : Unit := ()
def PySem.W.Fast.tw11911167908941700269 : Unit := ()
def PySem.W.Fast.tw6714880395473160397 : Unit := ()
def PySem.W.Fast.tw2759284407945088205 : Unit := ()
def PySem.W.Fast.tw15733337929971156237 : Unit := ()
def PySem.W.Fast.tw2777980699273126189 : Unit := ()
def PySem.W.Fast.tw12669407529647801677 : Unit := ()
def PySem.W.Fast.tw2846267367221353805 : Unit := ()
def PySem.W.Fast.tw11502921971960690029 : Unit := ()
def PySem.W.Fast.tw8833496514701923757 : Unit := ()
def PySem.W.Fast.tw12549542988036985293 : Unit := ()
def PySem.W.Fast.tw18248855084332350957 : Unit := ()
def PySem.W.Fast.tw6208910965292489261 : Unit := ()
def PySem.W.Fast.tw2894314189432023629 : Unit := ()
def PySem.W.Fast.tw6259241058660970061 : Unit := ()
def PySem.W.Fast.tw12091130801917272685 : Unit := ()
def PySem.W.Fast.tw9806118890596472461 : Unit := ()
def PySem.W.Fast.tw11662115353561507501 : Unit := ()
def PySem.W.Fast.tw5000232492035539693 : Unit := ()
def PySem.W.Fast.tw172746767574481773 : Unit := ()
def PySem.W.Fast.tw11489344026974618541 : Unit := ()
def PySem.W.Fast.tw154272780991502253 : Unit := ()
def PySem.W.Fast.tw615563214671542189 : Unit := ()
def PySem.W.Fast.tw1474264761786122189 : Unit := ()
def PySem.W.Fast.tw6973427100653255629 : Unit := ()
def PySem.W.Fast.tw542563422162235373 : Unit := ()
def PySem.W.Fast.tw3239113980409921550 : Unit := ()
def PySem.W.Fast.tw16003985067176294414 : Unit := ()
def PySem.W.Fast.tw8428246938381088814 : Unit := ()
def PySem.W.Fast.tw9215358943560890414 : Unit := ()
def PySem.W.Fast.tw10161179621583223854 : Unit := ()
def PySem.W.Fast.tw14261769069557060686 : Unit := ()
def PySem.W.Fast.tw376983999666122830 : Unit := ()
def PySem.W.Fast.tw16005714805435085966 : Unit := ()
def PySem.W.Fast.tw15418674001244492974 : Unit := ()
def PySem.W.Fast.tw15166322114958858414 : Unit := ()
def PySem.W.Fast.tw3374319085511977134 : Unit := ()
def PySem.W.Fast.tw11153126096140912846 : Unit := ()
def PySem.W.Fast.tw13996866031312336078 : Unit := ()
def PySem.W.Fast.tw8044325682031459534 : Unit := ()
def PySem.W.Fast.tw12876709506271813870 : Unit := ()
def PySem.W.Fast.tw7942791058656714990 : Unit := ()
def PySem.W.Fast.tw8278001386518606062 : Unit := ()
def PySem.W.Fast.tw16873086082458093902 : Unit := ()
def PySem.W.Fast.tw16654469307462801742 : Unit := ()
def PySem.W.Fast.tw10192404496044350798 : Unit := ()
def PySem.W.Fast.tw14938211915633500526 : Unit := ()
def PySem.W.Fast.tw12076989928817844590 : Unit := ()
def PySem.W.Fast.tw2941924889016668590 : Unit := ()
def PySem.W.Fast.tw3365755272349913518 : Unit := ()
def PySem.W.Fast.tw16859961878692490766 : Unit := ()
def PySem.W.Fast.tw14993981098963755598 : Unit := ()
def PySem.W.Fast.tw16691165463884887630 : Unit := ()
def PySem.W.Fast.tw1010972086116683374 : Unit := ()
def PySem.W.Fast.tw4051853165826885262 : Unit := ()
def PySem.W.Fast.tw14782755387869428366 : Unit := ()
def PySem.W.Fast.tw3475869608268796686 : Unit := ()
def PySem.W.Fast.tw12236101354414956334 : Unit := ()
def PySem.W.Fast.tw17871049288011112270 : Unit := ()
def PySem.W.Fast.tw5783627655825047438 : Unit := ()
def PySem.W.Fast.tw8733291241859026926 : Unit := ()
def PySem.W.Fast.tw9223045988441327695 : Unit := ()
def PySem.W.Fast.tw3946093964270102607 : Unit := ()
def PySem.W.Fast.tw786537726763496527 : Unit := ()
def PySem.W.Fast.tw17721149768220346479 : Unit := ()
def PySem.W.Fast.tw18335596039185421423 : Unit := ()
def PySem.W.Fast.tw785946285636773999 : Unit := ()
def PySem.W.Fast.tw8737599933303070863 : Unit := ()
def PySem.W.Fast.tw7212858340449540239 : Unit := ()
def PySem.W.Fast.tw13669536469129627823 : Unit := ()
def PySem.W.Fast.tw1000662321505670351 : Unit := ()
def PySem.W.Fast.tw15702583709834301711 : Unit := ()
def PySem.W.Fast.tw4309217394794523951 : Unit := ()
def PySem.W.Fast.tw18073898193381586223 : Unit := ()
def PySem.W.Fast.tw1181674027530198351 : Unit := ()
def PySem.W.Fast.tw555815775780349263 : Unit := ()
def PySem.W.Fast.tw1205604411410820431 : Unit := ()
def PySem.W.Fast.tw13160504802963445071 : Unit := ()
def PySem.W.Fast.tw16583815154217966991 : Unit := ()
def PySem.W.Fast.tw8412748745612879247 : Unit := ()
def PySem.W.Fast.tw1835201335921387983 : Unit := ()
def PySem.W.Fast.tw4776297677400877519 : Unit := ()
def PySem.W.Fast.tw1783128247137549839 : Unit := ()
def PySem.W.Fast.tw9388066449989048879 : Unit := ()
def PySem.W.Fast.tw16531682779099013679 : Unit := ()
def PySem.W.Fast.tw6145912378217320015 : Unit := ()
def PySem.W.Fast.tw6170744672141170255 : Unit := ()
def PySem.W.Fast.tw7837367980739423823 : Unit := ()
def PySem.W.Fast.tw18146532975450069615 : Unit := ()
def PySem.W.Fast.tw12477129341811645039 : Unit := ()
def PySem.W.Fast.tw13164499291161521807 : Unit := ()
def PySem.W.Fast.tw578191462805490351 : Unit := ()
def PySem.W.Fast.tw6044648929357246223 : Unit := ()
def PySem.W.Fast.tw11481637867367846703 : Unit := ()
def PySem.W.Fast.tw16412085850373738351 : Unit := ()
def PySem.W.Fast.tw10395332584310045583 : Unit := ()
def PySem.W.Fast.tw726351398001015727 : Unit := ()
def PySem.W.Fast.tw6356304189028158447 : Unit := ()
def PySem.W.Fast.tw6229817132586351632 : Unit := ()
def PySem.W.Fast.tw16217903435359918192 : Unit := ()
def PySem.W.Fast.tw3236729772642805936 : Unit := ()
def PySem.W.Fast.tw5037459499596335280 : Unit := ()
def PySem.W.Fast.tw5217270863462422736 : Unit := ()
def PySem.W.Fast.tw9162645422354645296 : Unit := ()
def PySem.W.Fast.tw5101696844757716304 : Unit := ()
def PySem.W.Fast.tw5171440476677080432 : Unit := ()
def PySem.W.Fast.tw12459912946257978736 : Unit := ()
def PySem.W.Fast.tw10149570385669482864 : Unit := ()
def PySem.W.Fast.tw8002303944043701648 : Unit := ()
def PySem.W.Fast.tw7926090574327391632 : Unit := ()
def PySem.W.Fast.tw7231845647793152400 : Unit := ()
def PySem.W.Fast.tw5493063752884776336 : Unit := ()
def PySem.W.Fast.tw539538531456391632 : Unit := ()
def PySem.W.Fast.tw3817596123196066256 : Unit := ()
def PySem.W.Fast.tw14540961386073393648 : Unit := ()
def PySem.W.Fast.tw13674586047789940208 : Unit := ()
def PySem.W.Fast.tw16792556548410726896 : Unit := ()
def PySem.W.Fast.tw2646887283097553488 : Unit := ()
def PySem.W.Fast.tw5444512763150141072 : Unit := ()
def PySem.W.Fast.tw15235614512728720 : Unit := ()
def PySem.W.Fast.tw5137589814051832496 : Unit := ()
def PySem.W.Fast.tw4946147512530127568 : Unit := ()
def PySem.W.Fast.tw12611869695672147664 : Unit := ()
def PySem.W.Fast.tw1708089923452030704 : Unit := ()
def PySem.W.Fast.tw1979317910248211280 : Unit := ()
def PySem.W.Fast.tw14226173905949225808 : Unit := ()
def PySem.W.Fast.tw1467881925912835984 : Unit := ()
def PySem.W.Fast.tw384561282630992784 : Unit := ()
def PySem.W.Fast.tw8349214307167005616 : Unit := ()
def PySem.W.Fast.tw15125770126966510544 : Unit := ()
def PySem.W.Fast.tw10341888390210383824 : Unit := ()
def PySem.W.Fast.tw4449297822257671152 : Unit := ()
def PySem.W.Fast.tw12798174099139212305 : Unit := ()
def PySem.W.Fast.tw306047672372848657 : Unit := ()
def PySem.W.Fast.tw10911716485165742097 : Unit := ()
def PySem.W.Fast.tw2741014181512449073 : Unit := ()
def PySem.W.Fast.tw7424060955962978353 : Unit := ()
def PySem.W.Fast.tw182723221234572337 : Unit := ()
def PySem.W.Fast.tw10842938092177581297 : Unit := ()
def PySem.W.Fast.tw2528511596961503537 : Unit := ()
def PySem.W.Fast.tw3340072933214586257 : Unit := ()
def PySem.W.Fast.tw2990168724187919761 : Unit := ()
def PySem.W.Fast.tw3897268976836264337 : Unit := ()
def PySem.W.Fast.tw3778530596728393105 : Unit := ()
def PySem.W.Fast.tw1630143524128594353 : Unit := ()
def PySem.W.Fast.tw14135006944967825841 : Unit := ()
def PySem.W.Fast.tw13813618637161013713 : Unit := ()
def PySem.W.Fast.tw7873786274422454737 : Unit := ()
def PySem.W.Fast.tw3328118118096588273 : Unit := ()
def PySem.W.Fast.tw17431205604353252913 : Unit := ()
def PySem.W.Fast.tw14170518179582410385 : Unit := ()
def PySem.W.Fast.tw2333105410213810865 : Unit := ()
def PySem.W.Fast.tw13367274342830030513 : Unit := ()
def PySem.W.Fast.tw866717566613908145 : Unit := ()
def PySem.W.Fast.tw12960429369202013873 : Unit := ()
def PySem.W.Fast.tw5263133172445716209 : Unit := ()
def PySem.W.Fast.tw8908233856664302321 : Unit := ()
def PySem.W.Fast.tw12064304430848566033 : Unit := ()
def PySem.W.Fast.tw15240619367488684849 : Unit := ()
def PySem.W.Fast.tw15861351967447197489 : Unit := ()
def PySem.W.Fast.tw10888863842102328177 : Unit := ()
def PySem.W.Fast.tw6876597610515428209 : Unit := ()
def PySem.W.Fast.tw2135409205425526673 : Unit := ()
def PySem.W.Fast.tw2595618661548880785 : Unit := ()
def PySem.W.Fast.tw2046362190076281809 : Unit := ()
def PySem.W.Fast.tw11566098044289413073 : Unit := ()
def PySem.W.Fast.tw14727194681476072466 : Unit := ()
def PySem.W.Fast.tw2474200967059427378 : Unit := ()
def PySem.W.Fast.tw866652123128751154 : Unit := ()
def PySem.W.Fast.tw13629772047308552242 : Unit := ()
def PySem.W.Fast.tw18402647697222807634 : Unit := ()
def PySem.W.Fast.tw1517009173149250642 : Unit := ()
def PySem.W.Fast.tw1866716027138748530 : Unit := ()
def PySem.W.Fast.tw10799429511968010386 : Unit := ()
def PySem.W.Fast.tw16626521671886133394 : Unit := ()
def PySem.W.Fast.tw13257414776242894994 : Unit := ()
def PySem.W.Fast.tw14341141199694864594 : Unit := ()
def PySem.W.Fast.tw14569604634059749682 : Unit := ()
def PySem.W.Fast.tw3049343062529576306 : Unit := ()
def PySem.W.Fast.tw5274481202262711730 : Unit := ()
def PySem.W.Fast.tw2925816871977632210 : Unit := ()
def PySem.W.Fast.tw3235425350174046738 : Unit := ()
def PySem.W.Fast.tw3851428956369438258 : Unit := ()
def PySem.W.Fast.tw14746253646979254834 : Unit := ()
def PySem.W.Fast.tw4186743451310774866 : Unit := ()
def PySem.W.Fast.tw13082796549270168242 : Unit := ()
def PySem.W.Fast.tw10164718903369591474 : Unit := ()
def PySem.W.Fast.tw5286648830458609394 : Unit := ()
def PySem.W.Fast.tw6125853113672642322 : Unit := ()
def PySem.W.Fast.tw17267597263503486738 : Unit := ()
def PySem.W.Fast.tw3438699932752214802 : Unit := ()
def PySem.W.Fast.tw12567650564001988402 : Unit := ()
def PySem.W.Fast.tw13299628023176669074 : Unit := ()
def PySem.W.Fast.tw12461081396071149458 : Unit := ()
def PySem.W.Fast.tw16681507383918705554 : Unit := ()
def PySem.W.Fast.tw2424988045566436242 : Unit := ()
def PySem.W.Fast.tw2870957612703475602 : Unit := ()
def PySem.W.Fast.tw9045458381397004210 : Unit := ()
def PySem.W.Fast.tw5371794888043636658 : Unit := ()
def PySem.W.Fast.tw12298192366917762067 : Unit := ()
def PySem.W.Fast.tw11384182702204212275 : Unit := ()
def PySem.W.Fast.tw9197174079833555027 : Unit := ()
def PySem.W.Fast.tw10886659093417053267 : Unit := ()
def PySem.W.Fast.tw18293242582946804979 : Unit := ()
def PySem.W.Fast.tw13215348057498601715 : Unit := ()
def PySem.W.Fast.tw5872530126848033075 : Unit := ()
def PySem.W.Fast.tw16260866306193365299 : Unit := ()
def PySem.W.Fast.tw17338325484393633139 : Unit := ()
def PySem.W.Fast.tw6945566481307383155 : Unit := ()
def PySem.W.Fast.tw16035376269474964883 : Unit := ()
def PySem.W.Fast.tw1532491051758110099 : Unit := ()
def PySem.W.Fast.tw977512076041815475 : Unit := ()
def PySem.W.Fast.tw10158677189637292467 : Unit := ()
def PySem.W.Fast.tw13571862603940711859 : Unit := ()
def PySem.W.Fast.tw5323657890516693427 : Unit := ()
def PySem.W.Fast.tw16998588944726240723 : Unit := ()
def PySem.W.Fast.tw9947508896943372755 : Unit := ()
def PySem.W.Fast.tw17590705303994421779 : Unit := ()
def PySem.W.Fast.tw12138319994727072339 : Unit := ()
def PySem.W.Fast.tw12369848792361866835 : Unit := ()
def PySem.W.Fast.tw17062427158221528723 : Unit := ()
def PySem.W.Fast.tw2172276787581067923 : Unit := ()
def PySem.W.Fast.tw14934011241717051027 : Unit := ()
def PySem.W.Fast.tw11793702604926673555 : Unit := ()
def PySem.W.Fast.tw8318101203651539667 : Unit := ()
def PySem.W.Fast.tw11402884983299125971 : Unit := ()
def PySem.W.Fast.tw2244103112122482387 : Unit := ()
def PySem.W.Fast.tw4063829332388037331 : Unit := ()
def PySem.W.Fast.tw12717557048674177747 : Unit := ()
def PySem.W.Fast.tw5537553045615171315 : Unit := ()
def PySem.W.Fast.tw11512705759438076691 : Unit := ()
def PySem.W.Fast.tw7397212543588705075 : Unit := ()
def PySem.W.Fast.tw1207101557538958131 : Unit := ()
def PySem.W.Fast.tw5992840812097835891 : Unit := ()
def PySem.W.Fast.tw18004296560267143027 : Unit := ()
def PySem.W.Fast.tw5649666937502919571 : Unit := ()
def PySem.W.Fast.tw6782663255696616371 : Unit := ()
def PySem.W.Fast.tw599730875272715187 : Unit := ()
def PySem.W.Fast.tw7217548393331319763 : Unit := ()
def PySem.W.Fast.tw7770478706760583155 : Unit := ()
def PySem.W.Fast.tw15036080040530398195 : Unit := ()
def PySem.W.Fast.tw3592811809046731828 : Unit := ()
def PySem.W.Fast.tw2527701527901579348 : Unit := ()
def PySem.W.Fast.tw1607123104830579860 : Unit := ()
def PySem.W.Fast.tw12441744018607269044 : Unit := ()
def PySem.W.Fast.tw7787813539459594420 : Unit := ()
def PySem.W.Fast.tw4964365479395341524 : Unit := ()
def PySem.W.Fast.tw819570635367399668 : Unit := ()
def PySem.W.Fast.tw18383651708701053236 : Unit := ()
def PySem.W.Fast.tw17852080271459398996 : Unit := ()
def PySem.W.Fast.tw9553971096990549364 : Unit := ()
def PySem.W.Fast.tw14294133066467233204 : Unit := ()
def PySem.W.Fast.tw180266875558373844 : Unit := ()
def PySem.W.Fast.tw8274446707539698164 : Unit := ()
def PySem.W.Fast.tw14334995849660946996 : Unit := ()
def PySem.W.Fast.tw14607143338591219252 : Unit := ()
def PySem.W.Fast.tw17613222154834848340 : Unit := ()
def PySem.W.Fast.tw16839002366802243188 : Unit := ()
def PySem.W.Fast.tw4524658085876675188 : Unit := ()
def PySem.W.Fast.tw7249310025045793396 : Unit := ()
def PySem.W.Fast.tw3719891259706897012 : Unit := ()
def PySem.W.Fast.tw4026147355466621588 : Unit := ()
def PySem.W.Fast.tw16086907953836968628 : Unit := ()
def PySem.W.Fast.tw5522115075389312692 : Unit := ()
def PySem.W.Fast.tw3303267245142563540 : Unit := ()
def PySem.W.Fast.tw5364010647548929812 : Unit := ()
def PySem.W.Fast.tw11095110211248682772 : Unit := ()
def PySem.W.Fast.tw11368310244458860372 : Unit := ()
def PySem.W.Fast.tw17508347553164502932 : Unit := ()
def PySem.W.Fast.tw17360015989920007124 : Unit := ()
def PySem.W.Fast.tw8398943975594018772 : Unit := ()
def PySem.W.Fast.tw7307589515853891572 : Unit := ()
def PySem.W.Fast.tw3300454383303005205 : Unit := ()
def PySem.W.Fast.tw13851515409511356469 : Unit := ()
def PySem.W.Fast.tw8414355815457870901 : Unit := ()
def PySem.W.Fast.tw7766106395892283477 : Unit := ()
def PySem.W.Fast.tw937210970483165301 : Unit := ()
def PySem.W.Fast.tw8546256303203405941 : Unit := ()
def PySem.W.Fast.tw13127508451798649013 : Unit := ()
def PySem.W.Fast.tw4993863958327201973 : Unit := ()
def PySem.W.Fast.tw1402340071739887797 : Unit := ()
def PySem.W.Fast.tw5832146486336120021 : Unit := ()
def PySem.W.Fast.tw3456351732281881909 : Unit := ()
def PySem.W.Fast.tw3801850119919557013 : Unit := ()
def PySem.W.Fast.tw11766667032028208565 : Unit := ()
def PySem.W.Fast.tw4075453323654395381 : Unit := ()
def PySem.W.Fast.tw11161164713144168021 : Unit := ()
def PySem.W.Fast.tw17518593693041627797 : Unit := ()
def PySem.W.Fast.tw13037224057902187189 : Unit := ()
def PySem.W.Fast.tw15415318616479256277 : Unit := ()
def PySem.W.Fast.tw447263597446747957 : Unit := ()
def PySem.W.Fast.tw17510684818845775701 : Unit := ()
def PySem.W.Fast.tw5672623616920478581 : Unit := ()
def PySem.W.Fast.tw17049750858520166293 : Unit := ()
def PySem.W.Fast.tw1545724803604235189 : Unit := ()
def PySem.W.Fast.tw10406584006884427733 : Unit := ()
def PySem.W.Fast.tw1329382545583022102 : Unit := ()
def PySem.W.Fast.tw890339118813698166 : Unit := ()
def PySem.W.Fast.tw17590876675597686902 : Unit := ()
def PySem.W.Fast.tw12732229965196715158 : Unit := ()
def PySem.W.Fast.tw7002614004127435958 : Unit := ()
def PySem.W.Fast.tw11266997524610791606 : Unit := ()
def PySem.W.Fast.tw14036186469904095446 : Unit := ()
def PySem.W.Fast.tw6408400580700104982 : Unit := ()
def PySem.W.Fast.tw9399754086935153974 : Unit := ()
def PySem.W.Fast.tw685176793378778422 : Unit := ()
def PySem.W.Fast.tw5376530373609499990 : Unit := ()
def PySem.W.Fast.tw14537775516033599862 : Unit := ()
def PySem.W.Fast.tw5338801713223979382 : Unit := ()
def PySem.W.Fast.tw5702276774652866934 : Unit := ()
def PySem.W.Fast.tw14196522196718054806 : Unit := ()
def PySem.W.Fast.tw6921103065077540406 : Unit := ()
def PySem.W.Fast.tw7046044490832178742 : Unit := ()
def PySem.W.Fast.tw17680797132471856694 : Unit := ()
def PySem.W.Fast.tw7050804516273991350 : Unit := ()
def PySem.W.Fast.tw2754868194923854518 : Unit := ()
def PySem.W.Fast.tw3603697650439363286 : Unit := ()
def PySem.W.Fast.tw2213964242967304950 : Unit := ()
def PySem.W.Fast.tw12681666616541194006 : Unit := ()
def PySem.W.Fast.tw6542358382571353910 : Unit := ()
def PySem.W.Fast.tw2107523057676978006 : Unit := ()
def PySem.W.Fast.tw13255938527306859382 : Unit := ()
def PySem.W.Fast.tw9404705873571188630 : Unit := ()
def PySem.W.Fast.tw8285278889055680438 : Unit := ()
def PySem.W.Fast.tw2694234056635809718 : Unit := ()
def PySem.W.Fast.tw10551173667578312727 : Unit := ()
def PySem.W.Fast.tw10052031235695348791 : Unit := ()
def PySem.W.Fast.tw8179860101808600119 : Unit := ()
def PySem.W.Fast.tw8916268530333523031 : Unit := ()
def PySem.W.Fast.tw12542895121996172375 : Unit := ()
def PySem.W.Fast.tw17713387462200973399 : Unit := ()
def PySem.W.Fast.tw6828597562223498359 : Unit := ()
def PySem.W.Fast.tw14404928986312190071 : Unit := ()
def PySem.W.Fast.tw10186303709888756887 : Unit := ()
def PySem.W.Fast.tw15969335453137586327 : Unit := ()
def PySem.W.Fast.tw15910123707662034135 : Unit := ()
def PySem.W.Fast.tw16247262843940693239 : Unit := ()
def PySem.W.Fast.tw3308634892276815127 : Unit := ()
def PySem.W.Fast.tw13539809779269347639 : Unit := ()
def PySem.W.Fast.tw4341293187932698999 : Unit := ()
def PySem.W.Fast.tw2813801546833155447 : Unit := ()
def PySem.W.Fast.tw4517560463748656503 : Unit := ()
def PySem.W.Fast.tw7777189000029798807 : Unit := ()
def PySem.W.Fast.tw4382473104129494423 : Unit := ()
def PySem.W.Fast.tw17339309145561079191 : Unit := ()
def PySem.W.Fast.tw8374155422468719031 : Unit := ()
def PySem.W.Fast.tw7900394595670775223 : Unit := ()
def PySem.W.Fast.tw4598271963242535575 : Unit := ()
def PySem.W.Fast.tw12091442091272426231 : Unit := ()
def PySem.W.Fast.tw9869809959619462935 : Unit := ()
def PySem.W.Fast.tw9495317472360511255 : Unit := ()
def PySem.W.Fast.tw9003107776662980439 : Unit := ()
def PySem.W.Fast.tw4340673293219707767 : Unit := ()
def PySem.W.Fast.tw13851971633180934007 : Unit := ()
def PySem.W.Fast.tw3971525946579005399 : Unit := ()
def PySem.W.Fast.tw13468011388731342839 : Unit := ()
def PySem.W.Fast.tw10094733558918713432 : Unit := ()
def PySem.W.Fast.tw14520296925931582552 : Unit := ()
def PySem.W.Fast.tw2310853497090360408 : Unit := ()
def PySem.W.Fast.tw10310341975313369176 : Unit := ()
def PySem.W.Fast.tw11033627544408312984 : Unit := ()
def PySem.W.Fast.tw2167315655227761912 : Unit := ()
def PySem.W.Fast.tw7933485763601977624 : Unit := ()
def PySem.W.Fast.tw12041797014711123256 : Unit := ()
def PySem.W.Fast.tw14479964200598819128 : Unit := ()
def PySem.W.Fast.tw375148617187948888 : Unit := ()
def PySem.W.Fast.tw13142635158332540280 : Unit := ()
def PySem.W.Fast.tw2275282789119773048 : Unit := ()
def PySem.W.Fast.tw8232614014015475128 : Unit := ()
def PySem.W.Fast.tw6046103115902281144 : Unit := ()
def PySem.W.Fast.tw12670982853097334264 : Unit := ()
def PySem.W.Fast.tw17614877247268290040 : Unit := ()
def PySem.W.Fast.tw16802631365582062104 : Unit := ()
def PySem.W.Fast.tw13885670934486923800 : Unit := ()
def PySem.W.Fast.tw5306753302271460952 : Unit := ()
def PySem.W.Fast.tw12772213712371865176 : Unit := ()
def PySem.W.Fast.tw14869962595670455896 : Unit := ()
def PySem.W.Fast.tw4704452742865826424 : Unit := ()
def PySem.W.Fast.tw16145670418848962200 : Unit := ()
def PySem.W.Fast.tw11120740854625124088 : Unit := ()
def PySem.W.Fast.tw13936439389310444312 : Unit := ()
def PySem.W.Fast.tw8047209995159408440 : Unit := ()
def PySem.W.Fast.tw17464319187374939960 : Unit := ()
def PySem.W.Fast.tw15150329256914348856 : Unit := ()
def PySem.W.Fast.tw15475723433398761304 : Unit := ()
def PySem.W.Fast.tw12020253756985099128 : Unit := ()
def PySem.W.Fast.tw14995258362815363992 : Unit := ()
def PySem.W.Fast.tw14859695947638507448 : Unit := ()
def PySem.W.Fast.tw9689729476882780088 : Unit := ()
def PySem.W.Fast.tw17271881437230615512 : Unit := ()
def PySem.W.Fast.tw2983127059725616120 : Unit := ()
def PySem.W.Fast.tw13557862171009465336 : Unit := ()
def PySem.W.Fast.tw3997487885647526937 : Unit := ()
def PySem.W.Fast.tw2641800013201688601 : Unit := ()
def PySem.W.Fast.tw10026605065719503897 : Unit := ()
def PySem.W.Fast.tw3538781236444307513 : Unit := ()
def PySem.W.Fast.tw15326580083554890809 : Unit := ()
def PySem.W.Fast.tw1405720946626083897 : Unit := ()
def PySem.W.Fast.tw2576523973992343609 : Unit := ()
def PySem.W.Fast.tw2392593158011319353 : Unit := ()
def PySem.W.Fast.tw5920806927976990809 : Unit := ()
def PySem.W.Fast.tw3099597729799864441 : Unit := ()
def PySem.W.Fast.tw7480016910919988345 : Unit := ()
def PySem.W.Fast.tw17980500129456985241 : Unit := ()
def PySem.W.Fast.tw757356599333046425 : Unit := ()
def PySem.W.Fast.tw16453263628727151865 : Unit := ()
def PySem.W.Fast.tw12901003280762261817 : Unit := ()
def PySem.W.Fast.tw11212356425047092601 : Unit := ()
def PySem.W.Fast.tw1683588176727124409 : Unit := ()
def PySem.W.Fast.tw14081431093454284249 : Unit := ()
def PySem.W.Fast.tw17678831435119133177 : Unit := ()
def PySem.W.Fast.tw14833712730911297017 : Unit := ()
def PySem.W.Fast.tw9113380124883318265 : Unit := ()
def PySem.W.Fast.tw10698057553749749337 : Unit := ()
def PySem.W.Fast.tw5874822333441161849 : Unit := ()
def PySem.W.Fast.tw694261584828832409 : Unit := ()
def PySem.W.Fast.tw16822532161544500889 : Unit := ()
def PySem.W.Fast.tw1198783387198779033 : Unit := ()
def PySem.W.Fast.tw9931937742245647033 : Unit := ()
def PySem.W.Fast.tw5370981198051040953 : Unit := ()
def PySem.W.Fast.tw6702445572142316249 : Unit := ()
def PySem.W.Fast.tw8157277791214410489 : Unit := ()
def PySem.W.Fast.tw4408816720484365081 : Unit := ()
def PySem.W.Fast.tw1825952489489211193 : Unit := ()
def PySem.W.Fast.tw514280064592716601 : Unit := ()
def PySem.W.Fast.tw11863963456291920697 : Unit := ()
def PySem.W.Fast.tw8210202977690762169 : Unit := ()
def PySem.W.Fast.tw9186807149237001177 : Unit := ()
def PySem.W.Fast.tw16080672043311297529 : Unit := ()
def PySem.W.Fast.tw2399617604181995578 : Unit := ()
def PySem.W.Fast.tw4290864757253303354 : Unit := ()
def PySem.W.Fast.tw9006961074152924250 : Unit := ()
def PySem.W.Fast.tw16864618592142003386 : Unit := ()
def PySem.W.Fast.tw2638924239945547994 : Unit := ()
def PySem.W.Fast.tw11524815483048965402 : Unit := ()
def PySem.W.Fast.tw14372219517969529114 : Unit := ()
def PySem.W.Fast.tw11024694936033576346 : Unit := ()
def PySem.W.Fast.tw16493865465440409018 : Unit := ()
def PySem.W.Fast.tw6278996535519779258 : Unit := ()
def PySem.W.Fast.tw12325864989022198202 : Unit := ()
def PySem.W.Fast.tw14474530201714352570 : Unit := ()
def PySem.W.Fast.tw5019544711922104826 : Unit := ()
def PySem.W.Fast.tw16766484511958638138 : Unit := ()
def PySem.W.Fast.tw8191318114535113306 : Unit := ()
def PySem.W.Fast.tw4562827626845409882 : Unit := ()
def PySem.W.Fast.tw9142603964197575258 : Unit := ()
def PySem.W.Fast.tw5369961537445033690 : Unit := ()
def PySem.W.Fast.tw6060609690816243450 : Unit := ()
def PySem.W.Fast.tw7484994123860896570 : Unit := ()
def PySem.W.Fast.tw2781441929908095834 : Unit := ()
def PySem.W.Fast.tw13508144021097492314 : Unit := ()
def PySem.W.Fast.tw6128106870883400570 : Unit := ()
def PySem.W.Fast.tw6148498323302512570 : Unit := ()
def PySem.W.Fast.tw17525541185626968058 : Unit := ()
def PySem.W.Fast.tw3726453103677007866 : Unit := ()
def PySem.W.Fast.tw10576836333797772347 : Unit := ()
def PySem.W.Fast.tw7998583776865276027 : Unit := ()
def PySem.W.Fast.tw5226586810942512283 : Unit := ()
def PySem.W.Fast.tw16902085369446701243 : Unit := ()
def PySem.W.Fast.tw9676783613728631035 : Unit := ()
def PySem.W.Fast.tw16203965252921439515 : Unit := ()
def PySem.W.Fast.tw12921946191010883867 : Unit := ()
def PySem.W.Fast.tw13601115934706021691 : Unit := ()
def PySem.W.Fast.tw15621415185263527259 : Unit := ()
def PySem.W.Fast.tw12297992134047619483 : Unit := ()
def PySem.W.Fast.tw16489938334050473467 : Unit := ()
def PySem.W.Fast.tw12936088452001202715 : Unit := ()
def PySem.W.Fast.tw1129948795310169627 : Unit := ()
def PySem.W.Fast.tw8833860146974802555 : Unit := ()
def PySem.W.Fast.tw1891733041441978011 : Unit := ()
def PySem.W.Fast.tw8752102160057688731 : Unit := ()
def PySem.W.Fast.tw8912161614967838395 : Unit := ()
def PySem.W.Fast.tw5662061979359257339 : Unit := ()
def PySem.W.Fast.tw17877845533520812795 : Unit := ()
def PySem.W.Fast.tw5960047855520388891 : Unit := ()
def PySem.W.Fast.tw4607425872040536859 : Unit := ()
def PySem.W.Fast.tw11526606772788702011 : Unit := ()
def PySem.W.Fast.tw5285915839522022235 : Unit := ()
def PySem.W.Fast.tw2216542800690825051 : Unit := ()
def PySem.W.Fast.tw16607193741793207195 : Unit := ()
def PySem.W.Fast.tw7036616447074710427 : Unit := ()
def PySem.W.Fast.tw10236332898609347644 : Unit := ()
def PySem.W.Fast.tw14647417624928369756 : Unit := ()
def PySem.W.Fast.tw15792790952358468732 : Unit := ()
def PySem.W.Fast.tw16140922888777852060 : Unit := ()
def PySem.W.Fast.tw2597523674469684444 : Unit := ()
def PySem.W.Fast.tw5483103596317574428 : Unit := ()
def PySem.W.Fast.tw1998347030407657756 : Unit := ()
def PySem.W.Fast.tw6733606326906232124 : Unit := ()
def PySem.W.Fast.tw7611196895359807804 : Unit := ()
def PySem.W.Fast.tw7322748291113730364 : Unit := ()
def PySem.W.Fast.tw4327107012436481372 : Unit := ()
def PySem.W.Fast.tw8746904540745865596 : Unit := ()
def PySem.W.Fast.tw14522782377427387804 : Unit := ()
def PySem.W.Fast.tw16919654943277366748 : Unit := ()
def PySem.W.Fast.tw11468729153070441980 : Unit := ()
def PySem.W.Fast.tw3676754643040562684 : Unit := ()
def PySem.W.Fast.tw12468840222048715292 : Unit := ()
def PySem.W.Fast.tw7867829370405329436 : Unit := ()
def PySem.W.Fast.tw5055593616971399804 : Unit := ()
def PySem.W.Fast.tw6602950584830755452 : Unit := ()
def PySem.W.Fast.tw11707130962622978684 : Unit := ()
def PySem.W.Fast.tw6657536258744368796 : Unit := ()
def PySem.W.Fast.tw13055953723892786844 : Unit := ()
def PySem.W.Fast.tw9630203353718772412 : Unit := ()
def PySem.W.Fast.tw12517015155858063196 : Unit := ()
def PySem.W.Fast.tw4091352561680426876 : Unit := ()
def PySem.W.Fast.tw1663524305781585820 : Unit := ()
def PySem.W.Fast.tw740290905518256060 : Unit := ()
def PySem.W.Fast.tw622995879521568732 : Unit := ()
def PySem.W.Fast.tw6526287140368922620 : Unit := ()
def PySem.W.Fast.tw4490611911172417597 : Unit := ()
def PySem.W.Fast.tw10956520680868813917 : Unit := ()
def PySem.W.Fast.tw14556482736207283325 : Unit := ()
def PySem.W.Fast.tw10859743581388371069 : Unit := ()
def PySem.W.Fast.tw4766597723019941021 : Unit := ()
def PySem.W.Fast.tw6331431999304432861 : Unit := ()
def PySem.W.Fast.tw6575520176995025181 : Unit := ()
def PySem.W.Fast.tw11272164335830466941 : Unit := ()
def PySem.W.Fast.tw11317637306720784765 : Unit := ()
def PySem.W.Fast.tw4046687200572763549 : Unit := ()
def PySem.W.Fast.tw8590580007683888701 : Unit := ()
def PySem.W.Fast.tw18352723725473834589 : Unit := ()
def PySem.W.Fast.tw896239598344801917 : Unit := ()
def PySem.W.Fast.tw17188069144378779261 : Unit := ()
def PySem.W.Fast.tw7792700002687035005 : Unit := ()
def PySem.W.Fast.tw13465540834166320765 : Unit := ()
def PySem.W.Fast.tw9878177214627512989 : Unit := ()
def PySem.W.Fast.tw9644411389650309789 : Unit := ()
def PySem.W.Fast.tw14958820412457663293 : Unit := ()
def PySem.W.Fast.tw7188602182371822397 : Unit := ()
def PySem.W.Fast.tw16773468814595293053 : Unit := ()
def PySem.W.Fast.tw15565715512253457277 : Unit := ()
def PySem.W.Fast.tw15870398105094248349 : Unit := ()
def PySem.W.Fast.tw15401437161963490237 : Unit := ()
def PySem.W.Fast.tw256182404569192445 : Unit := ()
def PySem.W.Fast.tw12887044766017154078 : Unit := ()
def PySem.W.Fast.tw16670193898709178398 : Unit := ()
def PySem.W.Fast.tw1937721966566455358 : Unit := ()
def PySem.W.Fast.tw3238445694619138142 : Unit := ()
def PySem.W.Fast.tw6968137755033780318 : Unit := ()
def PySem.W.Fast.tw13053394406489344094 : Unit := ()
def PySem.W.Fast.tw16409965706819354750 : Unit := ()
def PySem.W.Fast.tw10538165733446703262 : Unit := ()
def PySem.W.Fast.tw16615150188913437886 : Unit := ()
def PySem.W.Fast.tw3846801734645722302 : Unit := ()
def PySem.W.Fast.tw14219159868682941630 : Unit := ()
def PySem.W.Fast.tw10470340158578859262 : Unit := ()
def PySem.W.Fast.tw14173793092197918974 : Unit := ()
def PySem.W.Fast.tw6124413428159637790 : Unit := ()
def PySem.W.Fast.tw3233987462203235646 : Unit := ()
def PySem.W.Fast.tw443766864951011646 : Unit := ()
def PySem.W.Fast.tw12396662096508845406 : Unit := ()
def PySem.W.Fast.tw7053471978191194526 : Unit := ()
def PySem.W.Fast.tw11434409910335936926 : Unit := ()
def PySem.W.Fast.tw3665444673518743966 : Unit := ()
def PySem.W.Fast.tw4096438862311573950 : Unit := ()
def PySem.W.Fast.tw3581434408401558974 : Unit := ()
def PySem.W.Fast.tw12727641955093265886 : Unit := ()
def PySem.W.Fast.tw18048741565030583774 : Unit := ()
def PySem.W.Fast.tw13547939009206843870 : Unit := ()
def PySem.W.Fast.tw3335794202401238526 : Unit := ()
def PySem.W.Fast.tw13813548295540068894 : Unit := ()
def PySem.W.Fast.tw1915925776726481438 : Unit := ()
def PySem.W.Fast.tw14553807712399142462 : Unit := ()
def PySem.W.Fast.tw18400553757987027518 : Unit := ()
def PySem.W.Fast.tw7350462372000428638 : Unit := ()
def PySem.W.Fast.tw2285686636504529566 : Unit := ()
def PySem.W.Fast.tw5342471268416680606 : Unit := ()
def PySem.W.Fast.tw13205091638197436094 : Unit := ()
def PySem.W.Fast.tw8166255043249204926 : Unit := ()
def PySem.W.Fast.tw18361725300881549022 : Unit := ()
def PySem.W.Fast.tw5665240888008139550 : Unit := ()
def PySem.W.Fast.tw12382822922155266910 : Unit := ()
def PySem.W.Fast.tw1950803216711332702 : Unit := ()
def PySem.W.Fast.tw3198059409981156222 : Unit := ()
def PySem.W.Fast.tw9252304221032618942 : Unit := ()
def PySem.W.Fast.tw4884199854448574 : Unit := ()
def PySem.W.Fast.tw5344687154915797982 : Unit := ()
def PySem.W.Fast.tw4773484457636388862 : Unit := ()
def PySem.W.Fast.tw17632668173026273278 : Unit := ()
def PySem.W.Fast.tw17946048357616127039 : Unit := ()
def PySem.W.Fast.tw6900931685637148767 : Unit := ()
def PySem.W.Fast.tw17817366049700826239 : Unit := ()
def PySem.W.Fast.tw2931988195819169919 : Unit := ()
def PySem.W.Fast.tw1070438729232803039 : Unit := ()
def PySem.W.Fast.tw5269183497594736927 : Unit := ()
def PySem.W.Fast.tw17187875760726034783 : Unit := ()
def PySem.W.Fast.tw16109456028575089023 : Unit := ()
def PySem.W.Fast.tw12826555694032677247 : Unit := ()
def PySem.W.Fast.tw6248682570935725439 : Unit := ()
def PySem.W.Fast.tw9719393640593047967 : Unit := ()
def PySem.W.Fast.tw4514232752302053791 : Unit := ()
def PySem.W.Fast.tw2708214617527550399 : Unit := ()
def PySem.W.Fast.tw2595585439558603231 : Unit := ()
def PySem.W.Fast.tw14454166528178196959 : Unit := ()
def PySem.W.Fast.tw10282777137419654623 : Unit := ()
def PySem.W.Fast.tw15831126876759372255 : Unit := ()
def PySem.W.Fast.tw9584292182412213727 : Unit := ()
def PySem.W.Fast.tw9959121941294770655 : Unit := ()
def PySem.W.Fast.tw9615563845995560447 : Unit := ()
def PySem.W.Fast.tw14022695629967993375 : Unit := ()
def PySem.W.Fast.tw10953238642706405951 : Unit := ()
def PySem.W.Fast.tw8834805137890396735 : Unit := ()
def PySem.W.Fast.tw3042748168174471775 : Unit := ()
def PySem.W.Fast.tw15627779663793561183 : Unit := ()
def PySem.W.Fast.tw15888466755372326495 : Unit := ()
def PySem.W.Fast.tw16151628708876355199 : Unit := ()
def PySem.W.Fast.tw6172094611929405055 : Unit := ()
def PySem.W.Fast.tw9381626543082597023 : Unit := ()
def PySem.W.Fast.tw12048842499501423295 : Unit := ()
def PySem.W.Fast.tw8285600894249078527 : Unit := ()
def PySem.W.Fast.tw14904287247971174143 : Unit := ()
def PySem.W.Fast.tw3297117884562324255 : Unit := ()
def PySem.W.Fast.tw9784134513789038367 : Unit := ()
def PySem.W.Fast.tw13298828918039433023 : Unit := ()
def PySem.W.Fast.tw16378183091871739711 : Unit := ()
def PySem.W.Fast.tw3418139289079602111 : Unit := ()
def PySem.W.Fast.tw15214748959534726111 : Unit := ()
def PySem.W.Fast.tw140236481695663071 : Unit := ()
def PySem.W.Fast.tw11401859456886640639 : Unit := ()
def PySem.W.Fast.tw17696404316872724479 : Unit := ()
def PySem.W.Fast.tw12550775161083096063 : Unit := ()
set_option maxRecDepth 100000 in
set_option maxHeartbeats 0 in
open_top hd for PySem.Challenge.rw_stitchsizes_k22_whole_evenly_worked
end
set_option Elab.async false
set_option linter.all false
set_option maxRecDepth 100000
set_option maxHeartbeats 4000000
namespace L2
open PySem PySem.Spec PyProof.Rows
section
variable {X : Cx} {CX : CXT} {pins : List (Addr × Obj)} {σ : St} {H : Hp} {s : Shared} {a C dx g : Addr} {fs : List (Str × V)} {n : Nat} {sp : Sp} {E : XK} {fd : FuncData} {ps : List Str}

/-- a def of a class runs, called by an operation of the machine's own at A -/
theorem run_under {A : Around} {Q : VK} {us : List Value} {ws : List V} (F : FnOk X.prog X.w X.K X.mg X.base CX n g fd ps sp) (hb : Binds X.K fd ps []) (hr : Room n A)
    (e0 : Env0 X.prog X.w X.K X.mg X.base A X.stack s H) (hx : Passes CX X E) (I : Inv X pins σ H s) (r : Vals ws us) (h : sp ws H Q E) :
    wpAny (model X.prog X.w) A (call (.ref g) us) (EP X pins σ Q) X.xe s := by
  have hl : (us ++ []).length = ps.length := by
    rw [List.append_nil, ← F.len _ _ _ _ h, r.length]
  refine wpAny_call (codeAny_mono (F.run A X.stack s H ⟨us, []⟩ (us ++ []) ws Q E hr e0 (hb _ us I.kIn hl) (by rw [List.append_nil]; exact r) h) fun r' s' hq => ?_)
  cases r' with
  | error e => exact hx pins σ H s e s' I hq
  | ok fl =>
    cases fl with
    | ret u =>
      first
        | exact I.after hq
        | exact ⟨rfl, I.after hq⟩
    | next => exact False.elim hq
    | brk => exact False.elim hq
    | cont => exact False.elim hq

/-- what a dunder def hands back is no NotImplemented -/
theorem cmpback' {P : Value → Shared → Prop} {z : V} {v : Value} {s' : Shared} (r : RelV z v) (h : P v s') : PySem.W.CmpBack P v s' := SlX.cmpback r h

/-- a value's type, looked up -/
theorem looks_ty {x : V} {u t : Value} (I : Inv X pins σ H s) (rx : RelV x u) (ty : TyX X.K H x t) : PySem.W.Looks (model X.prog X.w) s.heap (typeOf u) t := by
  obtain ⟨P, k, hp, _⟩ := kit_of I rx ty
  exact k.ty _ _ I.kIn hp

/-- x op y, x an instance of the class at C whose def for op is at g -/
def rCmpOwn (K : PySem.W.Frag) (C : Addr) (sp : Sp) (E : XK) : R2 := fun x y H Q => ∃ a dx fs t, x = .ref a ∧ H a = some (.ins C dx fs) ∧ TyX K H y t ∧ PySem.W.notFirst K C t = true ∧ sp [x, y] H Q E
theorem op_cmpOwn {op : CmpOp} (hop : ∀ a b, compareOp op a b = richCompare op a b) (hs : PySem.W.findIn X.K (.ref C) (cmpInfo op).2.1 = some (some (.ref g))) (hf : PySem.W.isFn X.K (.ref g) = true)
    (F : FnOk X.prog X.w X.K X.mg X.base CX n g fd ps sp) (hb : Binds X.K fd ps []) (hr : Room n X.A) (hx : Passes CX X E) : OpR X (compareOp op) (rCmpOwn X.K C sp E) := by
  intro pins s σ H x y v u Q I rx ry h
  obtain ⟨a, dx, fs, t, rfl, ha, ht, hn, q⟩ := h
  cases (show v = Value.ref a from rx)
  obtain ⟨mA, O, _, _, _, _⟩ := ins_get I.hok ha
  obtain ⟨od, J, _⟩ := O.look
  obtain ⟨m, hF⟩ := I.fr
  rw [hop]
  refine PySem.W.cmp_K (op := op) (tb := t) hr.units0 hF I.ok.mod.kin J (looks_ty I ry ht) hn hs hf ?_
  refine wpAny_mono (run_fn (us := [.ref a, u]) (vs := [.ref a, y]) (dvs := []) F hr hb .nil hx I (.cons rfl (.cons ry .nil)) (by simpa using q)) (fun w s' z => ?_) fun _ _ x => x
  obtain ⟨z', H', I', rz, qz⟩ := z
  exact cmpback' rz ⟨z', H', I', rz, qz⟩
theorem op_eqOwn (hs : PySem.W.findIn X.K (.ref C) "__eq__" = some (some (.ref g))) (hf : PySem.W.isFn X.K (.ref g) = true)
    (F : FnOk X.prog X.w X.K X.mg X.base CX n g fd ps sp) (hb : Binds X.K fd ps []) (hr : Room n X.A) (hx : Passes CX X E) : OpR X (compareOp .Eq) (rCmpOwn X.K C sp E) :=
  op_cmpOwn (fun _ _ => rfl) hs hf F hb hr hx

/-- -x, x an instance -/
def rUnOwn (C : Addr) (sp : Sp) (E : XK) : V → Hp → VK → Prop := fun x H Q => ∃ a dx fs, x = .ref a ∧ H a = some (.ins C dx fs) ∧ sp [x] H Q E
theorem un_negOwn (hs : PySem.W.findIn X.K (.ref C) "__neg__" = some (some (.ref g))) (hf : PySem.W.isFn X.K (.ref g) = true)
    (F : FnOk X.prog X.w X.K X.mg X.base CX n g fd ps sp) (hb : Binds X.K fd ps []) (hr : Room n X.A) (hx : Passes CX X E) : UnR X (unaryOp .USub) (rUnOwn C sp E) := by
  intro pins s σ H x v Q I rx h
  obtain ⟨a, dx, fs, rfl, ha, q⟩ := h
  cases (show v = Value.ref a from rx)
  obtain ⟨mA, O, _, _, _, _⟩ := ins_get I.hok ha
  obtain ⟨od, J, _⟩ := O.look
  obtain ⟨m, hF⟩ := I.fr
  refine PySem.W.ksp_neg hF I.ok.mod.kin J hs hf ?_
  exact run_fn (us := [.ref a]) (vs := [.ref a]) (dvs := []) F hr hb .nil hx I (.cons rfl .nil) (by simpa using q)

/-- x op y, x an instance of the class at C whose def for op is at g; y an instance of the same class -/
def rBinSame (C : Addr) (sp : Sp) (E : XK) : R2 := fun x y H Q => ∃ a dx fs b dy gs, x = .ref a ∧ y = .ref b ∧ H a = some (.ins C dx fs) ∧ H b = some (.ins C dy gs) ∧ sp [x, y] H Q E
theorem op_binSame {op : Operator} (hc : PySem.W.selfFirst X.K C = true) (hs : PySem.W.findIn X.K (.ref C) (PySem.dunder op.info.2) = some (some (.ref g))) (hf : PySem.W.isFn X.K (.ref g) = true)
    (F : FnOk X.prog X.w X.K X.mg X.base CX n g fd ps sp) (hb : Binds X.K fd ps []) (hr : Room n X.A) (hx : Passes CX X E) : OpR X (binaryOp op) (rBinSame C sp E) := by
  intro pins s σ H x y v u Q I rx ry h
  obtain ⟨a, dx, fs, b, dy, gs, rfl, rfl, ha, hbb, q⟩ := h
  cases (show v = Value.ref a from rx)
  cases (show u = Value.ref b from ry)
  obtain ⟨mA, O, _, _, _, _⟩ := ins_get I.hok ha
  obtain ⟨od, J, _⟩ := O.look
  obtain ⟨mB, O', _, _, _, _⟩ := ins_get I.hok hbb
  obtain ⟨od', J', _⟩ := O'.look
  obtain ⟨m, hF⟩ := I.fr
  refine PySem.W.binop_K (op := op) hF I.ok.mod.kin J J'.type hc hs hf ?_
  refine wpAny_mono (run_fn (us := [.ref a, .ref b]) (vs := [.ref a, .ref b]) (dvs := []) F hr hb .nil hx I (.cons rfl (.cons rfl .nil)) (by simpa using q)) (fun w s' z => ?_) fun _ _ x => x
  obtain ⟨z', H', I', rz, qz⟩ := z
  exact cmpback' rz ⟨z', H', I', rz, qz⟩
/-- x op n, n an int -/
def rBinInt (C : Addr) (sp : Sp) (E : XK) : R2 := fun x y H Q => ∃ a dx fs i, x = .ref a ∧ y = .int i ∧ H a = some (.ins C dx fs) ∧ sp [x, y] H Q E
theorem op_binInt {op : Operator} {fo ro rc : Option Value} (hc : PySem.W.selfFirst X.K C = true) (hs : PySem.W.findIn X.K (.ref C) (PySem.dunder op.info.2) = some (some (.ref g))) (hf : PySem.W.isFn X.K (.ref g) = true)
    (hR : PySem.W.findIn X.K (.ref C) (dunderR op.info.2) = some rc) (hp : rc = none ∨ ∃ g : Addr, rc = some (.ref g))
    (h1 : PySem.W.findIn X.K (.type "int") (PySem.dunder op.info.2) = some fo) (h2 : PySem.W.findIn X.K (.type "int") (dunderR op.info.2) = some ro) (hsub : PySem.W.subIn X.K (.type "int") (.ref C) = some false)
    (F : FnOk X.prog X.w X.K X.mg X.base CX n g fd ps sp) (hb : Binds X.K fd ps []) (hr : Room n X.A) (hx : Passes CX X E) : OpR X (binaryOp op) (rBinInt C sp E) := by
  intro pins s σ H x y v u Q I rx ry h
  obtain ⟨a, dx, fs, i, rfl, rfl, ha, q⟩ := h
  cases (show v = Value.ref a from rx)
  obtain ⟨t, e⟩ := (show ∃ t, u = Value.int i t from ry)
  cases e
  obtain ⟨mA, O, _, _, _, _⟩ := ins_get I.hok ha
  obtain ⟨od, J, _⟩ := O.look
  obtain ⟨m, hF⟩ := I.fr
  refine PySem.W.ksp_binT (op := op) (T := "int") hF I.ok.mod.kin J rfl hc hs hf hR hp h1 h2 hsub ?_
  refine wpAny_mono (run_fn (us := [.ref a, .int i t]) (vs := [.ref a, .int i]) (dvs := []) F hr hb .nil hx I (.cons rfl (.cons ⟨t, rfl⟩ .nil)) (by simpa using q)) (fun w s' z => ?_) fun _ _ x => x
  obtain ⟨z', H', I', rz, qz⟩ := z
  exact cmpback' rz ⟨z', H', I', rz, qz⟩

/-- repr(x), x an instance whose class has its own __repr__ -/
def rReprOwn (C : Addr) (sp : Sp) (E : XK) : List V → Hp → VK → Prop := fun xs H Q => ∃ a dx fs, xs = [V.ref a] ∧ H a = some (.ins C dx fs) ∧ sp [.ref a] H (fun z H' => ∃ y, z = .str y ∧ Q z H') E
theorem strback {P : Value → Shared → Prop} {y : Str} {v : Value} {s' : Shared} (r : RelV (.str y) v) (h : P v s') : PySem.W.StrBack P v s' := by
  obtain ⟨t, e⟩ := (show ∃ t, v = Value.str y t from r)
  cases e
  exact h
theorem call_reprOwn (hs : PySem.W.findIn X.K (.ref C) "__repr__" = some (some (.ref g))) (hf : PySem.W.isFn X.K (.ref g) = true)
    (F : FnOk X.prog X.w X.K X.mg X.base CX n g fd ps sp) (hb : Binds X.K fd ps []) (hr : Room (n + 1) X.A) (hx : Passes CX X E) : CallR X (.builtin "repr") (rReprOwn C sp E) := by
  intro pins s σ H xs us Q I r h
  obtain ⟨a, dx, fs, rfl, ha, q⟩ := h
  obtain ⟨u, rfl, ru⟩ := r.one
  cases (show u = Value.ref a from ru)
  obtain ⟨mA, O, _, _, _, _⟩ := ins_get I.hok ha
  obtain ⟨od, J, _⟩ := O.look
  obtain ⟨m, hF⟩ := I.fr
  refine PySem.W.repr_K hr.in1.units0 hF I.ok.mod.kin J hs hf ?_
  refine wpAny_mono (run_under (us := [.ref a]) (ws := [.ref a]) F hb hr.in1 I.env0.in1 hx I (.cons rfl .nil) q) (fun w s' z => ?_) fun _ _ x => x
  obtain ⟨z', H', I', rz, y, ey, qz⟩ := z
  subst ey
  exact strback rz ⟨.str y, H', I', rz, qz⟩
theorem call_strOwn (hs : PySem.W.findIn X.K (.ref C) "__str__" = some (some (.ref g))) (hf : PySem.W.isFn X.K (.ref g) = true)
    (F : FnOk X.prog X.w X.K X.mg X.base CX n g fd ps sp) (hb : Binds X.K fd ps []) (hr : Room (n + 2) X.A) (hx : Passes CX X E) : CallR X (.type "str") (rReprOwn C sp E) := by
  intro pins s σ H xs us Q I r h
  obtain ⟨a, dx, fs, rfl, ha, q⟩ := h
  obtain ⟨u, rfl, ru⟩ := r.one
  cases (show u = Value.ref a from ru)
  obtain ⟨mA, O, _, _, _, _⟩ := ins_get I.hok ha
  obtain ⟨od, J, _⟩ := O.look
  have hr2 : Room n X.A.in1.in1 := (show Room (n + 1) X.A.in1 from Room.in1 hr).in1
  refine PySem.W.kso_call hr2.units0 I.kIn J hs hf ?_
  refine wpAny_mono (run_under (us := [.ref a]) (ws := [.ref a]) F hb hr2 I.env0.in1.in1 hx I (.cons rfl .nil) q) (fun w s' z => ?_) fun _ _ x => x
  obtain ⟨z', H', I', rz, y, ey, qz⟩ := z
  subst ey
  exact strback rz ⟨.str y, H', I', rz, qz⟩
section
open PySem.W
variable {prog : Program} {w : World} {M : Model} {A : Around} {E : Value → Shared → Prop} {s : Shared} {K : Frag} {x C f : Addr} {ox : Obj} {od : Option Obj} {name : Str}
theorem ifBound_B {id : String} {args : List Value} {Q : Option Value → Shared → Prop} (X : K.In s.heap) (I : InstAt s.heap x ox C od) (hs : findIn K (.ref C) name = some (some (.builtin id)))
    (hb : ∀ self, bindSpecial (.builtin id) self = pure (.builtin id, [self])) (h : wpAny M A (call (.builtin id) (.ref x :: args)) (fun v => Q (some v)) E s) : wpAny M A (callSpecialIfBound? (.ref x) name args) Q E s := by
  simp only [callSpecialIfBound?, bindSpecialIfBound?]
  refine wpAny_holding (wpAny_bind (wpAny_bind (wpAny_bind (I.type.here ((looks_findIn X hs).here ?_)))))
  refine wpAny_bind (wpAny_askSetting (wpAny_ite ?_))
  have fin : wpAny M A (call (.builtin id) ([.ref x] ++ args) >>= fun v => pure (some v)) Q E s := wpAny_bind (wpAny_mono h (fun v s' h' => wpAny_pure h') fun _ _ h' => h')
  split
  · exact wpAny_bind ((Looks.of_pure (hb _)).here (wpAny_pure (by exact fin)))
  · exact wpAny_tryCatch (wpAny_bind ((Looks.of_pure (hb _)).here (wpAny_pure (by exact fin))))
/-- object.__ne__ asks the own __eq__ -/
theorem one_K {b : Value} {Q : Value → Shared → Prop} (hu : A.in1.units < cLine) (X : K.In s.heap) (I : InstAt s.heap x ox C od) (hm : mroIn K C (.type "object") = some true)
    (he : findIn K (.ref C) "__eq__" = some (some (.ref f))) (hf : isFn K (.ref f) = true)
    (h : wpAny (model prog w) A.in1 (call (.ref f) [.ref x, b]) (fun v s' => ∃ r, v = .bool r ∧ Q (.bool (!r)) s') E s) : wpAny (model prog w) A (call (.builtin "object.__ne__") [.ref x, b]) Q E s := by
  refine wpAny_call (codeAny_call_builtin PySem.F.slot_object_ne.plain PySem.F.cmpEntry_ne (check_slot (i := "object.__ne__") (owner := "object") (n := "__ne__") (by decide +kernel) (by decide +kernel) (I.type.andThen (looks_mroIn X hm)) (PySem.F.cmpArgs_ne _ _) ?_))
  unfold Builtin.«object.__ne__»
  repeat (first
    | with_reducible refine wpAny_cRoomFor hu ?_
    | (refine wpAny_bind (m := callSpecialIfBound? (.ref x) (Str.ofString "__eq__") [b])
        (ifBound_K X I he hf (wpAny_mono h (fun r s' hr => by
          obtain ⟨b, rfl, hq⟩ := hr
          repeat (first | exact hq | exact wpAny_pure hq | exact wpAny_truthy_bool hq | (refine wpAny_bind (m := truthy (.bool _)) (wpAny_truthy_bool ?_)) | wp_step)) fun _ _ e => e)))
    | wp_step)
theorem ne_own {b tb : Value} {Q : Value → Shared → Prop} (hu : A.in1.units < cLine) (hu0 : A.units < cLine) (X : K.In s.heap) (I : InstAt s.heap x ox C od) (hb : Looks (model prog w) s.heap (typeOf b) tb) (hn : notFirst K C tb = true)
    (hm : mroIn K C (.type "object") = some true) (hne : findIn K (.ref C) "__ne__" = some (some (.builtin "object.__ne__")))
    (he : findIn K (.ref C) "__eq__" = some (some (.ref f))) (hf : isFn K (.ref f) = true)
    (h : wpAny (model prog w) A.in1 (call (.ref f) [.ref x, b]) (fun v s' => ∃ r, v = .bool r ∧ Q (.bool (!r)) s') E s) : wpAny (model prog w) A (richCompare .NotEq (.ref x) b) Q E s := by
  have one : wpAny (model prog w) A (tryCompare (.ref x) (cmpInfo .NotEq).2.1 b) (fun r s' => ∃ v, r = some v ∧ Q v s') E s := by
    unfold tryCompare
    refine wpAny_bind (ifBound_B X I hne PySem.F.slot_object_ne.bind (one_K hu X I hm he hf (wpAny_mono h (fun v s' hv => ?_) fun _ _ e => e)))
    obtain ⟨r, rfl, hq⟩ := hv
    exact ⟨r, rfl, wpAny_pure ⟨_, rfl, hq⟩⟩
  unfold richCompare
  simp only [oneThing_ref]
  refine wpAny_holding (wpAny_bind (wpAny_cRoomFor hu0 ?_))
  refine wpAny_bind (I.type.here (wpAny_bind (hb.here ?_)))
  split
  · rename_i q
    have e : subIn K tb (.ref C) = some false := by
      rcases Bool.or_eq_true_iff.mp hn with e | e
      · rw [beq_iff_eq.mp e] at q; simp at q
      · exact beq_iff_eq.mp e
    refine wpAny_bind ((looks_subIn X e).here ?_)
    simp only [Bool.false_eq_true, if_false]
    refine wpAny_bind (wpAny_mono one (fun r s' z => ?_) fun _ _ e => e)
    obtain ⟨v, rfl, hq⟩ := z
    exact wpAny_pure hq
  · refine wpAny_bind (wpAny_pure ?_)
    simp only [Bool.false_eq_true, if_false]
    refine wpAny_bind (wpAny_mono one (fun r s' z => ?_) fun _ _ e => e)
    obtain ⟨v, rfl, hq⟩ := z
    exact wpAny_pure hq
end
/-- x != y, by the own __eq__ -/
def rNeOwn (K : PySem.W.Frag) (C : Addr) (sp : Sp) (E : XK) : R2 := fun x y H Q => ∃ a dx fs t, x = .ref a ∧ H a = some (.ins C dx fs) ∧ TyX K H y t ∧ PySem.W.notFirst K C t = true ∧ sp [x, y] H (fun z H' => ∃ r, z = .bl r ∧ Q (.bl (!r)) H') E
theorem op_neOwn (hm : PySem.W.mroIn X.K C (.type "object") = some true) (hne : PySem.W.findIn X.K (.ref C) "__ne__" = some (some (.builtin "object.__ne__"))) (hs : PySem.W.findIn X.K (.ref C) "__eq__" = some (some (.ref g))) (hf : PySem.W.isFn X.K (.ref g) = true)
    (F : FnOk X.prog X.w X.K X.mg X.base CX n g fd ps sp) (hb : Binds X.K fd ps []) (hr : Room (n + 1) X.A) (hx : Passes CX X E) : OpR X (compareOp .NotEq) (rNeOwn X.K C sp E) := by
  intro pins s σ H x y v u Q I rx ry h
  obtain ⟨a, dx, fs, t, rfl, ha, ht, hn, q⟩ := h
  cases (show v = Value.ref a from rx)
  obtain ⟨mA, O, _, _, _, _⟩ := ins_get I.hok ha
  obtain ⟨od, J, _⟩ := O.look
  show wpAny _ _ (richCompare .NotEq _ _) _ _ _
  refine ne_own (tb := t) hr.in1.units0 hr.units0 I.kIn J (looks_ty I ry ht) hn hm hne hs hf ?_
  refine wpAny_mono (run_under (us := [.ref a, u]) (ws := [.ref a, y]) F hb hr.in1 I.env0.in1 hx I (.cons rfl (.cons ry .nil)) q) (fun w s' z => ?_) fun _ _ x => x
  obtain ⟨z', H', I', rz, r, ez, qz⟩ := z
  subst ez
  cases (show w = Value.bool r from rz)
  exact ⟨r, rfl, .bl (!r), H', I', rfl, qz⟩
/-- repr of True, False -/
theorem call_repr_bool : CallR X (.builtin "repr") (fun xs H Q => ∃ b, xs = [.bl b] ∧ Q (.str (if b then "True" else "False")) H) := by
  intro pins s σ H xs us Q I r h
  obtain ⟨b, rfl, q⟩ := h
  obtain ⟨u, rfl, ru⟩ := r.one
  cases (show u = Value.bool b from ru)
  exact PySem.P.repr_of_bool ⟨.str _, H, I.tok _, ⟨_, rfl⟩, q⟩
end
end L2

set_option maxHeartbeats 4000000
namespace L2
open PySem PySem.Spec PyProof.Rows
/-! ### a def of the module as it stands behind the top, and what it promises -/
structure FunAt (K : PySem.W.Frag) (mg : Str → Option Value) (x qual : Str) (st : Stmt) : Prop where
  ex : ∃ (f : Addr) (fd : FuncData), mg x = some (.ref f) ∧ Fun K x qual st f fd
structure Has (P : Program) (w : World) (K : PySem.W.Frag) (mg : Str → Option Value) (base : Heap) (x : Str) (k : Nat) (ps : List Str) (sp : Sp) : Prop where
  ex : ∃ (f : Addr) (fd : FuncData), mg x = some (.ref f) ∧ PySem.W.keepIn K (.ref f) = true ∧ Binds K fd ps [] ∧ FnOk P w K mg base CX0 k f fd ps sp
section
variable {P : Program} {w : World} {K : PySem.W.Frag} {mg : Str → Option Value} {base : Heap}
theorem has_of {x qual : Str} {st : Stmt} {N ps : List Str} {k : Nat} {sp : Sp} (F : FunAt K mg x qual st) (S : FnScope N ps (defScope st))
    (hb : ∀ (kV doc pm : Value) (an : Option Addr) (cdv ct : Value) (us : List Value), us.length = ps.length → bindArgs (PySem.W.fnOf x qual (defArgs st) (defBody st) (defScope st) .none kV doc pm an cdv ct) ⟨us, []⟩ = pure (ps.zip us))
    (len : ∀ vs H Q E, sp vs H Q E → vs.length = ps.length)
    (hbody : ∀ (f : Addr) (cdv : Value) (A : Around) (outer : List Env) (s : Shared) (H : Hp) (vs : List V) (Q : VK) (E : XK), Room k (A.deeper (envOfC qual (defScope st) s.heap.objs.size f cdv)) → sp vs H Q E →
      ∃ t, PSs (cxOf CX0 P w K mg base N qual (defScope st) f cdv A outer s H E).nox (defBody st) t ∧ t { nx := fun _ H' => Q .non H', rt := Q } (start N vs) H) : Has P w K mg base x (k + 1) ps sp := by
  obtain ⟨f, fd, hm, F⟩ := F.ex
  exact ⟨f, fd, hm, F.kp, F.binds hb, F.ok S len (hbody f)⟩
theorem Has.mono {x : Str} {j k : Nat} {ps : List Str} {sp : Sp} (h : Has P w K mg base x j ps sp) (hk : j ≤ k) : Has P w K mg base x k ps sp := by
  obtain ⟨f, fd, a, b, c, d⟩ := h.ex
  exact ⟨f, fd, a, b, c, d.mono hk⟩
theorem Has.imp {x : Str} {k : Nat} {ps : List Str} {sp sp' : Sp} (h : Has P w K mg base x k ps sp) (i : ∀ vs H Q E, sp' vs H Q E → sp vs H Q E) : Has P w K mg base x k ps sp' := by
  obtain ⟨f, fd, a, b, c, d⟩ := h.ex
  exact ⟨f, fd, a, b, c, d.imp i⟩
end
section
variable {X : Cx} {x : Str} {k : Nat} {ps : List Str} {sp : Sp} {p pos : Pos} {e : Expr} {es : List Expr} {t : TA}
/-- f(e, ..) -/
theorem pe_has (h : Has X.prog X.w X.K X.mg X.base x k ps sp) (hr : Room k X.A) (ha : PA X (e :: es) t) (hg : Gl X x := by rfl) (hdb : (x == ("__debug__" : Str)) = false := by decide)
    (he : starEach (e :: es) X.env = (false, eval e X.env) :: starEach es X.env := by rfl) (hpl : (backTo pos (starEach es X.env)).any (·.1) = false := by rfl) :
    PE X (.Call (.Name x p) (e :: es) [] pos) (tCall sp [] E0 t) := by
  obtain ⟨f, fd, hm, hk, hb, F⟩ := h.ex
  exact pe_call F hr hg hm hk hb .nil pass0 ha hdb he hpl
end
/-! ### a class's def -/
structure MethAt (K : PySem.W.Frag) (C : Addr) (m qual : Str) (st : Stmt) : Prop where
  ex : ∃ (f : Addr) (fd : FuncData), Meth K C m f ∧ Fun K m qual st f fd
structure HasM (P : Program) (w : World) (K : PySem.W.Frag) (mg : Str → Option Value) (base : Heap) (C : Addr) (m : Str) (k : Nat) (ps : List Str) (sp : Sp) : Prop where
  ex : ∃ (f : Addr) (fd : FuncData), Meth K C m f ∧ Binds K fd ps [] ∧ FnOk P w K mg base CX0 k f fd ps sp
structure PropAt (K : PySem.W.Frag) (C : Addr) (m qual : Str) (st : Stmt) : Prop where
  ex : ∃ (p g : Addr) (fd : FuncData), PropOf K C m p g ∧ Fun K m qual st g fd
structure HasP (P : Program) (w : World) (K : PySem.W.Frag) (mg : Str → Option Value) (base : Heap) (C : Addr) (m : Str) (k : Nat) (sp : Sp) : Prop where
  ex : ∃ (p g : Addr) (fd : FuncData), PropOf K C m p g ∧ Binds K fd ["self"] [] ∧ FnOk P w K mg base CX0 k g fd ["self"] sp
section
variable {P : Program} {w : World} {K : PySem.W.Frag} {mg : Str → Option Value} {base : Heap} {C : Addr}
theorem hasM_of {m qual : Str} {st : Stmt} {N ps : List Str} {k : Nat} {sp : Sp} (F : MethAt K C m qual st) (S : FnScope N ps (defScope st))
    (hb : ∀ (kV doc pm : Value) (an : Option Addr) (cdv ct : Value) (us : List Value), us.length = ps.length → bindArgs (PySem.W.fnOf m qual (defArgs st) (defBody st) (defScope st) .none kV doc pm an cdv ct) ⟨us, []⟩ = pure (ps.zip us))
    (len : ∀ vs H Q E, sp vs H Q E → vs.length = ps.length)
    (hbody : ∀ (f : Addr) (cdv : Value) (A : Around) (outer : List Env) (s : Shared) (H : Hp) (vs : List V) (Q : VK) (E : XK), Room k (A.deeper (envOfC qual (defScope st) s.heap.objs.size f cdv)) → sp vs H Q E →
      ∃ t, PSs (cxOf CX0 P w K mg base N qual (defScope st) f cdv A outer s H E).nox (defBody st) t ∧ t { nx := fun _ H' => Q .non H', rt := Q } (start N vs) H) : HasM P w K mg base C m (k + 1) ps sp := by
  obtain ⟨f, fd, hm, F⟩ := F.ex
  exact ⟨f, fd, hm, F.binds hb, F.ok S len (hbody f)⟩
theorem hasP_of {m qual : Str} {st : Stmt} {N : List Str} {k : Nat} {sp : Sp} (F : PropAt K C m qual st) (S : FnScope N ["self"] (defScope st))
    (hb : ∀ (kV doc pm : Value) (an : Option Addr) (cdv ct : Value) (us : List Value), us.length = (["self"] : List Str).length → bindArgs (PySem.W.fnOf m qual (defArgs st) (defBody st) (defScope st) .none kV doc pm an cdv ct) ⟨us, []⟩ = pure ((["self"] : List Str).zip us))
    (len : ∀ vs H Q E, sp vs H Q E → vs.length = (["self"] : List Str).length)
    (hbody : ∀ (f : Addr) (cdv : Value) (A : Around) (outer : List Env) (s : Shared) (H : Hp) (vs : List V) (Q : VK) (E : XK), Room k (A.deeper (envOfC qual (defScope st) s.heap.objs.size f cdv)) → sp vs H Q E →
      ∃ t, PSs (cxOf CX0 P w K mg base N qual (defScope st) f cdv A outer s H E).nox (defBody st) t ∧ t { nx := fun _ H' => Q .non H', rt := Q } (start N vs) H) : HasP P w K mg base C m (k + 1) sp := by
  obtain ⟨p, g, fd, hm, F⟩ := F.ex
  exact ⟨p, g, fd, hm, F.binds hb, F.ok S len (hbody g)⟩
end
section
variable {X : Cx} {C : Addr} {m : Str} {k : Nat} {ps : List Str} {sp : Sp} {apos pos : Pos} {o e : Expr} {es : List Expr} {ta : TE} {t : TA}
theorem pe_hasP (h : HasP X.prog X.w X.K X.mg X.base C m k sp) (c : Cls X.K C) (hr : Room (k + 1) X.A) (ho : PE X o ta) (hab : attributeBase o m X.env (eval o X.env) = eval o X.env := by rfl) :
    PE X (.Attribute o m pos) (tProp C sp [] E0 ta) := by
  obtain ⟨p, g, fd, hp, hb, F⟩ := h.ex
  exact pe_prop ho c hp F hr hb .nil pass0 hab
end
end L2
namespace L2
open PySem PySem.Spec PyProof.Rows
/-! ### an own class: what isinstance, ==, the arithmetic signs ask -/
structure OwnC (K : PySem.W.Frag) (C : Addr) : Prop where
  cl : Cls K C
  ca : PySem.W.findIn K (.ref C) "__class__" = some (some (.builtin "object.__class__"))
  cn : PySem.W.specialIn K (.builtin "object.__class__") "__get__" = some (some (.builtin "getset_descriptor.__get__"))
  ct : PySem.W.takesIn K (.builtin "object.__class__") = some true
  mo : PySem.W.mroIn K C (.type "object") = some true
  ic : PySem.W.isClsIn K C = true
  tc : PySem.W.typeIn K (.ref C) = some (.type "type")
theorem OwnC.ty {K : PySem.W.Frag} {C : Addr} (o : OwnC K C) {H : Hp} {a dx : Addr} {fs : List (Str × V)} (e : H a = some (.ins C dx fs)) : TyX K H (.ref a) (.ref C) := .base (.ins e o.cl o.ca o.cn o.ct o.mo)
theorem kit_self {K : PySem.W.Frag} {t : Value} : PySem.W.kitOne K t t = some true := by
  unfold PySem.W.kitOne
  rw [if_pos (by simp)]
theorem OwnC.kit {K : PySem.W.Frag} {C : Addr} (o : OwnC K C) {T : String} {b : Bool} (h : PySem.W.subIn K (.type T) (.ref C) = some b) : PySem.W.kitOne K (.type T) (.ref C) = some b := by
  unfold PySem.W.kitOne PySem.W.kitCls
  have e : (Value.type T == Value.ref C) = false := Bool.eq_false_iff.mpr fun q => by cases beq_iff_eq.mp q
  have h1 : (PySem.W.clsIn K C).isSome = true := o.ic
  rw [if_neg (by rw [e]; decide)]
  show (if ((PySem.W.clsIn K C).isSome && PySem.W.typeIn K (.ref C) == some (.type "type")) = true then _ else _) = _
  rw [if_pos (by rw [h1, o.tc]; simp)]
  exact h
theorem notFirst_self {K : PySem.W.Frag} {C : Addr} : PySem.W.notFirst K C (.ref C) = true := by
  unfold PySem.W.notFirst
  simp
theorem notFirst_ty {K : PySem.W.Frag} {C : Addr} {T : String} (h : PySem.W.subIn K (.type T) (.ref C) = some false) : PySem.W.notFirst K C (.type T) = true := by
  unfold PySem.W.notFirst
  rw [h]
  simp
/-! ### a def with defaults -/
structure HasK (P : Program) (w : World) (K : PySem.W.Frag) (mg : Str → Option Value) (base : Heap) (x : Str) (C : Addr) (k : Nat) (ps : List Str) (sp : Sp) (dvs : List V) : Prop where
  ex : ∃ (f : Addr) (fd : FuncData) (ds : List Value), mg x = some (.ref C) ∧ Mk K C f ∧ Binds K fd ps ds ∧ Vals dvs ds ∧ FnOk P w K mg base CX0 k f fd ps sp
/-- a new instance: what __init__ promises of it, told of the call -/
def tNew (R : List V → Hp → VK → Prop) (t : TA) : TE := fun σ H Q => t σ H fun vs H1 => R vs H1 Q
section
variable {X : Cx} {x : Str} {C : Addr} {k : Nat} {ps : List Str} {sp : Sp} {dvs : List V} {p pos : Pos} {e : Expr} {es : List Expr} {t : TA}
theorem PE.imp {e : Expr} {t t' : TE} (h : PE X e t) (i : ∀ σ H Q, t' σ H Q → t σ H Q) : PE X e t' := ⟨fun pins s σ H Q I q => h.run pins s σ H Q I (i σ H Q q)⟩
theorem pe_hasK (h : HasK X.prog X.w X.K X.mg X.base x C k ps sp dvs) (hr : Room (k + 1) X.A) (ha : PA X (e :: es) t) (hg : Gl X x := by rfl) (hdb : (x == ("__debug__" : Str)) = false := by decide)
    (he : starEach (e :: es) X.env = (false, eval e X.env) :: starEach es X.env := by rfl) (hpl : (backTo pos (starEach es X.env)).any (·.1) = false := by rfl) :
    PE X (.Call (.Name x p) (e :: es) [] pos) (tMake C sp dvs E0 t) := by
  obtain ⟨f, fd, ds, hm, M, hb, hd, F⟩ := h.ex
  exact pe_make M F hr hg hm hb hd pass0 ha hdb he hpl
theorem pe_hasK0 (h : HasK X.prog X.w X.K X.mg X.base x C k ps sp dvs) (hr : Room (k + 1) X.A) (hg : Gl X x := by rfl) (hdb : (x == ("__debug__" : Str)) = false := by decide) :
    PE X (.Call (.Name x p) [] [] pos) (tMake C sp dvs E0 tNil) := by
  obtain ⟨f, fd, ds, hm, M, hb, hd, F⟩ := h.ex
  exact pe_make0 M F hr hg hm hb hd pass0 hdb
end
end L2
namespace L2
open PySem PySem.Spec PyProof.Rows
theorem lk_hd {f : Str} {v : V} {r : List (Str × V)} : ((f, v) :: r).lookup f = some v := by simp [List.lookup]
theorem lk_tl {f g : Str} {v : V} {r : List (Str × V)} {o : Option V} (h : ¬ f = g) (k : r.lookup f = o) : ((g, v) :: r).lookup f = o := by
  have e : (f == g) = false := by simpa using h
  simp [List.lookup, e, k]
theorem putF_new {f : Str} {v : V} : ∀ {r : List (Str × V)}, (∀ q ∈ r, ¬ q.1 = f) → putF f v r = r ++ [(f, v)]
  | [], _ => rfl
  | (g, x) :: r, h => by
    show (if g = f then (g, v) :: r else (g, x) :: putF f v r) = _
    rw [if_neg (h (g, x) List.mem_cons_self), putF_new fun q hq => h q (List.mem_cons_of_mem _ hq)]
    rfl
/-- a class's def with defaults, made by its name -/
structure InitAt (K : PySem.W.Frag) (mg : Str → Option Value) (x : Str) (C : Addr) (qual : Str) (st : Stmt) (dvs : List V) (kws : List (Str × V)) : Prop where
  ex : ∃ (f : Addr) (fd : FuncData), mg x = some (.ref C) ∧ Mk K C f ∧ FunD K "__init__" qual (defArgs st) (defBody st) (defScope st) dvs kws f fd
/-- the same as a method -/
structure MethD (K : PySem.W.Frag) (C : Addr) (m qual : Str) (st : Stmt) (dvs : List V) (kws : List (Str × V)) : Prop where
  ex : ∃ (f : Addr) (fd : FuncData), Meth K C m f ∧ FunD K m qual (defArgs st) (defBody st) (defScope st) dvs kws f fd
structure HasD (P : Program) (w : World) (K : PySem.W.Frag) (mg : Str → Option Value) (base : Heap) (C : Addr) (m : Str) (k : Nat) (ps : List Str) (sp : Sp) (dvs : List V) : Prop where
  ex : ∃ (f : Addr) (fd : FuncData) (ds : List Value), Meth K C m f ∧ Binds K fd ps ds ∧ Vals dvs ds ∧ FnOk P w K mg base CX0 k f fd ps sp
section
variable {X : Cx} {C : Addr} {m : Str} {k : Nat} {ps : List Str} {sp : Sp} {dvs : List V} {apos pos : Pos} {o e : Expr} {es : List Expr} {ta : TE} {t : TA} {pl : Sem Bool}
theorem pe_hasD (h : HasD X.prog X.w X.K X.mg X.base C m k ps sp dvs) (c : Cls X.K C) (hr : Room k X.A) (ho : PE X o ta) (ha : PA X (e :: es) t)
    (hst : starEach (e :: es) X.env = (false, eval e X.env) :: starEach es X.env := by rfl) (hpl : (backTo pos (starEach es X.env)).any (·.1) = false := by rfl)
    (ht : eval (.Call (.Attribute o m apos) (e :: es) [] pos) X.env = (do
      let ov ← eval o X.env
      standAt apos.atName
      let (f, first) ← holding [ov] (getMethod ov m pl)
      callWith pos f first (backTo pos (starEach (e :: es) X.env)) (backToKw pos (keywordEach [] X.env))) := by rfl) :
    PE X (.Call (.Attribute o m apos) (e :: es) [] pos) (tMeth C m sp dvs E0 ta t) := by
  obtain ⟨f, fd, ds, hm, hb, hd, F⟩ := h.ex
  exact pe_meth ho c hm F hr hb hd pass0 ha hst hpl ht
theorem pe_hasM (h : HasM X.prog X.w X.K X.mg X.base C m k ps sp) (c : Cls X.K C) (hr : Room k X.A) (ho : PE X o ta) (ha : PA X (e :: es) t)
    (hst : starEach (e :: es) X.env = (false, eval e X.env) :: starEach es X.env := by rfl) (hpl : (backTo pos (starEach es X.env)).any (·.1) = false := by rfl)
    (ht : eval (.Call (.Attribute o m apos) (e :: es) [] pos) X.env = (do
      let ov ← eval o X.env
      standAt apos.atName
      let (f, first) ← holding [ov] (getMethod ov m pl)
      callWith pos f first (backTo pos (starEach (e :: es) X.env)) (backToKw pos (keywordEach [] X.env))) := by rfl) :
    PE X (.Call (.Attribute o m apos) (e :: es) [] pos) (tMeth C m sp [] E0 ta t) := by
  obtain ⟨f, fd, hm, hb, F⟩ := h.ex
  exact pe_meth ho c hm F hr hb .nil pass0 ha hst hpl ht
end
end L2
namespace L2
open PySem PySem.Spec PyProof.Rows
theorem Same.st {K : PySem.W.Frag} {H H' : Hp} {a : Addr} {xs : List V} (e : Same H H') (h : SqT K H a xs) : SqT K H' a xs := by
  rcases h with (h | ⟨o, h⟩) | h
  · exact .inl (.inl (e _ _ h))
  · exact .inl (.inr ⟨o, e _ _ h⟩)
  · exact .inr h
end L2
namespace L2
open PySem PySem.Spec PyProof.Rows
theorem Same.mut {H H' : Hp} {p : Addr} {o : HO} (e : Same H H') (h : H p = none) : Same H (upd H' p o) := fun a u ha => by
  rw [upd_ne (ne_of_none ha h)]
  exact e a u ha
theorem walk_zipT {K : PySem.W.Frag} {a b : Addr} {xs ys : List V} {n : Nat} (hn : n = min xs.length ys.length) : Walk (RZ.ItzT K a b) n (fun H => SqT K H a xs ∧ SqT K H b ys) (YPair (fun i => xs[i]?) (fun i => ys[i]?)) := by
  subst hn
  refine ⟨fun i _ hi q => ?_, fun _ q => ⟨xs, ys, q.1, q.2, by omega⟩, fun i H v H' _ q y => ?_⟩
  · have h1 : i < xs.length := by omega
    have h2 : i < ys.length := by omega
    exact ⟨xs, ys, xs[i], ys[i], q.1, q.2, by simp [h1], by simp [h2]⟩
  · obtain ⟨T, x, z, h1, h2, h3, h4, h5⟩ := y
    exact ⟨T, x, z, h1, h2, h3, h4 xs q.1, h5 ys q.2⟩
/-- a comprehension without a test whose element leaves what was tracked: the new list of val 0, val 1, .. -/
theorem lc_map {J : It} {n : Nat} {G : Hp → Prop} {Y : Nat → Hp → V → Hp → Prop} (w : Walk J n G Y) {g : TG} {te : TE} {vs : List Nat} {σ : St} {H1 : Hp} {D : Addr} {Qd : Hp → Prop} (val : Nat → V) (nD : H1 D = none) (hn : n < 1000000)
    (hG : ∀ H, Same H1 H → G H)
    (hs : ∀ i x H H', i < n → Same H1 H → Y i H x H' → ∀ R : V → Hp → Prop, (∀ H4, Same H H4 → R (val i) H4) → g x (wipe σ vs) H' fun σ2 H2 => wipe σ2 vs = wipe σ vs ∧ te σ2 H2 R)
    (hd : ∀ H, Same H1 H → H D = some (.lst ((List.range n).map val)) → Qd H) :
    ∃ W : Nat → Nat → Hp → Prop, (∃ m, W 0 m (upd H1 D (.lst []))) ∧ ∀ i m H, W i m H →
      (J.stop i H ∧ Qd H) ∨ (J.go i H ∧ ∃ Nx : Hp → Prop, (∀ H', Nx H' → ∃ m', m' < m ∧ W (i + 1) m' H') ∧ ∀ x H', J.yld i H x H' → g x (wipe σ vs) H' fun σ2 H2 => wipe σ2 vs = wipe σ vs ∧ tYes σ2 H2 fun b H3 =>
        if b = true then te σ2 H3 fun y H4 => ∃ acc, H4 D = some (.lst acc) ∧ acc.length < sizeLine ∧ Nx (upd H4 D (.lst (acc ++ [y]))) else Nx H3) := by
  refine lc_it w (fun i H => Same H1 H ∧ H D = some (.lst ((List.range i).map val))) ⟨fun b o h => by rw [upd_ne (ne_of_none h nD)]; exact h, upd_same⟩ (fun i H _ p => hG H p.1) ?_ (fun H p => hd H p.1 p.2)
  rintro i x H H' hi ⟨p1, p2⟩ y
  have h := hs i x H H' hi p1 y (fun y' H4 => ∃ acc, H4 D = some (.lst acc) ∧ acc.length < sizeLine ∧ (Same H1 (upd H4 D (.lst (acc ++ [y']))) ∧ (upd H4 D (.lst (acc ++ [y']))) D = some (.lst ((List.range (i + 1)).map val)))) fun H4 s4 => by
    refine ⟨_, s4 _ _ p2, ?_, (p1.trans s4).mut nD, ?_⟩
    · rw [List.length_map, List.length_range]
      exact Nat.lt_of_lt_of_le (by omega : i < 1000000) (by decide)
    · rw [List.range_succ, List.map_append]
      exact upd_same
  exact h
end L2
namespace L2
open PySem PySem.Spec PyProof.Rows
/-! ### rules whose reading names the written part, for a comprehension's block -/
section
variable {X : Cx}
theorem pg_tupK (K : PySem.W.Frag) (n : Nat) (hK : X.K = K := by rfl) {es : List Expr} {k : Nat} {t : TGs} {pos : Pos} (hc : X.calm = true) (h : PGs X es t)
    (hn : (assignEach es X.env).length = n := by rfl) (hst : (assignEach es X.env).findIdx? (·.1) = none := by rfl) : PG X (.Tuple es k pos) (gTup K n t) := by
  subst hK
  exact pg_tup hc h hn hst
theorem ix_listK (K : PySem.W.Frag) (hK : X.K = K := by rfl) : IxR X (rIxL K) := by
  subst hK
  exact ix_list
theorem ix_tupK (K : PySem.W.Frag) (hK : X.K = K := by rfl) : IxR X (rIxT K) := by
  subst hK
  exact ix_tup
theorem pe_fldK (K : PySem.W.Frag) {e : Expr} {ta : TE} {f : Str} {pos : Pos} (he : PE X e ta) (hb : attributeBase e f X.env (eval e X.env) = eval e X.env) (hK : X.K = K := by rfl) : PE X (.Attribute e f pos) (tFld K ta f) := by
  subst hK
  exact pe_fld he hb
end
end L2
namespace L2
open PySem PySem.Spec PyProof.Rows
/-! ### the end: what the top has written, read off the written part -/
section
variable {K : PySem.W.Frag} {mg : Str → Option Value} {h : Heap}
theorem funAt_mk {x qual : Str} {st : Stmt} {f : Addr} {oc : Value} {od an : Option Addr} {osl : Array (Option Value)} {kV doc pm cdv ct : Value} (X : K.In h) (G : h.Ns mainGlobals mg) (a : PySem.W.nsIn K mainGlobals x = some (some (.ref f)))
    (l : K.lookup f = some ⟨oc, od, .func (PySem.W.fnOf x qual (defArgs st) (defBody st) (defScope st) .none kV doc pm an cdv ct), osl⟩) (c : PySem.W.codeIn K cdv qual = true) (k : PySem.W.keepIn K (.ref f) = true) : FunAt K mg x qual st :=
  ⟨f, _, PySem.W.mg_of X G a, fun_mk l c k⟩
theorem methAt_mk {C : Addr} {m qual : Str} {st : Stmt} {f : Addr} {oc : Value} {od an : Option Addr} {osl : Array (Option Value)} {kV doc pm cdv ct : Value} (a : PySem.W.findIn K (.ref C) m = some (some (.ref f))) (i : PySem.W.isFn K (.ref f) = true)
    (l : K.lookup f = some ⟨oc, od, .func (PySem.W.fnOf m qual (defArgs st) (defBody st) (defScope st) .none kV doc pm an cdv ct), osl⟩) (c : PySem.W.codeIn K cdv qual = true) (k : PySem.W.keepIn K (.ref f) = true) : MethAt K C m qual st :=
  ⟨f, _, ⟨a, i, k⟩, fun_mk l c k⟩
theorem propAt_mk {C : Addr} {m qual : Str} {st : Stmt} {p g : Addr} {rest : List Value} {oc : Value} {od an : Option Addr} {osl : Array (Option Value)} {kV doc pm cdv ct : Value} (a : PySem.W.findIn K (.ref C) m = some (some (.ref p)))
    (b : PySem.W.specialIn K (.ref p) "__get__" = some (some (.builtin "property.__get__"))) (t : PySem.W.takesIn K (.ref p) = some true) (r : PySem.W.recIn K p "property" = some (.ref g :: rest))
    (l : K.lookup g = some ⟨oc, od, .func (PySem.W.fnOf m qual (defArgs st) (defBody st) (defScope st) .none kV doc pm an cdv ct), osl⟩) (c : PySem.W.codeIn K cdv qual = true) (k : PySem.W.keepIn K (.ref g) = true) : PropAt K C m qual st :=
  ⟨p, g, _, ⟨a, b, t, rest, r⟩, fun_mk l c k⟩
theorem funD_mk {x qual : Str} {st : Stmt} {f T : Addr} {dvs : List V} {oc tc : Value} {od an td : Option Addr} {osl tsl : Array (Option Value)} {kV doc pm cdv ct : Value} {its : List Value} {n : Nat}
    (l : K.lookup f = some ⟨oc, od, .func (PySem.W.fnOf x qual (defArgs st) (defBody st) (defScope st) (.ref T) kV doc pm an cdv ct), osl⟩) (c : PySem.W.codeIn K cdv qual = true) (k : PySem.W.keepIn K (.ref f) = true)
    (t : K.lookup T = some ⟨tc, td, .seq its.toArray n, tsl⟩) (v : Vals dvs its) (hd : dvs ≠ []) : FunD K x qual (defArgs st) (defBody st) (defScope st) dvs [] f (PySem.W.fnOf x qual (defArgs st) (defBody st) (defScope st) (.ref T) kV doc pm an cdv ct) :=
  ⟨⟨oc, od, .ref T, kV, doc, pm, an, cdv, ct, osl, rfl, l, c, .inr ⟨hd, T, _, its, n, rfl, t, rfl, v⟩, .inl rfl⟩, k⟩
theorem initAt_mk {x : Str} {C f : Addr} {qual : Str} {st : Stmt} {dvs : List V} {kws : List (Str × V)} {fd : FuncData} (X : K.In h) (G : h.Ns mainGlobals mg) (g : PySem.W.nsIn K mainGlobals x = some (some (.ref C)))
    (m : PySem.W.makesIn K C = true) (i : PySem.W.findIn K (.ref C) "__init__" = some (some (.ref f))) (n : PySem.W.isFn K (.ref f) = true) (k : PySem.W.keepIn K (.ref C) = true)
    (F : FunD K "__init__" qual (defArgs st) (defBody st) (defScope st) dvs kws f fd) : InitAt K mg x C qual st dvs kws := ⟨f, fd, PySem.W.mg_of X G g, ⟨m, i, n, k⟩, F⟩
theorem methD_mk {C f : Addr} {m qual : Str} {st : Stmt} {dvs : List V} {kws : List (Str × V)} {fd : FuncData} (a : PySem.W.findIn K (.ref C) m = some (some (.ref f))) (i : PySem.W.isFn K (.ref f) = true) (k : PySem.W.keepIn K (.ref f) = true)
    (F : FunD K m qual (defArgs st) (defBody st) (defScope st) dvs kws f fd) : MethD K C m qual st dvs kws := ⟨f, fd, ⟨a, i, k⟩, F⟩
theorem ownC_mk {C : Addr} (pg : PySem.W.plainGet K C Str.empty = true) (hd : PySem.W.hasDictIn K C = true) (po : PySem.W.plainOver K C = true) (sa : PySem.W.findIn K (.ref C) "__setattr__" = some (some (.builtin "object.__setattr__")))
    (ca : PySem.W.findIn K (.ref C) "__class__" = some (some (.builtin "object.__class__"))) (cn : PySem.W.specialIn K (.builtin "object.__class__") "__get__" = some (some (.builtin "getset_descriptor.__get__")))
    (ct : PySem.W.takesIn K (.builtin "object.__class__") = some true) (mo : PySem.W.mroIn K C (.type "object") = some true) (ic : PySem.W.isClsIn K C = true) (tc : PySem.W.typeIn K (.ref C) = some (.type "type")) : OwnC K C :=
  ⟨⟨pg, hd, po, sa⟩, ca, cn, ct, mo, ic, tc⟩
end
end L2

set_option maxHeartbeats 4000000
namespace L2
open PySem PySem.Spec PyProof.Rows
section
variable {X : Cx}
/-- d.update(e), two dicts of written keys -/
def rUpdate : V → List V → Hp → VK → Prop := fun x vs H Q => ∃ (d o : Addr) (ks ls : List (Key × V)), x = .ref d ∧ vs = [.ref o] ∧ d ≠ o ∧ H d = some (.dK ks) ∧ H o = some (.dK ls) ∧
  ks.length + ls.length ≤ sizeLine ∧ Q .non (upd H d (.dK (mergeK ks ls)))
theorem mt_update : MtR X "dict.update" rUpdate := by
  intro pins s σ H x vs v us Q I rx rv h
  obtain ⟨d, o, ks, ls, rfl, rfl, ne, ed, eo, z, q⟩ := h
  cases (show v = Value.ref d from rx)
  obtain ⟨u, rfl, ru⟩ := rv.one
  cases (show u = Value.ref o from ru)
  obtain ⟨z1, nd, xs, rel, dd⟩ := dk_of I.hok ed
  obtain ⟨z2, no, ys, rel2, dd2⟩ := dk_of I.hok eo
  have le : (mergeK ks ls).length ≤ sizeLine := Nat.le_trans (length_mergeK ls ks) z
  refine call_meetsIn PySem.F.slot_dict_update dd.typeIs PySem.F.entry_dict_update (PySem.F.args_dict_update_2 _ _) (meets_dict_update (mixKind X.prog X.w) d o ne no)
    ⟨xs, ys, dd, dd2, by rw [← rel.length, ← rel2.length]; exact z, fun h' dd' _ hs => ?_⟩
  obtain ⟨_, _, _, hq, _⟩ := id dd'
  exact ⟨.non, _, d_write (t' := s.toks) I (by rw [ed]; exact True.intro) hs ⟨_, hq⟩ (dk_new le nd (KV.merge rel2 rel) dd'), rfl, q⟩
/-- d == {} -/
def rEqNone : R2 := fun x y H Q => ∃ (a b : Addr) (ks : List (Key × V)), x = .ref a ∧ y = .ref b ∧ H a = some (.dK ks) ∧ H b = some (.dK []) ∧ Q (.bl ks.isEmpty) H
theorem op_eqNone (hu : X.A.units < cLine) : OpR X (compareOp .Eq) rEqNone := by
  intro pins s σ H x y v u Q I rx ry h
  obtain ⟨a, b, ks, rfl, rfl, ea, eb, q⟩ := h
  cases (show v = Value.ref a from rx)
  cases (show u = Value.ref b from ry)
  obtain ⟨_, ya, va, ra, da⟩ := dk_of I.hok ea
  obtain ⟨_, yb, vb, rb, db⟩ := dk_of I.hok eb
  cases rb
  refine PySem.W.keq_eq (r := true) ya yb da db hu (fun l => ?_) (fin_bl I q ?_)
  · cases va with
    | nil => exact .nil
    | cons => cases l
  · cases ra <;> rfl
end
end L2

set_option maxHeartbeats 4000000
/-! defs that are called where no container is being told (no guard stands): such a def may ask repr of lists and tuples -/
namespace L2
open PySem PySem.Spec PyProof.Rows
def Calm (A : Around) : Prop := A.guards = some []
structure FnG (P : Program) (w : World) (K : PySem.W.Frag) (mg : Str → Option Value) (base : Heap) (CX : CXT) (k : Nat)
    (f : Addr) (fd : FuncData) (ps : List Str) (sp : Sp) : Prop where
  len : ∀ vs H Q E, sp vs H Q E → vs.length = ps.length
  run : ∀ (A : Around) (outer : List Env) (s : Shared) (H : Hp) (args : Args) (us : List Value) (vs : List V) (Q : VK) (E : XK),
    Room k A → Calm A → Env0 P w K mg base A outer s H → BindsTo s fd args (ps.zip us) → Vals vs us → sp vs H Q E →
    codeAny (model P w) A (.call (.ref f) args) (CR CX outer P w H s Q E) s
section
variable {P : Program} {w : World} {K : PySem.W.Frag} {mg : Str → Option Value} {base : Heap} {CX : CXT} {k : Nat}
variable {f : Addr} {fd : FuncData} {ps : List Str} {sp sp' : Sp}
theorem FnG.of (F : FnOk P w K mg base CX k f fd ps sp) : FnG P w K mg base CX k f fd ps sp :=
  ⟨F.len, fun A o s H args us vs Q E hr _ => F.run A o s H args us vs Q E hr⟩
theorem FnG.mono {j : Nat} (F : FnG P w K mg base CX j f fd ps sp) (h : j ≤ k) : FnG P w K mg base CX k f fd ps sp :=
  ⟨F.len, fun A o s H args us vs Q E hr => F.run A o s H args us vs Q E (hr.mono h)⟩
/-- a def by its body, where no guard stands -/
theorem Fun.okG {x qual : Str} {st : Stmt} {N : List Str} (F : Fun K x qual st f fd) (S : FnScope N ps (defScope st)) (len : ∀ vs H Q E, sp vs H Q E → vs.length = ps.length)
    (body : ∀ (cdv : Value) (A : Around) (outer : List Env) (s : Shared) (H : Hp) (vs : List V) (Q : VK) (E : XK),
      Calm (A.deeper (envOfC qual (defScope st) s.heap.objs.size f cdv)) → Room k (A.deeper (envOfC qual (defScope st) s.heap.objs.size f cdv)) → sp vs H Q E →
      ∃ t, PSs (cxOf CX0 P w K mg base N qual (defScope st) f cdv A outer s H E).nox (defBody st) t ∧ t { nx := fun _ H' => Q .non H', rt := Q } (start N vs) H) :
    FnG P w K mg base CX0 (k + 1) f fd ps sp := by
  obtain ⟨oc, od, kV, doc, pm, an, cdv, ct, osl, rfl, lk, hcd⟩ := F.ex
  refine ⟨len, fun A outer s H args us vs Q E hr hG e0 hb r hsp => ?_⟩
  have KX : K.In s.heap := e0.mod.kin.keeps fun b o e => (e0.bs b o e).1
  have nl : s.heap.NoLimit := e0.mod.nolimit.keeps fun b o e => (e0.bs b o e).1
  have kinds : ∀ y ∈ ps.zip us, (defScope st).names.lookup y.1 = some .local ∨ ((defScope st).names.lookup y.1 = some .cell ∧ ((cellsFrom (s.heap.objs.size + 1) (defScope st).names []).lookup y.1).isSome = true) := by
    rintro ⟨n, v⟩ hy
    exact (S.par n (List.of_mem_zip hy).1).imp id fun q => ⟨q, PySem.W.cellsFrom_some _ _ _ (.inl q)⟩
  refine codeAny_call_function hr.depth (KX _ _ lk) rfl S.co S.gen rfl (PySem.W.codeRec_of KX hcd) (hb _ _ _ _ (wpAny_newFunctionEnv_cells S.kind kinds fun env he s1 x => ?_))
  cases he
  obtain ⟨t, ht, hq⟩ := body cdv A outer s H vs Q E hG (hr.deeper _) hsp
  have I := inv_start (CX := CX0) (P := P) (w := w) (K := K) (mg := mg) (base := base) (qual := qual) (cd := cdv) (E := E) S hr.hd e0 (len _ _ _ _ hsp) r x
  refine ⟨nl.keeps x.toInCall.keep, codeAny_func (wpAny_mono (ht.nox.run [] s1 (start N vs) H _ I hq) (fun fl s' hs => ?_) fun _ _ z => z)⟩
  have fin : ∀ {σ' : St} {H' : Hp} {v : V} {u : Value}, Inv (cxOf CX0 P w K mg base N qual (defScope st) f cdv A outer s H E) [] σ' H' s' → RelV v u → Q v H' → CE outer P w H s Q u s' :=
    fun J rv q => ⟨_, _, J.os, J.bare, J.base, J.hok, rv, q⟩
  match fl, hs with
  | .ret u, ⟨v, σ', H', J, rv, q⟩ => exact fin J rv q
  | .next, ⟨σ', H', J, q⟩ => exact fin (v := V.non) (u := Value.none) J rfl q
  | .brk, ⟨_, _, _, q⟩ => exact q.elim
  | .cont, ⟨_, _, _, q⟩ => exact q.elim
end
/-- a def of the module under its name, its promise where no guard stands -/
structure HasG (P : Program) (w : World) (K : PySem.W.Frag) (mg : Str → Option Value) (base : Heap) (x : Str) (k : Nat) (ps : List Str) (sp : Sp) : Prop where
  ex : ∃ (f : Addr) (fd : FuncData), mg x = some (.ref f) ∧ PySem.W.keepIn K (.ref f) = true ∧ Binds K fd ps [] ∧ FnG P w K mg base CX0 k f fd ps sp
section
variable {P : Program} {w : World} {K : PySem.W.Frag} {mg : Str → Option Value} {base : Heap} {x : Str} {k : Nat} {ps : List Str} {sp : Sp}
theorem HasG.of (h : Has P w K mg base x k ps sp) : HasG P w K mg base x k ps sp := let ⟨f, fd, a, b, c, d⟩ := h.ex; ⟨f, fd, a, b, c, .of d⟩
theorem hasG_of {qual : Str} {st : Stmt} {N : List Str} (F : FunAt K mg x qual st) (S : FnScope N ps (defScope st))
    (hb : ∀ (kV doc pm : Value) (an : Option Addr) (cdv ct : Value) (us : List Value), us.length = ps.length → bindArgs (PySem.W.fnOf x qual (defArgs st) (defBody st) (defScope st) .none kV doc pm an cdv ct) ⟨us, []⟩ = pure (ps.zip us))
    (len : ∀ vs H Q E, sp vs H Q E → vs.length = ps.length)
    (body : ∀ (f : Addr) (cdv : Value) (A : Around) (outer : List Env) (s : Shared) (H : Hp) (vs : List V) (Q : VK) (E : XK),
      Calm (A.deeper (envOfC qual (defScope st) s.heap.objs.size f cdv)) → Room k (A.deeper (envOfC qual (defScope st) s.heap.objs.size f cdv)) → sp vs H Q E →
      ∃ t, PSs (cxOf CX0 P w K mg base N qual (defScope st) f cdv A outer s H E).nox (defBody st) t ∧ t { nx := fun _ H' => Q .non H', rt := Q } (start N vs) H) :
    HasG P w K mg base x (k + 1) ps sp := by
  obtain ⟨f, fd, hm, F⟩ := F.ex
  exact ⟨f, fd, hm, F.kp, F.binds hb, F.okG S len (body f)⟩
end
section
variable {X : Cx} {x : Str} {k n : Nat} {f : Addr} {fd : FuncData} {ps : List Str} {sp : Sp} {p pos : Pos} {e : Expr} {es : List Expr} {t : TA} {pins : List (Addr × Obj)} {σ : St} {H : Hp} {s : Shared} {Q : VK}
/-- the callee runs -/
theorem FnG.call {us : List Value} {ws : List V} {E : XK} {CX : CXT} (F : FnG X.prog X.w X.K X.mg X.base CX n f fd ps sp) (hb : Binds X.K fd ps []) (hr : Room n X.A) (hg : Calm X.A) (hx : Passes CX X E) (I : Inv X pins σ H s)
    (r : Vals ws us) (h : sp ws H Q E) : wpAny (model X.prog X.w) X.A (call (.ref f) us) (EP X pins σ Q) X.xe s := by
  have hl : (us ++ []).length = ps.length := by
    rw [List.append_nil, ← F.len _ _ _ _ h, r.length]
  have b := hb s us I.kIn hl
  rw [List.append_nil] at b
  refine wpAny_call (codeAny_mono (F.run X.A X.stack s H ⟨us, []⟩ us ws Q E hr hg I.env0 b r h) fun z s' hq => ?_)
  match z, hq with
  | .error e, hq => exact hx pins σ H s e s' I hq
  | .ok (.ret u), hq => exact I.after hq
/-- f(e, ..) -/
theorem pe_hasG (h : HasG X.prog X.w X.K X.mg X.base x k ps sp) (hr : Room k X.A) (hc : Calm X.A) (ha : PA X (e :: es) t) (hg : Gl X x := by rfl) (hdb : (x == ("__debug__" : Str)) = false := by decide)
    (he : starEach (e :: es) X.env = (false, eval e X.env) :: starEach es X.env := by rfl) (hpl : (backTo pos (starEach es X.env)).any (·.1) = false := by rfl) :
    PE X (.Call (.Name x p) (e :: es) [] pos) (tCall sp [] E0 t) := by
  obtain ⟨f, fd, hm, hk, hb, F⟩ := h.ex
  refine ⟨fun pins s σ H Q I q => wpAny_Call_Name_kw (ld_glob I hg hm ?_ hdb)⟩
  refine PySem.W.callWith_K I.ok.mod.kin hk (thn (ha.run pos pins s σ H _ I q) fun us s1 z => ?_) he hpl
  obtain ⟨vs, H1, I1, r, q1⟩ := z
  exact ⟨I1.kIn, F.call hb hr hc pass0 I1 r (by rw [List.append_nil] at q1; exact q1)⟩
end
end L2

set_option maxHeartbeats 4000000
namespace L2
open PySem PySem.Spec PyProof.Rows
/-- the script, told to the abstract heap: by itself, or as one of the module's own objects -/
theorem script_told {P : Program} {w : World} {K : PySem.W.Frag} {s : Shared} {a : Addr} {vs : List Value} {ns : List Int} (KX : K.In s.heap) (ha : s.heap.get? a = some { cls := .type "list", data := .seq vs.toArray })
    (hi : IntsAre vs ns) (hl : ns.length ≤ sizeLine) :
    ∃ H : Hp, Only H ∧ SqL K H a (ns.map V.int) ∧ HOk P w H s.heap ∧ (∀ b, H b ≠ none → b = a) ∧ (H a ≠ none → K.lookup a = none) := by
  have rv := vals_ints hi
  rcases hk : K.lookup a with _ | o
  · let o : Obj := { cls := .type "list", data := .seq vs.toArray }
    let H : Hp := fun b => if b = a then some (.frz o (.lst (ns.map V.int))) else none
    have at_ : H a = some (.frz o (.lst (ns.map V.int))) := if_pos rfl
    have off : ∀ b, b ≠ a → H b = none := fun b n => if_neg n
    refine ⟨H, fun b => ?_, .inl (.inr ⟨o, at_⟩), fun b u z => ?_, fun b z => ?_, fun _ => rfl⟩
    · rcases Nat.decEq b a with n | n
      · exact .inl (off b n)
      · exact .inr ⟨_, _, n ▸ at_⟩
    · rcases Nat.decEq b a with n | n
      · rw [off b n] at z; cases z
      · subst n
        rw [at_] at z
        cases z
        exact ⟨ha, by rw [List.length_map]; exact hl, vs, _, rv, ha⟩
    · rcases Nat.decEq b a with n | n
      · exact absurd (off b n) z
      · exact n
  · have e := KX a o hk
    rw [ha] at e
    cases e
    exact ⟨fun _ => none, fun _ => .inl rfl, .inr ⟨_, vs.toArray, _, hk, rfl, rfl, rfl, by rw [List.size_toArray, hi.length]; exact hl, by simpa using rv⟩,
      fun b u z => (nomatch (show (none : Option HO) = some u from z)), fun b z => absurd rfl z, fun z => absurd rfl z⟩
/-- the law's promise at the heap behind the top -/
theorem law_callG {P : Program} {w : World} {K : PySem.W.Frag} {mg mb : Str → Option Value} {k : Nat} {fa a : Addr} {fd : FuncData} {x : Str} {sp : Sp} {s : Shared} {vs : List Value} {ns : List Int}
    (KX : K.In s.heap) (hns : s.heap.Ns mainGlobals mg) (hb : s.heap.Ns builtinsNs mb) (hbb : ∀ y : Str, y ≠ "__name__" → mb y = bootBuiltins y) (nl : s.heap.NoLimit) (hg : s.gens = #[])
    (ha : s.heap.get? a = some { cls := .type "list", data := .seq vs.toArray }) (hi : IntsAre vs ns) (hl : ns.length ≤ sizeLine) (hr : Room k callerA)
    (F : ∀ base : Heap, K.In base → base.Ns mainGlobals mg → FnG P w K mg base CX0 k fa fd [x] sp) (bind : ∀ (s : Shared) (u : Value), BindsTo s fd ⟨[u], []⟩ [(x, u)])
    (hsp : ∀ H : Hp, Only H → SqL K H a (ns.map V.int) → sp [.ref a] H (fun v _ => v = .bl true) E0) :
    codeAny (model P w) callerA (.call (.ref fa) ⟨[.ref a], []⟩) (fun r s' => r = .ok (.ret (.bool true)) ∧ OldK s.heap s'.heap ∧ s'.os = s.os ∧ AllBare s'.gens) s := by
  obtain ⟨H, hO, hS, hok, hA, hK⟩ := script_told (P := P) (w := w) KX ha hi hl
  have low : ∀ {b : Addr} {o : Obj}, s.heap.get? b = some o → (b = a → H b = none) → (hidT s.heap H).get? b = some o := fun {b o} e n =>
    hidT_get e (Classical.byContradiction fun q => q (n (hA b q)))
  have dicts : ∀ {b : Addr} {m : Str → Option Value}, s.heap.Ns b m → (hidT s.heap H).Ns b m := fun {b m} n => by
    obtain ⟨o, es, ep, e, d, r⟩ := n
    refine ⟨o, es, ep, low e fun q => ?_, d, r⟩
    subst q
    rw [ha] at e
    cases e
    exact (nomatch (show Data.seq vs.toArray _ = Data.dict es ep from d))
  have hKb : K.In (hidT s.heap H) := fun b o e => low (KX b o e) fun q => by
    subst q
    exact Classical.byContradiction fun z => by rw [hK z] at e; cases e
  obtain ⟨mc, n1, n2⟩ := nl
  have e0 : Env0 P w K mg (hidT s.heap H) callerA [] s H :=
    ⟨rfl, ⟨hKb, dicts hns, ⟨mb, dicts hb, hbb⟩, ⟨mc, dicts n1, n2⟩⟩, fun b o e => of_hidT e, Nat.le_of_eq (hidT_size _ _), trivial, fun b z => (nomatch z), hok, .of_eq hg⟩
  refine codeAny_mono ((F _ hKb (dicts hns)).run callerA [] s H ⟨[.ref a], []⟩ [.ref a] [.ref a] _ _ hr rfl e0 (bind s (.ref a)) (.cons rfl .nil) (hsp H hO hS)) fun r s' h => ?_
  match r, h with
  | .ok (.ret u), ⟨v, H', os, bare, un, hok', rv, (q : v = .bl true)⟩ =>
    subst q
    cases (show u = Value.bool true from rv)
    refine ⟨rfl, OldK.of_keep fun b o e => ?_, os, bare⟩
    rcases hO b with z | ⟨ob, xs, z⟩
    · exact un.keep b o e z (fun m => nomatch m) (fun m => nomatch m)
    · have e1 := (hok b _ z).1
      rw [e] at e1
      cases e1
      exact (hok' b _ (un.frzs b o _ z)).1
/-- THE HEAD -/
theorem walk_ofG {l : PySem.W.OpenLaw} {n k : Nat} {q : Program} {loose : List Str} {XP : (Str → Option Value) → Heap → Prop} {YP : World → Heap → Prop} {d : DefRec} {K : Params → PySem.W.Frag} {sp : World → Sp} {x : Str}
    (hn : l.most = some n) (hn2 : n ≤ sizeLine) (hdf : d.params.defaults = []) (hr : Room k callerA) (hY : ∀ (w : World) (h : Heap), YP w h → (K w.params).In h)
    (F : ∀ (w : World) (mg : Str → Option Value) (fa : Addr) (h : Heap), (K w.params).In h → h.Ns mainGlobals mg → mg d.name = some (.ref fa) →
      ∃ fd : FuncData, (∀ (s : Shared) (u : Value), BindsTo s fd ⟨[u], []⟩ [(x, u)]) ∧
        ∀ base : Heap, (K w.params).In base → base.Ns mainGlobals mg → FnG l.prog w (K w.params) mg base CX0 k fa fd [x] (sp w))
    (hsp : ∀ (w : World) (H : Hp) (a : Addr) (ns : List Int), ns.length ≤ n → Only H → SqL (K w.params) H a (ns.map V.int) → sp w [.ref a] H (fun v _ => v = .bl true) E0) :
    PySem.W.WalkO q loose XP YP l.row.toRowW d [] (fun f vs => PySem.call f vs) := by
  refine Att.attach_call hn hdf fun w s₀ s mg mb fa o pm cd doc a vs ns G Y ho hd hcd hmg hobj hints hlen hg => ?_
  obtain ⟨fd, hb, hF⟩ := F w mg fa _ (hY w _ Y) G.T.g hmg
  exact law_callG (hY w _ Y) G.T.g G.T.b G.T.builtins G.T.nolimit hg hobj hints (Nat.le_trans hlen hn2) hr hF hb fun H h1 h2 => hsp w H a ns hlen h1 h2
end L2

set_option maxHeartbeats 4000000
/-! repr of data: none, bools, ints, texts, lists, tuples at any depth, where no guard stands -/
namespace L2
open PySem PySem.Spec PyProof.Rows
section
variable {K : PySem.W.Frag} {H : Hp}
mutual
theorem Dp.noDict : ∀ (d : PyData) (v : V), Dp K H v d → d.hasDict = false
  | .none, _, _ => rfl
  | .bool _, _, _ => rfl
  | .int _, _, _ => rfl
  | .str _, _, _ => rfl
  | .list ds, _, h => by
    cases h with
    | lst _ ha => simpa [PyData.hasDict] using Dp.noDictAll ds _ ha
  | .tuple ds, _, h => by
    cases h with
    | tup _ ha => simpa [PyData.hasDict] using Dp.noDictAll ds _ ha
  | .dict _, _, h => by cases h
theorem Dp.noDictAll : ∀ (ds : List PyData) (vs : List V), DpAll K H vs ds → PyData.hasDictAll ds = false
  | [], _, _ => rfl
  | d :: ds, _, h => by
    cases h with
    | cons h1 h2 => simp [PyData.hasDictAll, Dp.noDict d _ h1, Dp.noDictAll ds _ h2]
end
end
section
variable {X : Cx}
def rRepr (K : PySem.W.Frag) (B : Nat) : List V → Hp → VK → Prop := fun xs H Q => ∃ v d, xs = [v] ∧ Dp K H v d ∧ d.showable = true ∧ d.depth ≤ B ∧ d.shown.length ≤ sizeLine ∧ Q (.str d.shown) H
theorem call_reprD {B : Nat} (hc : Calm X.A) (hu : X.A.units + (B + 1) < cLine) : CallR X (.builtin "repr") (rRepr X.K B) := by
  intro pins s σ H xs us Q I r h
  obtain ⟨v, d, rfl, hd, hs, hB, hz, q⟩ := h
  obtain ⟨u, rfl, ru⟩ := r.one
  obtain ⟨as, rd⟩ := Dp.reads I d v u hd ru
  have nd := Dp.noDict d v hd
  match d, hd, ru, rd, hs, hB, hz, q, nd with
  | .none, .non, ru, _, _, _, _, q, _ =>
    cases ru
    exact PySem.P.repr_of_none ⟨.str _, H, I.tok _, ⟨_, rfl⟩, q⟩
  | .bool b, .bl _, ru, _, _, _, _, q, _ =>
    cases ru
    exact PySem.P.repr_of_bool ⟨.str _, H, I.tok _, ⟨_, rfl⟩, q⟩
  | .int i, .int _, ru, _, hs, _, _, q, _ =>
    obtain ⟨t, rfl⟩ := ru
    exact PySem.P.repr_of_int (by simpa [PyData.showable] using hs) ⟨.str _, H, I.tok _, ⟨_, rfl⟩, q⟩
  | .str x, .str _, ru, _, _, _, hz, q, _ =>
    obtain ⟨t, rfl⟩ := ru
    exact PySem.P.repr_of_str ⟨.str _, H, I.tok _, ⟨_, rfl⟩, q⟩ hz
  | .list ds, .lst (a := a) _ _, ru, rd, hs, hB, hz, q, nd =>
    cases ru
    exact repr_of_reads' rd hs (PyData.noDict_hsm nd) hc (by omega) (fun _ _ e => e) (fun h' t tk hk => ⟨.str _, H, I.kept hk, ⟨_, rfl⟩, q⟩) hz
  | .tuple ds, .tup (a := a) _ _, ru, rd, hs, hB, hz, q, nd =>
    cases ru
    exact repr_of_reads' rd hs (PyData.noDict_hsm nd) hc (by omega) (fun _ _ e => e) (fun h' t tk hk => ⟨.str _, H, I.kept hk, ⟨_, rfl⟩, q⟩) hz
end
end L2

set_option maxHeartbeats 4000000
namespace N
open PySem L2
def top (i : Nat) : Stmt := PySem.Challenge.pw_stitchsizes_k22_whole_evenly_worked.main.body.getD i (.Pass ⟨0, 0, 0, 0⟩)
structure Blts (mg : Str → Option Value) : Prop where
  n_abs : mg "abs" = none
  n_len : mg "len" = none
  n_max : mg "max" = none
  n_min : mg "min" = none
  n_int : mg "int" = none
  n_bool : mg "bool" = none
  n_divmod : mg "divmod" = none
  n_isinstance : mg "isinstance" = none
  n_range : mg "range" = none
  n_zip : mg "zip" = none
  n_tuple : mg "tuple" = none
  n_list : mg "list" = none
  n_str : mg "str" = none
  n_repr : mg "repr" = none
  n_all : mg "all" = none
  n_any : mg "any" = none
  n_sum : mg "sum" = none
  n_sorted : mg "sorted" = none
  n_dict : mg "dict" = none
  n_enumerate : mg "enumerate" = none
/-- a pot of draws: two counts -/
def Pot (H : Hp) (p : Addr) : Prop := ∃ a b : Int, H p = some (.lst [.int a, .int b]) ∧ 0 ≤ a ∧ 0 ≤ b ∧ b < 4294967296
/-- all that was tracked is as it was, but what stands at p -/
def But (p : Addr) (H H' : Hp) : Prop := ∀ b o, H b = some o → b ≠ p → H' b = some o
theorem But.refl {p : Addr} {H : Hp} : But p H H := fun _ _ h _ => h
theorem But.trans {p : Addr} {H H1 H2 : Hp} (a : But p H H1) (b : But p H1 H2) : But p H H2 := fun c o h n => b c o (a c o h n) n
theorem But.upd {p : Addr} {H : Hp} {o : HO} : But p H (L2.upd H p o) := fun c u h n => by rw [upd_ne n]; exact h
theorem But.new {p q : Addr} {H : Hp} {o : HO} (hq : H q = none) : But p H (L2.upd H q o) := fun c u h n => by rw [upd_ne (ne_of_none h hq)]; exact h
theorem But.free {p q : Addr} {H H' : Hp} (e : But p H H') (hp : q ≠ p) (h : H' q = Option.none) : H q = Option.none := by
  cases z : H q with
  | none => rfl
  | some o =>
    rw [e q o z hp] at h
    cases h
theorem Pot.at {H : Hp} {p : Addr} (h : Pot H p) : ∃ o, H p = some o := let ⟨_, _, e, _⟩ := h; ⟨_, e⟩
theorem Pot.ne {H : Hp} {p q : Addr} (h : Pot H p) (hq : H q = none) : q ≠ p := fun z => by obtain ⟨_, _, e, _⟩ := h; subst z; rw [hq] at e; cases e
theorem Pot.new {H : Hp} {p q : Addr} {o : HO} (h : Pot H p) (hq : H q = none) : Pot (L2.upd H q o) p := by
  obtain ⟨a, b, e, r⟩ := h
  exact ⟨a, b, by rw [upd_ne (ne_of_none e hq)]; exact e, r⟩
def spDraw : Sp := fun vs H Q _ => ∃ (p : Addr) (n : Int), vs = [.ref p, .int n] ∧ Pot H p ∧ 0 < n ∧ n < 1000000 ∧ ∀ d H', 0 ≤ d → d < n → Pot H' p → But p H H' → Q (.int d) H'
section
variable {P : Program} {w : World} {K : PySem.W.Frag} {mg : Str → Option Value} {base : Heap}
abbrev s__law_draw : Stmt := top 73
theorem sc__law_draw : FnScope ["_law_pot_here", "_law_many", "_law_digit"] ["_law_pot_here", "_law_many"] (defScope s__law_draw) := ⟨rfl, rfl, rfl, by decide +kernel, rfl, by decide +kernel, by decide +kernel⟩
theorem h_law_draw (B : Blts mg) (F : FunAt K mg "_law_draw" "_law_draw" s__law_draw) : Has P w K mg base "_law_draw" 1 ["_law_pot_here", "_law_many"] spDraw := by
  refine has_of F sc__law_draw (fun _ _ _ _ _ _ us hl => match us, hl with | [_, _], _ => rfl) (fun vs H Q E h => ?_) (fun f cdv A outer s H vs Q E hr h => ?_)
  · obtain ⟨p, n, rfl, _⟩ := h
    rfl
  · obtain ⟨p, n, rfl, hp, h0, h1, k⟩ := h
    obtain ⟨a, b, hp, ha, hb, hb2⟩ := hp
    refine ⟨_, (pss_cons (ps_if (pt_cmpR op_gt (pe_ix ix_list (pv 0) pe_int (fun _ _ => rfl)) pe_int (by first | exact nomark _ | rfl)) (pss_cons (ps_asg (pe_callB call_divmod (by rfl) B.n_divmod (by decide +kernel) (pa_cons (pe_ix ix_list (pv 0) pe_int (fun _ _ => rfl)) (pa_cons (pv 1) pa_nil))) (pg_tup rfl (pgs_cons (pg_sub (pv 0) pe_int set_list) (pgs_cons (pg_name (i := 2) sc__law_draw.nd rfl (Or.inl rfl)) pgs_nil))))
        (pss_one (ps_ret (pv 2))))
        pss_nil)
      (pss_cons (ps_asg (pe_op op_mod (pe_callTy call_int1 (by rfl) B.n_int (by decide +kernel) (pa_cons (pe_op op_add (pe_op op_mul (pe_ix ix_list (pv 0) pe_int (fun _ _ => rfl)) pe_int) pe_int) pa_nil)) pe_int) (pg_sub (pv 0) pe_int set_list))
      (pss_one (ps_ret (pe_op op_mod (pe_callTy call_int1 (by rfl) B.n_int (by decide +kernel) (pa_cons (pe_op op_fdiv (pe_op op_mod (pe_callTy call_int1 (by rfl) B.n_int (by decide +kernel) (pa_cons (pe_op op_mul (pe_ix ix_list (pv 0) pe_int (fun _ _ => rfl)) (pe_ix ix_list (pv 0) pe_int (fun _ _ => rfl))) pa_nil)) pe_int) pe_int) pa_nil)) (pv 1)))))), ?_⟩
    refine ⟨_, rfl, p, _, 0, _, rfl, rfl, SqL.of hp, rfl, _, _, rfl, rfl, _, rfl, ?_⟩
    refine ite2 (fun c => ?_) (fun _ => ?_)
    · have c' : 0 < a := of_decide_eq_true c
      refine ⟨_, rfl, p, _, 0, _, rfl, rfl, SqL.of hp, rfl, _, rfl, a, n, rfl, ⟨h0, by omega⟩, fun q hq => ?_⟩
      refine ⟨q, _, rfl, SqT.of upd_same, rfl, _, _, rfl, _, rfl, p, _, 0, 0, rfl, rfl, (by rw [upd_ne (ne_of_none hp hq)]; exact hp), rfl, _, _, rfl, rfl, ?_⟩
      refine ⟨_, rfl, k _ _ (Int.emod_nonneg _ (by omega)) (Int.emod_lt_of_pos _ h0) ⟨a / n, b, upd_same, Int.ediv_nonneg ha (by omega), hb, hb2⟩ ?_⟩
      exact (But.new hq).trans But.upd
    · refine ⟨_, rfl, p, _, 1, _, rfl, rfl, SqL.of hp, rfl, _, _, rfl, rfl, .inr ⟨by omega, by omega⟩, _, _, rfl, rfl, .inl ⟨_, rfl, _, _, rfl, rfl, (by decide : (0 : Int) < 2147483587), _, rfl, p, _, 1, 1, rfl, rfl, hp, rfl, ?_⟩⟩
      have g0 : 0 ≤ (b * 44203 + 15511) % 2147483587 := Int.emod_nonneg _ (by decide)
      have g1 : (b * 44203 + 15511) % 2147483587 < 2147483587 := Int.emod_lt_of_pos _ (by decide)
      refine ⟨_, rfl, p, _, 1, _, rfl, rfl, SqL.of upd_same, rfl, _, rfl, p, _, 1, _, rfl, rfl, SqL.of upd_same, rfl, _, _, rfl, rfl, .inr ⟨by omega, by omega⟩, .inl ⟨_, rfl, _, _, rfl, rfl, (by decide : (0 : Int) < 2147483549), _, _, rfl, rfl, ⟨by decide, by decide⟩, .inl ⟨_, rfl, _, rfl, _, _, rfl, rfl, h0, ?_⟩⟩⟩
      exact k _ _ (Int.emod_nonneg _ (by omega)) (Int.emod_lt_of_pos _ h0) ⟨a, _, upd_same, ha, g0, by omega⟩ But.upd
end
end N

set_option maxHeartbeats 4000000
namespace N
open PySem L2
theorem But.of {p : Addr} {H H' : Hp} (h : Same H H') : But p H H' := fun b o e _ => h b o e
theorem Same.new {q : Addr} {H : Hp} {o : HO} (hq : H q = none) : Same H (L2.upd H q o) := fun c u h => by rw [upd_ne (ne_of_none h hq)]; exact h
theorem But.sq {p l : Addr} {K : PySem.W.Frag} {H H' : Hp} {xs : List V} (e : But p H H') (n : l ≠ p) (h : SqL K H l xs) : SqL K H' l xs := by
  rcases h with (h | ⟨o, h⟩) | h
  · exact .inl (.inl (e _ _ h n))
  · exact .inl (.inr ⟨o, e _ _ h n⟩)
  · exact .inr h
theorem But.st {p l : Addr} {K : PySem.W.Frag} {H H' : Hp} {xs : List V} (e : But p H H') (n : l ≠ p) (h : SqT K H l xs) : SqT K H' l xs := by
  rcases h with (h | ⟨o, h⟩) | h
  · exact .inl (.inl (e _ _ h n))
  · exact .inl (.inr ⟨o, e _ _ h n⟩)
  · exact .inr h
theorem atI_at {α : Type} {xs : List α} {d : Int} {v : α} (h0 : 0 ≤ d) (h : xs[d.toNat]? = some v) : atI xs d = some v := by
  have z := atI_nat h
  rwa [Int.toNat_of_nonneg h0] at z
def spPot (K : PySem.W.Frag) : Sp := fun vs H Q _ => ∃ (a : Addr) (ns : List Int) (k : Nat), vs = [.ref a, .int k] ∧ SqL K H a (ns.map V.int) ∧ ns.length ≤ 63 ∧ k ≤ 63 ∧ ∀ p H', H p = none → Pot H' p → Same H H' → Q (.ref p) H'
def spPick (K : PySem.W.Frag) : Sp := fun vs H Q _ => ∃ (p l : Addr) (xs : List V), vs = [.ref p, .ref l] ∧ Pot H p ∧ SqL K H l xs ∧ l ≠ p ∧ xs ≠ [] ∧ xs.length < 1000000 ∧ ∀ v H', v ∈ xs → Pot H' p → But p H H' → Q v H'
section
variable {P : Program} {w : World} {K : PySem.W.Frag} {mg : Str → Option Value} {base : Heap}
abbrev s__law_pot : Stmt := top 72
theorem sc__law_pot : FnScope ["_law_script", "_law_k", "_law_cell"] ["_law_script", "_law_k"] (defScope s__law_pot) := ⟨rfl, rfl, rfl, by decide +kernel, rfl, by decide +kernel, by decide +kernel⟩
theorem h_law_pot (B : Blts mg) (F : FunAt K mg "_law_pot" "_law_pot" s__law_pot) : Has P w K mg base "_law_pot" 1 ["_law_script", "_law_k"] (spPot K) := by
  refine has_of F sc__law_pot (fun _ _ _ _ _ _ us hl => match us, hl with | [_, _], _ => rfl) (fun vs H Q E h => ?_) (fun f cdv A outer s H vs Q E hr h => ?_)
  · obtain ⟨p, n, k, rfl, _⟩ := h
    rfl
  · obtain ⟨a, ns, j, rfl, hs, hn, hj, k⟩ := h
    refine ⟨_, (pss_cons (ps_set (i := 2) sc__law_pot.nd rfl (Or.inl rfl) (pe_ifExp (pt_cmpR op_lt (pv 1) (pe_callB call_len (by rfl) B.n_len PySem.boot_len (pa_cons (pv 0) pa_nil)) (by first | exact nomark _ | rfl)) (pe_ix ix_list (pv 0) (pv 1) (fun _ _ => rfl)) (pe_op op_mul pe_int (pv 1))))
      (pss_one (ps_ret (pe_lst (pa_cons (pe_callB (call_max2 rfl) (by rfl) B.n_max (by decide +kernel) (pa_cons pe_int (pa_cons (pe_op op_sub (pe_callB call_abs (by rfl) B.n_abs (by decide +kernel) (pa_cons (pv 2) pa_nil)) (pe_op op_pow pe_int pe_int)) pa_nil))) (pa_cons (pe_op op_add (pe_op op_mod (pe_callTy call_int1 (by rfl) B.n_int (by decide +kernel) (pa_cons (pe_op op_add (pe_op op_add (pe_op op_mul (pe_op op_mod (pe_callTy call_int1 (by rfl) B.n_int (by decide +kernel) (pa_cons (pe_callB call_abs (by rfl) B.n_abs (by decide +kernel) (pa_cons (pv 2) pa_nil)) pa_nil)) pe_int) pe_int) (pe_op op_mul pe_int (pv 1))) pe_int) pa_nil)) pe_int) pe_int) pa_nil)))))), ?_⟩
    have rest : ∀ z : Int, ∀ (c : Int), c = (if z < 0 then -z else z) → ∀ (y : Int), y = (if 0 < c - 10 ^ 18 then c - 10 ^ 18 else 0) →
        ∀ q, H q = none → Q (.ref q) (upd H q (.lst [.int y, .int ((c % 2147483563 * 40009 + 61297 * (j : Int) + 17) % 2147483629 + 1)])) := by
      intro z c hc y hy q hq
      have c0 : 0 ≤ c := by subst hc; split <;> omega
      have y0 : 0 ≤ y := by subst hy; split <;> omega
      have g0 : 0 ≤ (c % 2147483563 * 40009 + 61297 * (j : Int) + 17) % 2147483629 := Int.emod_nonneg _ (by decide)
      have g1 : (c % 2147483563 * 40009 + 61297 * (j : Int) + 17) % 2147483629 < 2147483629 := Int.emod_lt_of_pos _ (by decide)
      exact k q _ hq ⟨y, _, upd_same, y0, by omega, by omega⟩ (Same.new hq)
    refine ⟨_, rfl, _, rfl, _, ns.length, rfl, .inl ⟨_, hs, by rw [List.length_map]⟩, _, _, rfl, rfl, _, rfl, ?_⟩
    have e10 : ((10 : Int) ^ (18 : Int).toNat) = 10 ^ 18 := rfl
    refine ite2 (fun c => ?_) (fun c => ?_)
    · have hlt : j < ns.length := by have := of_decide_eq_true c; omega
      refine ⟨_, rfl, _, rfl, a, _, (j : Int), .int ns[j], rfl, rfl, hs, atI_nat (by rw [List.getElem?_map, List.getElem?_eq_getElem hlt]; rfl), ?_⟩
      have m0 := Int.emod_nonneg (if ns[j] < 0 then -ns[j] else ns[j]) (by decide : (2147483563 : Int) ≠ 0)
      have m1 := Int.emod_lt_of_pos (if ns[j] < 0 then -ns[j] else ns[j]) (by decide : (0 : Int) < 2147483563)
      refine ⟨_, rfl, _, rfl, _, _, rfl, rfl, ⟨by decide, by decide, by decide⟩, _, _, rfl, rfl, _, _, rfl, _, rfl, _, rfl, .inl ⟨_, rfl, _, _, rfl, rfl, (by decide : (0 : Int) < 2147483563), _, _, rfl, rfl, .inr ⟨by decide, by decide⟩, _, rfl, _, _, rfl, rfl, .inl ⟨by decide, by decide⟩, _, _, rfl, rfl, _, _, rfl, rfl, .inl ⟨_, rfl, _, _, rfl, rfl, (by decide : (0 : Int) < 2147483629), _, _, rfl, rfl, (by show 2 ≤ sizeLine; decide), fun q hq => rest ns[j] _ rfl _ rfl q hq⟩⟩⟩
    · refine ⟨_, rfl, _, _, rfl, rfl, .inl ⟨by decide, by decide⟩, ?_⟩
      refine ⟨_, rfl, _, rfl, _, _, rfl, rfl, ⟨by decide, by decide, by decide⟩, _, _, rfl, rfl, _, _, rfl, _, rfl, _, rfl, .inl ⟨_, rfl, _, _, rfl, rfl, (by decide : (0 : Int) < 2147483563), _, _, rfl, rfl, .inr ⟨by decide, by decide⟩, _, rfl, _, _, rfl, rfl, .inl ⟨by decide, by decide⟩, _, _, rfl, rfl, _, _, rfl, rfl, .inl ⟨_, rfl, _, _, rfl, rfl, (by decide : (0 : Int) < 2147483629), _, _, rfl, rfl, (by show 2 ≤ sizeLine; decide), fun q hq => rest (7 * (j : Int)) _ rfl _ rfl q hq⟩⟩⟩
abbrev s__law_pick : Stmt := top 74
theorem sc__law_pick : FnScope ["_law_pot_here", "_law_some"] ["_law_pot_here", "_law_some"] (defScope s__law_pick) := ⟨rfl, rfl, rfl, by decide +kernel, rfl, by decide +kernel, by decide +kernel⟩
theorem h_law_pick (B : Blts mg) (F : FunAt K mg "_law_pick" "_law_pick" s__law_pick) (h_law_draw : Has P w K mg base "_law_draw" 1 ["_law_pot_here", "_law_many"] spDraw) : Has P w K mg base "_law_pick" 2 ["_law_pot_here", "_law_some"] (spPick K) := by
  refine has_of F sc__law_pick (fun _ _ _ _ _ _ us hl => match us, hl with | [_, _], _ => rfl) (fun vs H Q E h => ?_) (fun f cdv A outer s H vs Q E hr h => ?_)
  · obtain ⟨p, n, k, rfl, _⟩ := h
    rfl
  · obtain ⟨p, l, xs, rfl, hp, hs, hne, hx, hlen, k⟩ := h
    refine ⟨_, (pss_one (ps_ret (pe_ix ix_list (pv 1) (pe_has h_law_draw (hr.mono (by decide)) (pa_cons (pv 0) (pa_cons (pe_callB call_len (by rfl) B.n_len PySem.boot_len (pa_cons (pv 1) pa_nil)) pa_nil))) (fun _ _ => rfl)))), ?_⟩
    have h0 : 0 < xs.length := List.length_pos_iff.mpr hx
    refine ⟨_, rfl, _, rfl, _, rfl, _, xs.length, rfl, .inl ⟨_, hs, rfl⟩, p, _, rfl, hp, by omega, by omega, fun d H' d0 d1 hp' e => ?_⟩
    have dl : d.toNat < xs.length := by omega
    exact ⟨l, xs, d, xs[d.toNat], rfl, rfl, e.sq hne hs, atI_at d0 (List.getElem?_eq_getElem dl), k _ _ (List.getElem_mem dl) hp' e⟩
end
end N

set_option maxHeartbeats 4000000
namespace N
open PySem L2
def spMixed (K : PySem.W.Frag) : Sp := fun vs H Q _ => ∃ (p l : Addr) (xs : List V), vs = [.ref p, .ref l] ∧ Pot H p ∧ SqL K H l xs ∧ l ≠ p ∧ xs.length < 1000 ∧
  ∀ q ys H', H q = none → H' q = some (.lst ys) → ys.Perm xs → Pot H' p → But p H H' → Q (.ref q) H'
theorem seqIndex_nat {d : Int} {n : Nat} (h0 : 0 ≤ d) (h1 : d < n) : seqIndex? d n = some d.toNat := by
  unfold seqIndex?
  have h2 : ¬ d < 0 := by omega
  simp [h2, h0, h1]
theorem erase_perm {α : Type} : ∀ {l : List α} {k : Nat} (h : k < l.length), (l[k] :: l.eraseIdx k).Perm l
  | a :: l, 0, _ => .refl _
  | a :: l, k + 1, h => by
    have h' : k < l.length := by simpa using h
    simp only [List.eraseIdx_cons_succ, List.getElem_cons_succ]
    exact (List.Perm.swap _ _ _).trans (.cons _ (erase_perm h'))
section
variable {P : Program} {w : World} {K : PySem.W.Frag} {mg : Str → Option Value} {base : Heap}
end
end N

set_option maxHeartbeats 4000000
namespace N
open PySem L2
/-- [draws of a pot for _ in range(n)] -/
theorem lc_draws {n : Nat} {p : Addr} {g : TG} {te : TE} {vs : List Nat} {σ : St} {H : Hp} {D : Addr} {Qd : Hp → Prop} (S : V → Prop) (hp : Pot H p) (nD : H D = none) (hn : n < 1000000)
    (hs : ∀ (i : Nat) H', i < n → Pot H' p → But p H H' → ∀ R : V → Hp → Prop, (∀ v H4, S v → Pot H4 p → But p H' H4 → R v H4) → g (.int (0 + i)) (wipe σ vs) H' fun σ2 H2 => wipe σ2 vs = wipe σ vs ∧ te σ2 H2 R)
    (hd : ∀ ys H', ys.length = n → (∀ y ∈ ys, S y) → Pot H' p → But p H H' → H' D = some (.lst ys) → Qd H') :
    ∃ W : Nat → Nat → Hp → Prop, (∃ m, W 0 m (upd H D (.lst []))) ∧ ∀ i m H, W i m H →
      ((Itr 0 n).stop i H ∧ Qd H) ∨ ((Itr 0 n).go i H ∧ ∃ Nx : Hp → Prop, (∀ H', Nx H' → ∃ m', m' < m ∧ W (i + 1) m' H') ∧ ∀ x H', (Itr 0 n).yld i H x H' → g x (wipe σ vs) H' fun σ2 H2 => wipe σ2 vs = wipe σ vs ∧ tYes σ2 H2 fun b H3 =>
        if b = true then te σ2 H3 fun y H4 => ∃ acc, H4 D = some (.lst acc) ∧ acc.length < sizeLine ∧ Nx (upd H4 D (.lst (acc ++ [y]))) else Nx H3) := by
  have nDp : D ≠ p := hp.ne nD
  refine lc_range (fun i H' => Pot H' p ∧ But p H H' ∧ ∃ ys, H' D = some (.lst ys) ∧ ys.length = i ∧ ∀ y ∈ ys, S y) ⟨hp.new nD, But.new nD, [], upd_same, rfl, fun _ h => nomatch h⟩ (fun i H1 hi h => ?_) (fun H' h => ?_)
  · obtain ⟨hp1, e1, ys, hD, hl, hy⟩ := h
    have q := hs i H1 hi hp1 e1 (fun y H4 => ∃ acc, H4 D = some (.lst acc) ∧ acc.length < sizeLine ∧ (Pot (upd H4 D (.lst (acc ++ [y]))) p ∧ But p H (upd H4 D (.lst (acc ++ [y]))) ∧ ∃ zs, (upd H4 D (.lst (acc ++ [y]))) D = some (.lst zs) ∧ zs.length = i + 1 ∧ ∀ z ∈ zs, S z)) fun v H4 sv hp4 e4 => by
      refine ⟨ys, e4 _ _ hD nDp, Nat.lt_of_lt_of_le (by omega : ys.length < 1000000) (by decide), ?_, fun b o hb hbp => ?_, ys ++ [v], upd_same, by rw [List.length_append, hl]; rfl, fun z hz => ?_⟩
      · obtain ⟨a, b, e, r⟩ := hp4
        exact ⟨a, b, (upd_ne nDp.symm).trans e, r⟩
      · rw [upd_ne (ne_of_none hb nD)]
        exact e4 _ _ (e1 _ _ hb hbp) hbp
      · rcases List.mem_append.mp hz with hz | hz
        · exact hy z hz
        · rw [List.mem_singleton.mp hz]; exact sv
    exact q
  · obtain ⟨hp1, e1, ys, hD, hl, hy⟩ := h
    exact hd ys H' hl hy hp1 e1 hD

/-- a loop over zip of two lists, the first no longer than the second -/
theorem for_zipS {K : PySem.W.Frag} {a b : Addr} {xs ys : List V} {g : TG} {tb : TS} {D : Ends} {σ : L2.St} {H : Hp} (hl : xs.length ≤ ys.length) (Pv : Nat → L2.St → Hp → Prop) (h0 : Pv 0 σ H) (hq : ∀ i σ H, Pv i σ H → SqL K H a xs ∧ SqL K H b ys)
    (hs : ∀ (i : Nat) (x y : V) (T : Addr) (σ : L2.St) (H : Hp), xs[i]? = some x → ys[i]? = some y → Pv i σ H → H T = none → g (.ref T) σ (upd H T (.tup [x, y])) fun σ2 H2 => tb { D with nx := Pv (i + 1), ct := Pv (i + 1), bk := D.nx } σ2 H2)
    (hd : ∀ σ H, Pv xs.length σ H → D.nx σ H) :
    ∃ W : Nat → Nat → L2.St → Hp → Prop, (∃ m, W 0 m σ H) ∧ ∀ i m σ H, W i m σ H →
      ((Itz K a b).stop i H ∧ D.nx σ H) ∨ ((Itz K a b).go i H ∧ ∃ N : L2.St → Hp → Prop, (∀ σ' H', N σ' H' → ∃ m', m' < m ∧ W (i + 1) m' σ' H') ∧ ∀ v H', (Itz K a b).yld i H v H' → g v σ H' fun σ2 H2 => tb { D with nx := N, ct := N, bk := D.nx } σ2 H2) := by
  refine ⟨fun i m σ H => m + i = xs.length ∧ Pv i σ H, ⟨xs.length, rfl, h0⟩, fun i m σ H w => ?_⟩
  obtain ⟨hm, p⟩ := w
  obtain ⟨qx, qy⟩ := hq i σ H p
  cases m with
  | zero =>
    have e : i = xs.length := by omega
    subst e
    exact .inl ⟨⟨xs, ys, qx, qy, .inl (Nat.le_refl _)⟩, hd σ H p⟩
  | succ m =>
    have i1 : i < xs.length := by omega
    have i2 : i < ys.length := by omega
    refine .inr ⟨⟨xs, ys, xs[i], ys[i], qx, qy, List.getElem?_eq_getElem i1, List.getElem?_eq_getElem i2⟩, Pv (i + 1), fun σ' H' p' => ⟨m, Nat.lt_succ_self _, by omega, p'⟩, fun v H' y => ?_⟩
    obtain ⟨T, x', y', rfl, hT, rfl, f1, f2⟩ := y
    exact hs i x' y' T σ H (f1 xs qx) (f2 ys qy) p hT
/-- ways that join behind a statement -/
theorem seq_cut {a b : TS} {D : Ends} {σ : St} {H : Hp} (J : St → Hp → Prop) (h1 : ∀ Z : St → Hp → Prop, (∀ σ' H', J σ' H' → Z σ' H') → a { D with nx := Z } σ H) (h2 : ∀ σ' H', J σ' H' → b D σ' H') : tSeq a b D σ H :=
  h1 _ h2
/-! ### what a book of kinds is -/
abbrev Trip := Str × Option Str × Option Str
structure Row where
  name : Str
  takes : Int
  makes : Int
  back : Option Str
  mirror : Option Str
  yarn : Int
def Row.trip (r : Row) : Trip := (r.name, r.back, r.mirror)
def ov : Option Str → V
  | none => .non
  | some s => .str s
/-- tuples stay -/
def KeepT (H H' : Hp) : Prop := ∀ c xs, H c = some (.tup xs) → H' c = some (.tup xs)
theorem KeepT.refl {H : Hp} : KeepT H H := fun _ _ h => h
theorem KeepT.trans {H H1 H2 : Hp} (a : KeepT H H1) (b : KeepT H1 H2) : KeepT H H2 := fun c xs h => b c xs (a c xs h)
theorem KeepT.new {H : Hp} {q : Addr} {o : HO} (hq : H q = none) : KeepT H (L2.upd H q o) := fun c xs h => (upd_ne (ne_of_none h hq)).trans h
theorem KeepT.mut {H : Hp} {q : Addr} {o u : HO} (hq : H q = some u) (nu : ∀ xs, u ≠ .tup xs) : KeepT H (L2.upd H q o) := fun c xs h => (upd_ne fun z => by subst z; rw [hq] at h; exact nu xs (Option.some.inj h)).trans h
theorem KeepT.but {H H' : Hp} {p : Addr} (hp : Pot H p) (e : But p H H') : KeepT H H' := fun c xs h => e c _ h fun z => by
  obtain ⟨a, b, q, _⟩ := hp
  subst z
  rw [q] at h
  cases h
def RowAt (H : Hp) (a : Addr) (r : Row) : Prop := H a = some (.tup [.int r.takes, .int r.makes, ov r.back, ov r.mirror, .int r.yarn])
def PairAt (H : Hp) (q : Addr) (r : Row) : Prop := ∃ a, H q = some (.tup [.str r.name, .ref a]) ∧ RowAt H a r
def TripAt (H : Hp) (q : Addr) (t : Trip) : Prop := H q = some (.tup [.str t.1, ov t.2.1, ov t.2.2])
theorem PairAt.keep {H H' : Hp} {q : Addr} {r : Row} (k : KeepT H H') (h : PairAt H q r) : PairAt H' q r := let ⟨a, e, z⟩ := h; ⟨a, k _ _ e, k _ _ z⟩
theorem TripAt.keep {H H' : Hp} {q : Addr} {t : Trip} (k : KeepT H H') (h : TripAt H q t) : TripAt H' q t := k _ _ h
theorem paired_imp {α β : Type} {F G : α → β → Prop} (h : ∀ a b, F a b → G a b) : ∀ {l : List α} {m : List β}, Paired F l m → Paired G l m
  | _, _, .nil => .nil
  | _, _, .cons x y => .cons (h _ _ x) (paired_imp h y)
theorem paired_get {α β : Type} {F : α → β → Prop} : ∀ {l : List α} {m : List β} {i : Nat} {a : α}, Paired F l m → l[i]? = some a → ∃ b, m[i]? = some b ∧ F a b
  | _, _, 0, _, .cons x y, h => by cases h; exact ⟨_, rfl, x⟩
  | _, _, i + 1, _, .cons x y, h => paired_get (i := i) y (by simpa using h)
theorem paired_len {α β : Type} {F : α → β → Prop} : ∀ {l : List α} {m : List β}, Paired F l m → l.length = m.length
  | _, _, .nil => rfl
  | _, _, .cons _ y => congrArg (· + 1) (paired_len y)
/-- kinds that belong together -/
structure TripOk (names : List Str) (both : Bool) (ts : List Trip) : Prop where
  ne : ts ≠ []
  few : ts.length ≤ 4
  first : ts.map (·.1) = names.take ts.length
  back : ∀ t ∈ ts, ∀ x, t.2.1 = some x → ∃ u ∈ ts, u.1 = x ∧ u.2.1 = some t.1
  mirror : ∀ t ∈ ts, ∀ x, t.2.2 = some x → ∃ u ∈ ts, u.1 = x ∧ u.2.2 = some t.1
  agree : ∀ t ∈ ts, ∀ x y, t.2.1 = some x → t.2.2 = some y → ∃ u ∈ ts, ∃ w ∈ ts, u.1 = x ∧ w.1 = y ∧ u.2.2 ≠ none ∧ u.2.2 = w.2.1
  sides : both = true → ∀ t ∈ ts, t.2.1 ≠ none ∧ t.2.2 ≠ none
structure GroupOk (names : List Str) (t m : Int) (both : Bool) (rs : List Row) : Prop where
  trip : TripOk names both (rs.map Row.trip)
  row : ∀ r ∈ rs, r.takes = t ∧ r.makes = m ∧ 0 ≤ r.yarn ∧ r.yarn ≤ 3
theorem ok4 {a b c d : Str} {ns : List Str} {both : Bool} : TripOk (a :: b :: c :: d :: ns) both [(a, some b, some c), (b, some a, some d), (c, some d, some a), (d, some c, some b)] := by
  constructor <;> simp
theorem ok2 {a b : Str} {ns : List Str} {both : Bool} : TripOk (a :: b :: ns) both [(a, some b, some a), (b, some a, some b)] := by
  constructor <;> simp
theorem ok3 {a b : Str} {ns : List Str} {both : Bool} : TripOk (a :: b :: ns) both [(a, some b, some b), (b, some a, some a)] := by
  constructor <;> simp
theorem ok5 {a b : Str} {ns : List Str} : TripOk (a :: b :: ns) false [(a, none, some b), (b, none, some a)] := by
  constructor <;> simp
theorem ok1 {a : Str} {ns : List Str} {both : Bool} {x y : Option Str} (hx : x = none ∨ x = some a) (hy : y = none ∨ y = some a) (h : both = true → x ≠ none ∧ y ≠ none) : TripOk (a :: ns) both [(a, x, y)] := by
  rcases hx with rfl | rfl <;> rcases hy with rfl | rfl <;> constructor <;> simp_all
def spGroup (K : PySem.W.Frag) : Sp := fun vs H Q _ => ∃ (p l sh : Addr) (names : List Str) (t m : Int) (both : Bool), vs = [.ref p, .ref l, .ref sh, .bl both] ∧ Pot H p ∧ SqL K H l (names.map V.str) ∧ l ≠ p ∧ H sh = some (.tup [.int t, .int m]) ∧
  names ≠ [] ∧ names.length ≤ 1000 ∧ ∀ q ps rs H', H q = none → H' q = some (.lst (ps.map V.ref)) → Paired (PairAt H') ps rs → GroupOk names t m both rs → Pot H' p → But p H H' → Q (.ref q) H'
end N

set_option maxHeartbeats 4000000
namespace N
open PySem L2
theorem cons1 {α : Type} {l : List α} (h : l ≠ []) : ∃ a r, l = a :: r := by
  cases l with
  | nil => exact absurd rfl h
  | cons a r => exact ⟨a, r, rfl⟩
theorem cons2 {α : Type} {l : List α} (h : 2 ≤ l.length) : ∃ a b r, l = a :: b :: r := by
  obtain ⟨a, r, rfl⟩ := cons1 (l := l) (fun z => by rw [z] at h; cases h)
  obtain ⟨b, r, rfl⟩ := cons1 (l := r) (fun z => by rw [z] at h; simp at h)
  exact ⟨a, b, r, rfl⟩
theorem cons4 {α : Type} {l : List α} (h : 4 ≤ l.length) : ∃ a b c d r, l = a :: b :: c :: d :: r := by
  obtain ⟨a, b, r, rfl⟩ := cons2 (l := l) (by omega)
  obtain ⟨c, d, r, rfl⟩ := cons2 (l := r) (by simp at h; omega)
  exact ⟨a, b, c, d, r, rfl⟩
/-- a test, and the two ways behind it -/
theorem ifs_cut {tt : TT} {t u : TS} {D : Ends} {σ : St} {H : Hp} (J : Bool → Hp → Prop) (h1 : ∀ R : Bool → Hp → Prop, (∀ b H', J b H' → R b H') → tt σ H R) (h2 : ∀ H', J true H' → t D σ H') (h3 : ∀ H', J false H' → u D σ H') : tIfS tt t u D σ H :=
  h1 _ fun b H' j => by
    cases b
    · exact h3 H' j
    · exact h2 H' j
/-- what stays while a group is made -/
structure Fac (p y : Addr) (ys : List Int) (H H' : Hp) : Prop where
  pot : Pot H' p
  but : But p H H'
  yarn : H' y = some (.lst (ys.map V.int))
theorem Fac.new {p y q : Addr} {ys : List Int} {H H' : Hp} {o : HO} (f : Fac p y ys H H') (hq : H' q = none) : Fac p y ys H (L2.upd H' q o) :=
  ⟨f.pot.new hq, f.but.trans (But.new hq), (upd_ne (ne_of_none f.yarn hq)).trans f.yarn⟩
theorem Fac.mut {p y q : Addr} {ys : List Int} {H H' : Hp} {o : HO} (f : Fac p y ys H H') (hq : H q = none) (qp : q ≠ p) (qy : q ≠ y) : Fac p y ys H (L2.upd H' q o) := by
  obtain ⟨⟨a, b, e, r⟩, e2, e3⟩ := f
  exact ⟨⟨a, b, (upd_ne qp.symm).trans e, r⟩, fun c u hc n => (upd_ne (ne_of_none hc hq)).trans (e2 c u hc n), (upd_ne qy.symm).trans e3⟩
theorem map_at {α β : Type} {f : α → β} {l : List α} {i : Nat} {x : β} (h : (l.map f)[i]? = some x) : ∃ a, l[i]? = some a ∧ x = f a := by
  rw [List.getElem?_map] at h
  cases e : l[i]? with
  | none => rw [e] at h; cases h
  | some a => rw [e] at h; cases h; exact ⟨a, rfl, rfl⟩
theorem ints_of {S : Int → Prop} : ∀ {ys : List V}, (∀ y ∈ ys, ∃ z : Int, y = .int z ∧ S z) → ∃ zs : List Int, ys = zs.map V.int ∧ ∀ z ∈ zs, S z
  | [], _ => ⟨[], rfl, fun _ h => nomatch h⟩
  | y :: ys, h => by
    obtain ⟨z, rfl, hz⟩ := h y (.head _)
    obtain ⟨zs, rfl, hzs⟩ := ints_of fun y hy => h y (.tail _ hy)
    exact ⟨z :: zs, rfl, fun x hx => by
      rcases List.mem_cons.mp hx with e | hx
      · rw [e]; exact hz
      · exact hzs x hx⟩
section
variable {P : Program} {w : World} {K : PySem.W.Frag} {mg : Str → Option Value} {base : Heap}
end
end N

set_option maxHeartbeats 4000000
namespace N
open PySem L2
/-! ### dicts of new keys -/
theorem valV_no {k : Key} : ∀ {kvs : List (Key × V)}, (∀ q ∈ kvs, q.1 ≠ k) → valV kvs k = none
  | [], _ => rfl
  | q :: r, h => by
    rw [valV_neg (h q (.head _))]
    exact valV_no fun x hx => h x (.tail _ hx)
theorem mergeK_app : ∀ {more kvs : List (Key × V)}, (∀ x ∈ more, ∀ q ∈ kvs, q.1 ≠ x.1) → (more.map (·.1)).Nodup → mergeK kvs more = kvs ++ more
  | [], kvs, _, _ => (List.append_nil _).symm
  | x :: r, kvs, h, nd => by
    show mergeK (putK kvs x.1 x.2) r = _
    rw [putK_new _ (valV_no fun q hq => h x (.head _) q hq)]
    rw [List.map_cons, List.nodup_cons] at nd
    rw [mergeK_app (fun y hy q hq => ?_) nd.2, List.append_assoc]
    · rfl
    · rcases List.mem_append.mp hq with hq | hq
      · exact h y (.tail _ hy) q hq
      · rw [List.mem_singleton.mp hq]
        exact fun z => nd.1 (z ▸ List.mem_map_of_mem hy)
theorem nodup_map {α β : Type} {f : α → β} (inj : ∀ a b, f a = f b → a = b) : ∀ {l : List α}, l.Nodup → (l.map f).Nodup
  | [], _ => .nil
  | a :: l, h => by
    rw [List.nodup_cons] at h
    rw [List.map_cons, List.nodup_cons]
    refine ⟨fun z => ?_, nodup_map inj h.2⟩
    obtain ⟨b, hb, e⟩ := List.mem_map.mp z
    exact h.1 (inj _ _ e ▸ hb)
def KvAt (H : Hp) (kv : Key × V) (r : Row) : Prop := ∃ a, kv = (.inr r.name, .ref a) ∧ RowAt H a r
theorem KvAt.keep {H H' : Hp} {q : Key × V} {r : Row} (k : KeepT H H') (h : KvAt H q r) : KvAt H' q r := let ⟨a, e, z⟩ := h; ⟨a, e, k _ _ z⟩
theorem kvs_keys {H : Hp} : ∀ {kvs : List (Key × V)} {rs : List Row}, Paired (KvAt H) kvs rs → kvs.map (·.1) = rs.map fun r => (.inr r.name : Key)
  | _, _, .nil => rfl
  | _, _, .cons ⟨_, e, _⟩ y => by rw [List.map_cons, List.map_cons, kvs_keys y, e]
theorem kvs_of {K : PySem.W.Frag} {H : Hp} : ∀ {ps : List Addr} {rs : List Row}, Paired (PairAt H) ps rs → ∃ kvs : List (Key × V), Paired (fun p kv => SqT K H p [kV kv.1, kv.2]) ps kvs ∧ Paired (KvAt H) kvs rs
  | _, _, .nil => ⟨[], .nil, .nil⟩
  | _, _, .cons (b := r) ⟨a, e, ra⟩ y => by
    obtain ⟨kvs, h1, h2⟩ := kvs_of (K := K) y
    exact ⟨(.inr r.name, .ref a) :: kvs, .cons (SqT.of e) h1, .cons ⟨a, rfl, ra⟩ h2⟩
theorem paired_app {α β : Type} {F : α → β → Prop} : ∀ {l l' : List α} {m m' : List β}, Paired F l m → Paired F l' m' → Paired F (l ++ l') (m ++ m')
  | _, _, _, _, .nil, h => h
  | _, _, _, _, .cons x y, h => .cons x (paired_app y h)
/-! ### books -/
def ten : List Str := ["k", "p", "yo", "ktog", "ssk", "zz", "abcdefgh", "a", "end", "to"]
def shapes : List (Int × Int) := [(2, 1), (0, 1), (1, 2), (1, 0), (3, 1), (1, 1), (2, 2), (6, 5)]
/-- what holds of a part of a book, and of the whole -/
structure PartOk (both : Bool) (rs : List Row) : Prop where
  back : ∀ r ∈ rs, ∀ x, r.back = some x → ∃ u ∈ rs, u.name = x ∧ u.back = some r.name ∧ u.takes = r.takes ∧ u.makes = r.makes
  mirror : ∀ r ∈ rs, ∀ x, r.mirror = some x → ∃ u ∈ rs, u.name = x ∧ u.mirror = some r.name ∧ u.takes = r.takes ∧ u.makes = r.makes
  agree : ∀ r ∈ rs, ∀ x y, r.back = some x → r.mirror = some y → ∃ u ∈ rs, ∃ w ∈ rs, u.name = x ∧ w.name = y ∧ u.mirror ≠ none ∧ u.mirror = w.back
  sides : both = true → ∀ r ∈ rs, r.back ≠ none ∧ r.mirror ≠ none
  shape : ∀ r ∈ rs, (r.takes, r.makes) ∈ shapes
  yarn : ∀ r ∈ rs, 0 ≤ r.yarn ∧ r.yarn ≤ 3
theorem PartOk.nil {both : Bool} : PartOk both [] := by constructor <;> intros <;> contradiction
theorem PartOk.app {both : Bool} {rs ss : List Row} (a : PartOk both rs) (b : PartOk both ss) : PartOk both (rs ++ ss) where
  back r hr x hx := by
    rcases List.mem_append.mp hr with h | h
    · obtain ⟨u, hu, z⟩ := a.back r h x hx; exact ⟨u, List.mem_append_left _ hu, z⟩
    · obtain ⟨u, hu, z⟩ := b.back r h x hx; exact ⟨u, List.mem_append_right _ hu, z⟩
  mirror r hr x hx := by
    rcases List.mem_append.mp hr with h | h
    · obtain ⟨u, hu, z⟩ := a.mirror r h x hx; exact ⟨u, List.mem_append_left _ hu, z⟩
    · obtain ⟨u, hu, z⟩ := b.mirror r h x hx; exact ⟨u, List.mem_append_right _ hu, z⟩
  agree r hr x y hx hy := by
    rcases List.mem_append.mp hr with h | h
    · obtain ⟨u, hu, w, hw, z⟩ := a.agree r h x y hx hy; exact ⟨u, List.mem_append_left _ hu, w, List.mem_append_left _ hw, z⟩
    · obtain ⟨u, hu, w, hw, z⟩ := b.agree r h x y hx hy; exact ⟨u, List.mem_append_right _ hu, w, List.mem_append_right _ hw, z⟩
  sides hb r hr := (List.mem_append.mp hr).elim (a.sides hb r) (b.sides hb r)
  shape r hr := (List.mem_append.mp hr).elim (a.shape r) (b.shape r)
  yarn r hr := (List.mem_append.mp hr).elim (a.yarn r) (b.yarn r)
theorem GroupOk.part {names : List Str} {t m : Int} {both : Bool} {rs : List Row} (g : GroupOk names t m both rs) (hs : (t, m) ∈ shapes) : PartOk both rs := by
  have up : ∀ {u : Trip}, u ∈ rs.map Row.trip → ∃ r ∈ rs, r.trip = u := fun h => List.mem_map.mp h
  have dn : ∀ {r : Row}, r ∈ rs → r.trip ∈ rs.map Row.trip := fun h => List.mem_map_of_mem h
  refine ⟨fun r hr x hx => ?_, fun r hr x hx => ?_, fun r hr x y hx hy => ?_, fun hb r hr => g.trip.sides hb _ (dn hr), fun r hr => ?_, fun r hr => ?_⟩
  · obtain ⟨u, hu, e1, e2⟩ := g.trip.back _ (dn hr) x hx
    obtain ⟨w, hw, rfl⟩ := up hu
    exact ⟨w, hw, e1, e2, by rw [(g.row w hw).1, (g.row r hr).1], by rw [(g.row w hw).2.1, (g.row r hr).2.1]⟩
  · obtain ⟨u, hu, e1, e2⟩ := g.trip.mirror _ (dn hr) x hx
    obtain ⟨w, hw, rfl⟩ := up hu
    exact ⟨w, hw, e1, e2, by rw [(g.row w hw).1, (g.row r hr).1], by rw [(g.row w hw).2.1, (g.row r hr).2.1]⟩
  · obtain ⟨u, hu, w, hw, z⟩ := g.trip.agree _ (dn hr) x y hx hy
    obtain ⟨u', hu', rfl⟩ := up hu
    obtain ⟨w', hw', rfl⟩ := up hw
    exact ⟨u', hu', w', hw', z⟩
  · rw [(g.row r hr).1, (g.row r hr).2.1]
    exact hs
  · exact (g.row r hr).2.2
structure BookOk (both : Bool) (rs : List Row) : Prop where
  part : PartOk both rs
  names : (rs.map (·.name)).Perm ten
  plain : ∃ r ∈ rs, r.takes = 1 ∧ r.makes = 1
def spBook : Sp := fun vs H Q _ => ∃ (p : Addr) (both : Bool), vs = [.ref p, .bl both] ∧ Pot H p ∧
  ∀ d kvs rs H', H d = none → H' d = some (.dK kvs) → Paired (KvAt H') kvs rs → BookOk both rs → Pot H' p → But p H H' → Q (.ref d) H'
theorem eqv_nil (ds : List PyData) : PyData.eqv (.list ds) (.list []) = ds.isEmpty := by
  cases ds <;> rfl
theorem cut_from {xs : List V} {k : Nat} (h : k ≤ xs.length) : cutV xs (some (k : Int)) none = xs.drop k := by
  unfold cutV
  rw [HT.sIx_nat, HT.sIx_none, Nat.min_eq_left h]
  exact List.take_of_length_le (by rw [List.length_drop]; exact Nat.le_refl _)
theorem strs_of : ∀ {ys : List V}, (∀ y ∈ ys, ∃ s : Str, y = .str s) → ∃ ss : List Str, ys = ss.map V.str
  | [], _ => ⟨[], rfl⟩
  | y :: ys, h => by
    obtain ⟨s, rfl⟩ := h y (.head _)
    obtain ⟨ss, rfl⟩ := strs_of fun y hy => h y (.tail _ hy)
    exact ⟨s :: ss, rfl⟩
def unstr : V → Str
  | .str s => s
  | _ => ""
theorem perm_strs {ys : List V} {ss : List Str} (h : ys.Perm (ss.map V.str)) : ∃ ms : List Str, ys = ms.map V.str ∧ ms.Perm ss := by
  obtain ⟨ms, rfl⟩ := strs_of (ys := ys) fun y hy => by
    obtain ⟨s, _, e⟩ := List.mem_map.mp (h.mem_iff.mp hy)
    exact ⟨s, e.symm⟩
  refine ⟨ms, rfl, ?_⟩
  have q := h.map unstr
  rw [List.map_map, List.map_map] at q
  have e : unstr ∘ V.str = id := rfl
  rw [e, List.map_id, List.map_id] at q
  exact q
theorem dp_strs {K : PySem.W.Frag} {H : Hp} : ∀ ss : List Str, DpAll K H (ss.map V.str) (ss.map PyData.str)
  | [] => .nil
  | _ :: ss => .cons (.str _) (dp_strs ss)
theorem lay_strs : ∀ {ss : List Str}, (∀ s ∈ ss, PyData.strOk s = true) → PyData.canLayAll0 (ss.map PyData.str) = true ∧ PyData.depthAll (ss.map PyData.str) = 0
  | [], _ => ⟨rfl, rfl⟩
  | s :: ss, h => by
    obtain ⟨a, b⟩ := lay_strs (ss := ss) fun x hx => h x (.tail _ hx)
    exact ⟨by simp [PyData.canLayAll0, PyData.canLay0, a, h s (.head _)], by simp [PyData.depthAll, PyData.depth, b]⟩
theorem shaped_strs {ss : List Str} (h : ∀ s ∈ ss, PyData.strOk s = true) : SeqAt.shaped (.list (ss.map PyData.str)) = true := by
  obtain ⟨a, b⟩ := lay_strs h
  simp [SeqAt.shaped, PyData.canLay0, PyData.depth, a, b]
theorem ten_ok : ∀ s ∈ ten, PyData.strOk s = true := by decide +kernel
theorem ten_nodup : ten.Nodup := by decide +kernel
def ShapeAt (H : Hp) (u : Addr) (s : Int × Int) : Prop := H u = some (.tup [.int s.1, .int s.2])
/-- what stands while the book is made -/
structure Inn (p nl d sl : Addr) (rem : List Str) (kvs : List (Key × V)) (rs : List Row) (us : List Addr) (H H' : Hp) : Prop where
  names : H' nl = some (.lst (rem.map V.str))
  found : H' d = some (.dK kvs)
  rows : Paired (KvAt H') kvs rs
  pot : Pot H' p
  but : But p H H'
  menu : H' sl = some (.lst (us.map V.ref))
  shape : Paired (ShapeAt H') us shapes
theorem Inn.step {p nl d sl : Addr} {rem : List Str} {kvs : List (Key × V)} {rs : List Row} {us : List Addr} {H H1 H2 : Hp} (i : Inn p nl d sl rem kvs rs us H H1) (np : nl ≠ p) (dp : d ≠ p) (sp : sl ≠ p) (e : But p H1 H2) (hp : Pot H2 p) : Inn p nl d sl rem kvs rs us H H2 :=
  ⟨e _ _ i.names np, e _ _ i.found dp, paired_imp (fun _ _ => KvAt.keep (KeepT.but i.pot e)) i.rows, hp, i.but.trans e, e _ _ i.menu sp, paired_imp (fun _ _ h => KeepT.but i.pot e _ _ h) i.shape⟩
section
variable {P : Program} {w : World} {K : PySem.W.Frag} {mg : Str → Option Value} {base : Heap}
end
end N

set_option maxHeartbeats 4000000
/-! own errors with one field: raised, and caught by several named clauses -/
namespace L2
open PySem PySem.Spec PyProof.Rows
/-- the class, as it stands behind the top: its name x, its field f -/
structure ErrC (K : PySem.W.Frag) (mg : Str → Option Value) (x f : Str) (C : Addr) (st : Stmt) (qual : Str) : Prop where
  o : OexC K C
  r : XfC K C
  g : mg x = some (.ref C)
  no : PySem.W.findIn K (.ref C) f = some none
  ini : ∃ (fI : Addr) (fd : FuncData), PySem.W.findIn K (.ref C) "__init__" = some (some (.ref fI)) ∧ PySem.W.typeIn K (.ref fI) = some (.type "function") ∧ Fun K "__init__" qual st fI fd
/-- what its __init__ promises -/
def spErr (f : Str) (C : Addr) : Sp := fun vs H Q _ => ∃ (a : Addr) (v : V), vs = [.ref a, v] ∧ H a = some (exo a C none) ∧ ∀ d, H d = none → d ≠ a → Q .non (upd (upd H d (exd d [(f, v)])) a (exo a C (some d)))
/-- the heap behind an error's making -/
theorem err_heap {H1 : Hp} {a d C : Addr} {o : HO} {u v : HO} (ha : H1 a = none) (hd : d ≠ a) : upd (del (upd (upd (upd H1 a u) d v) a (exo a C (some d))) a) d o = upd H1 d o := by
  funext b
  by_cases e : b = d
  · rw [e, upd_same, upd_same]
  · rw [upd_ne e, upd_ne e]
    by_cases z : b = a
    · rw [z, del_same, ha]
    · rw [del_ne z, upd_ne z, upd_ne e, upd_ne z]
/-- a monotone reading of the same arguments -/
theorem PA.up {X : Cx} {es : List Expr} {t : TA} (h : PA X es t) : PA X es (fun σ H Q => ∃ Q0 : List V → Hp → Prop, t σ H Q0 ∧ ∀ vs H1, Q0 vs H1 → Q vs H1) :=
  ⟨fun pos pins s σ H Q I q => by
    obtain ⟨Q0, q1, q2⟩ := q
    exact wpAny_mono (h.run pos pins s σ H Q0 I q1) (fun us s' z => let ⟨vs, H1, I1, r, q3⟩ := z; ⟨vs, H1, I1, r, q2 _ _ q3⟩) fun _ _ z => z⟩
def tErr (f : Str) (C : Addr) (t : TA) : St → Hp → XK → Prop := fun σ H Q => t σ H fun vs H1 => ∃ v, vs = [v] ∧ ∀ d, H1 d = none → Q (.ref C) (some d) (upd H1 d (.xd [(f, v)]))
section
variable {X : Cx} {x f qual : Str} {C : Addr} {st : Stmt} {p pos pos2 : Pos} {e : Expr} {t : TA} {W : WX}
theorem pmk_err (T : ErrC X.K X.mg x f C st qual) (F : ∀ fI fd, Fun X.K "__init__" qual st fI fd → FnOk X.prog X.w X.K X.mg X.base CX0 1 fI fd ["self", f] (spErr f C) ∧ Binds X.K fd ["self", f] []) (hr : Room 2 X.A) (ha : PA X [e] t) (hg : Gl X x := by rfl)
    (hdb : (x == ("__debug__" : Str)) = false := by decide) (he : starEach (e :: []) X.env = (false, eval e X.env) :: starEach [] X.env := by rfl) (hpl : (backTo pos (starEach [] X.env)).any (·.1) = false := by rfl) :
    PMk X (.Call (.Name x p) [e] [] pos) (tErr f C t) := by
  intro pins s σ H Q I h
  obtain ⟨fI, fd, i1, i2, i3⟩ := T.ini
  obtain ⟨f1, f2⟩ := F fI fd i3
  refine pmk_oex T.o i1 i2 f1 hr f2 .nil pass0 hg T.g ha.up hdb he hpl pins s σ H Q I ⟨_, h, fun vs H1 q => ?_⟩
  obtain ⟨v, rfl, q⟩ := q
  refine ⟨by show 1 ≤ 1000; decide, fun a na => ⟨a, v, rfl, upd_same, fun d hd ne => ⟨rfl, d, [(f, v)], upd_same, ?_, ?_, ?_⟩⟩⟩
  · exact (upd_ne ne).trans upd_same
  · rw [upd_ne ne] at hd
    exact hd
  · rw [upd_ne ne] at hd
    rw [err_heap na ne]
    exact q d hd
theorem ps_raiseE (hc : X.calm = true) (T : ErrC X.K X.mg x f C st qual) (F : ∀ fI fd, Fun X.K "__init__" qual st fI fd → FnOk X.prog X.w X.K X.mg X.base CX0 1 fI fd ["self", f] (spErr f C) ∧ Binds X.K fd ["self", f] []) (hr : Room 2 X.A) (tk : Takes X W) (ha : PA X [e] t) (hg : Gl X x := by rfl)
    (hdb : (x == ("__debug__" : Str)) = false := by decide) (he : starEach (e :: []) X.env = (false, eval e X.env) :: starEach [] X.env := by rfl) (hpl : (backTo pos (starEach [] X.env)).any (·.1) = false := by rfl) :
    PS X (.Raise (some (.Call (.Name x p) [e] [] pos)) none pos2) (fun _ σ H => tErr f C t σ H fun c d H' => W c d σ H') := ps_raise hc tk (pmk_err T F hr ha hg hdb he hpl)
end
end L2

set_option maxHeartbeats 4000000
/-! try: .. except A as n: .. except B as n: ..  (one name, several clauses) -/
namespace L2
open PySem PySem.Spec PyProof.Rows
abbrev Suite := Addr → Value → Option Addr → TS
/-- the ends of a suite whose error stands in slot i: behind it the slot is empty -/
def endsAs (i : Nat) (D : Ends) : Ends where
  nx := fun τ G => D.nx (τ.set i none) G
  rt := D.rt
  bk := fun τ G => D.bk (τ.set i none) G
  ct := fun τ G => D.ct (τ.set i none) G
/-- what the clauses wish, the first that fits -/
def wAses (K : PySem.W.Frag) (i : Nat) (Wo : WX) (D : Ends) : List (Value × Suite) → WX
  | [] => Wo
  | (c, ts) :: r => fun k d τ G => ∃ b, PySem.W.exmOne K k c = some b ∧ (b = true → ∀ a, G a = none → ts a k d (endsAs i D) (τ.set i (some (.ref a))) G) ∧ (b = false → wAses K i Wo D r k d τ G)
inductive Clauses (X : Cx) (n : Str) : List ExceptHandler → List (Value × Suite) → Prop
  | nil : Clauses X n [] []
  | cons {x : Str} {c : Value} {ts : Suite} {b₀ : Stmt} {bs : List Stmt} {q1 q2 : Pos} {hs : List ExceptHandler} {l : List (Value × Suite)} (names : Names X x c)
      (suite : ∀ (a : Addr) (o : Obj) (k : Value) (d : Option Addr) (pn : List (Addr × Obj)), Zc k d o → (∃ vs, o.data = .fields vs) → PSs (X.suite a ((a, o) :: pn)) (b₀ :: bs) (ts a k d)) (rest : Clauses X n hs l) :
      Clauses X n (.ExceptHandler (some (.Name x q1)) (some n) (b₀ :: bs) q2 :: hs) ((c, ts) :: l)
/-- an error that has landed in the frame of X -/
structure Landed (X : Cx) (pins : List (Addr × Obj)) (τ : St) (G : Hp) (a : Addr) (k : Value) (d : Option Addr) (B : Heap) (sI s' : Shared) : Prop where
  inv : Inv X pins τ G sI
  nb : ∀ b o, sI.heap.get? b = some o → b ∉ frs X.stack → B.get? b = some o
  os : s'.os = sI.os
  ag : AllBare s'.gens
  na : G a = none
section
variable {X : Cx} {n : Str} {i : Nat} {hs : List ExceptHandler} {l : List (Value × Suite)} {Wo : WX} {pins : List (Addr × Obj)} {τ : St} {G : Hp} {a : Addr} {k : Value} {d : Option Addr} {B : Heap} {sI s' : Shared} {D : Ends}
theorem clauses_run (hst : X.stack = X.env :: X.outer) (hfr : X.env.frame = some X.env.locals) (nd : X.N.Nodup) (hi : X.N[i]? = some n) (loc : X.env.kindOf n = some .local) (tk : Takes X Wo) (L : Landed X pins τ G a k d B sI s') (hc : Clauses X n hs l) :
    ∀ {h : Heap}, HandSPX.FlyingZ B (X.env :: X.outer) a (Zc k d) h → sI.heap.UpToSlots h → wAses X.K i Wo D l k d τ G → wpAny (model X.prog X.w) X.A (handleBy (.ref a) X.env hs) (SP X pins D) X.xe { s' with heap := h } := by
  have ok := L.inv.ok
  induction hc with
  | nil =>
    intro h fl up w
    refine wpAny_handleBy_nil ?_
    obtain ⟨_, _, _, o, vs, T, oT, ts, e1, _, e2, e3, _⟩ := id fl
    unfold PySem.passOn
    refine wpAny_bind (wpAny_field e1 e2 e3 ?_)
    rw [if_neg (by simp : ¬ ((Value.ref T == Value.none) = true))]
    have out : wpAny (model X.prog X.w) X.A (setFlight (.ref a) X.env.frame) (fun _ z => wpAny (model X.prog X.w) X.A (throw (.ref a) : Sem Flow) (SP X pins D) X.xe z) X.xe { s' with heap := h } := by
      rw [hfr]
      exact HandSPX.setFlight_upZ fl fun h4 held up4 => wpAny_throw (tk _ _ ⟨a, B, sI, pins, τ, G, k, d, rfl, L.inv, L.nb, up.trans up4, .inr (.inr (by rw [hst]; exact held)), L.na, L.os, L.ag, w⟩)
    first
      | exact wpAny_bind (wpAny_pure (wpAny_bind out))
      | exact wpAny_bind out
  | @cons x c ts b₀ bs q1 q2 hs2 l2 names suite rest ih =>
    intro h fl up w
    obtain ⟨b, hb, yes, no⟩ := w
    obtain ⟨o, vs, e1, z1, e2⟩ := fl.there
    -- the error's object is no frame
    have away : ∀ {h' : Heap} {o' : Obj} {ws : Array Value}, h'.FunFrames B (X.env :: X.outer) → h'.get? a = some o' → o'.data = .fields ws → a ≠ X.env.locals ∧ a ∉ X.fs := fun {h' o' ws} ff e dd => by
      have no' : a ∉ frs (X.env :: X.outer) := fun m => by
        obtain ⟨_, o2, e', nf⟩ := ff.mem m
        rw [e] at e'
        cases e'
        exact nf _ dd
      refine ⟨fun z => no' (List.mem_filterMap.mpr ⟨X.env, List.mem_cons_self, by rw [hfr, z]⟩), fun m => ?_⟩
      obtain ⟨v, hv, q⟩ := List.mem_filterMap.mp m
      exact no' (List.mem_filterMap.mpr ⟨v, List.mem_cons_of_mem _ hv, q⟩)
    have J : Inv X pins τ G { s' with heap := h } := L.inv.landed L.nb fl.1 up L.os L.ag
    obtain ⟨nL, nF⟩ := away fl.2.2.1 e1 e2
    have S := J.suite e1 e2 L.na nL nF
    refine wpAny_handleBy_cons (codeAny_handlers_test ?_) (by intro q; cases q)
    have ty : PySem.W.Looks (model X.prog X.w) h (typeOf (.ref a)) k := fun _ _ _ _ kp q => wpAny_typeOf_ref (kp _ _ e1) (by rw [z1.1]; exact q)
    have fits := PySem.W.exm_one (M := model X.prog X.w) J.kIn ty hb
    have cls : ∀ {Q E : Value → Shared → Prop}, Q c { s' with heap := h } → wpAny (model X.prog X.w) (X.A.mark (some (.ref a))) (eval (.Name x q1) X.env) Q E { s' with heap := h } := fun {Q E} q => by
      obtain ⟨g1, g2, g3 | ⟨g3, g4, g5⟩⟩ := names
      · exact ld_glob (X := X.suite a ((a, o) :: (X.pn ++ pins))) S g1 g3 q g2
      · exact ld_blt (X := X.suite a ((a, o) :: (X.pn ++ pins))) S g1 g3 g4 q g5 g2
    refine cls (fits.here ?_)
    cases b with
    | false =>
      show wpAny _ X.A (handleBy (.ref a) X.env hs2) _ _ _
      exact ih fl up (no rfl)
    | true =>
      refine codeAny_handlers_suite_as (HandSPX.lands_againZ fl fun h4 fl4 up4 => ?_)
      have J4 : Inv X pins τ G { s' with heap := h4 } := L.inv.landed L.nb fl4.1 (up.trans up4) L.os L.ag
      obtain ⟨o4, vs4, f1, z4, f2⟩ := fl4.there
      have S4 := J4.suite f1 f2 L.na nL nF
      refine store_ok (X := X.suite a ((a, o4) :: (X.pn ++ pins))) (v := .ref a) S4 nd hi (.inl loc) rfl (fun s5 S5 => ?_) (.inr loc)
      refine wpAny_mono ((suite a o4 k d (X.pn ++ pins) z4 ⟨_, f2⟩).run [] s5 _ G _ S5 (yes rfl a L.na)) (fun f s6 hsp => ?_) (fun _ _ z => False.elim z)
      have fin : ∀ {τ6 : St} {G6 : Hp} {Q : Shared → Prop}, Inv (X.suite a ((a, o4) :: (X.pn ++ pins))) [] τ6 G6 s6 → (∀ s7, Inv X pins (τ6.set i none) G6 s7 → Q s7) →
          wpAny (model X.prog X.w) X.A (do bindName X.env n .none; unbindBehindTheSuite X.env n q2) (fun _ z => Q z) X.xe s6 := fun {τ6 G6 Q} S6 hq => gone_ok (S6.unsuite ok) nd hi loc hq
      match f, hsp with
      | .next, ⟨_, _, S6, q⟩ => exact fin S6 fun _ J7 => ⟨_, _, J7, q⟩
      | .brk, ⟨_, _, S6, q⟩ => exact fin S6 fun _ J7 => ⟨_, _, J7, q⟩
      | .cont, ⟨_, _, S6, q⟩ => exact fin S6 fun _ J7 => ⟨_, _, J7, q⟩
      | .ret u, ⟨_, _, _, S6, r, q⟩ => exact fin S6 fun _ J7 => ⟨_, _, _, J7, r, q⟩
end
section
variable {X : Cx} {n : Str} {i : Nat} {h₀ : ExceptHandler} {hs : List ExceptHandler} {l : List (Value × Suite)} {Wo : WX} {body : List Stmt} {tb : WX → TS} {pos : Pos}
theorem ps_try_ases (hst : X.stack = X.env :: X.outer) (hfr : X.env.frame = some X.env.locals) (nd : X.N.Nodup) (hi : X.N[i]? = some n) (loc : X.env.kindOf n = some .local) (tk : Takes X Wo)
    (hb : ∀ (W : WX) (pn : List (Addr × Obj)) (xe : Value → Shared → Prop), Takes (X.tr pn xe) W → PassesOwn (model X.prog X.w) X.A X.env xe → PSs (X.tr pn xe) body (tb W)) (hc : Clauses X n (h₀ :: hs) l) :
    PS X (.Try body (h₀ :: hs) [] [] pos) (fun D σ H => tb (wAses X.K i Wo D l) D σ H) := by
  refine ⟨fun pins s σ H D I q => ?_⟩
  have ok := I.ok
  have frames : X.A.frames = some (X.env :: X.outer) := by rw [ok.frames, hst]
  let xe : Value → Shared → Prop := fun e s1 => wpAny (model X.prog X.w) X.A (noteFrame e X.env) (fun _ s2 => wpAny (model X.prog X.w) X.A (setFlight e none) (fun _ s3 => wpAny (model X.prog X.w) X.A (handleBy e X.env (h₀ :: hs)) (SP X pins D) X.xe s3) X.xe s2) X.xe s1
  have caught : Takes (X.tr (X.pn ++ pins) xe) (wAses X.K i Wo D l) := fun u s' z => by
    obtain ⟨a, B, sI, pins', τ, G, k, d, rfl, J', nb, up, sky, na, os, ag, w⟩ := z
    refine Sky.land Zc.steady frames hfr (by rw [← hst]; exact sky) fun h3 fl up3 => ?_
    exact clauses_run hst hfr nd hi loc tk ⟨J'.ofTry ok, nb, os, ag, na⟩ hc fl (up.trans up3) w
  refine wpAny_Try_except (wpAny_mono ((hb _ (X.pn ++ pins) xe caught PassesOwn.looking).run [] s σ H D (I.toTry _) q) (fun f s1 z => ?_) fun _ _ z => z)
  match f, z with
  | .next, ⟨_, _, J, w⟩ => exact wpAny_execs_nil ⟨_, _, J.ofTry ok, w⟩
  | .brk, ⟨_, _, J, w⟩ => exact ⟨_, _, J.ofTry ok, w⟩
  | .cont, ⟨_, _, J, w⟩ => exact ⟨_, _, J.ofTry ok, w⟩
  | .ret u, ⟨_, _, _, J, r, w⟩ => exact ⟨_, _, _, J.ofTry ok, r, w⟩
end
end L2

set_option maxHeartbeats 4000000
/-! the end of a law row whose defs make lambdas: the tables of code objects, where no guard stands -/
namespace L2
open PySem PySem.Spec PyProof.Rows
abbrev emptyTab : Obj := { cls := .none, data := .fields #[] }
/-- an abstract heap with the tables at the addresses of T -/
def withTabs (T : List Addr) (H : Hp) : Hp := fun b => if b ∈ T then some (.tbl #[]) else H b
theorem withTabs_in {T : List Addr} {H : Hp} {b : Addr} (h : b ∈ T) : withTabs T H b = some (.tbl #[]) := if_pos h
theorem withTabs_out {T : List Addr} {H : Hp} {b : Addr} (h : b ∉ T) : withTabs T H b = H b := if_neg h
theorem law_callGT {P : Program} {w : World} {K : PySem.W.Frag} {mg mb : Str → Option Value} {k : Nat} {fa a : Addr} {fd : FuncData} {x : Str} {sp : Sp} {s : Shared} {vs : List Value} {ns : List Int} {cs : List (Addr × Addr)}
    (KX : K.In s.heap) (hns : s.heap.Ns mainGlobals mg) (hb : s.heap.Ns builtinsNs mb) (hbb : ∀ y : Str, y ≠ "__name__" → mb y = bootBuiltins y) (nl : s.heap.NoLimit) (hg : s.gens = #[])
    (tabs : ∀ p ∈ cs, s.heap.get? p.2 = some emptyTab) (loose : ∀ p ∈ cs, K.lookup p.2 = none) (codes : ∀ p ∈ cs, PySem.W.CodeHd s.heap p.1 p.2)
    (bm : ∃ (m : Addr) (ob : Obj), mg "__builtins__" = some (.ref m) ∧ m ≠ builtinsNs ∧ s.heap.get? m = some ob ∧ ob.cls = .type "module" ∧ ob.dict = some builtinsNs ∧ ob.data = .plain)
    (ha : s.heap.get? a = some { cls := .type "list", data := .seq vs.toArray }) (hi : IntsAre vs ns) (hl : ns.length ≤ sizeLine) (hr : Room k callerA)
    (F : ∀ base : Heap, K.In base → base.Ns mainGlobals mg → (∀ p ∈ cs, LamX.TabB base mg p.1 p.2) → FnG P w K mg base CX0 k fa fd [x] sp) (bind : ∀ (s : Shared) (u : Value), BindsTo s fd ⟨[u], []⟩ [(x, u)])
    (hsp : ∀ H : Hp, (∀ p ∈ cs, H p.2 = some (.tbl #[])) → SqL K H a (ns.map V.int) → sp [.ref a] H (fun v _ => v = .bl true) E0) :
    codeAny (model P w) callerA (.call (.ref fa) ⟨[.ref a], []⟩) (fun r s' => r = .ok (.ret (.bool true)) ∧ OldK s.heap s'.heap ∧ s'.os = s.os ∧ AllBare s'.gens) s := by
  obtain ⟨H0, only0, seq0, ok0, at0, out0⟩ := script_told (P := P) (w := w) KX ha hi hl
  let T : List Addr := cs.map (·.2)
  have isT : ∀ {b : Addr}, b ∈ T → s.heap.get? b = some emptyTab := fun hb => by
    obtain ⟨p, hp, e⟩ := List.mem_map.mp hb
    exact e ▸ tabs p hp
  have inT : ∀ {p : Addr × Addr}, p ∈ cs → p.2 ∈ T := fun hp => List.mem_map_of_mem hp
  have aT : a ∉ T := fun z => by
    have q := (isT z).symm.trans ha
    cases q
  let H : Hp := withTabs T H0
  have at_a : H a = H0 a := withTabs_out aT
  have seq : SqL K H a (ns.map V.int) := by
    rcases seq0 with (h | ⟨o, h⟩) | h
    · exact .inl (.inl (at_a.trans h))
    · exact .inl (.inr ⟨o, at_a.trans h⟩)
    · exact .inr h
  have where_ : ∀ b, H b ≠ none → b = a ∨ b ∈ T := fun b h => by
    by_cases z : b ∈ T
    · exact .inr z
    · exact .inl (at0 b (by rw [← withTabs_out (H := H0) z]; exact h))
  have ok : HOk P w H s.heap := fun b u e => by
    by_cases z : b ∈ T
    · have q : some (HO.tbl #[]) = some u := (withTabs_in z).symm.trans e
      cases q
      exact isT z
    · have q : H0 b = some u := (withTabs_out z).symm.trans e
      rcases only0 b with h | ⟨o, xs, h⟩
      · rw [h] at q; cases q
      · rw [h] at q
        cases q
        exact ok0 b _ h
  -- what is neither a list nor a table is in the ground
  have low : ∀ {b : Addr} {o : Obj}, s.heap.get? b = some o → (∀ us n, o.data ≠ .seq us n) → o.data ≠ .fields #[] → (hidT s.heap H).get? b = some o := fun {b o} e n1 n2 => hidT_get e (by
    cases q : H b with
    | none => rfl
    | some u =>
      rcases where_ b (by rw [q]; simp) with z | z
      · subst z
        rw [ha] at e
        cases e
        exact absurd rfl (n1 _ _)
      · rw [isT z] at e
        cases e
        exact absurd rfl n2)
  have dicts : ∀ {b : Addr} {m : Str → Option Value}, s.heap.Ns b m → (hidT s.heap H).Ns b m := fun n => by
    obtain ⟨o, es, ep, e, d, r⟩ := n
    exact ⟨o, es, ep, low e (fun us n z => by rw [d] at z; cases z) (fun z => by rw [d] at z; cases z), d, r⟩
  have hKb : K.In (hidT s.heap H) := fun b o e => hidT_get (KX b o e) (by
    cases q : H b with
    | none => rfl
    | some u =>
      rcases where_ b (by rw [q]; simp) with z | z
      · subst z
        rw [out0 (by rw [← at_a, q]; simp)] at e
        cases e
      · obtain ⟨p, hp, ep⟩ := List.mem_map.mp z
        rw [← ep, loose p hp] at e
        cases e)
  have tb : ∀ p ∈ cs, LamX.TabB (hidT s.heap H) mg p.1 p.2 := fun p hp => by
    refine ⟨?_, ?_, fun z => ?_⟩
    · obtain ⟨o, us, file, tf, fl, tg, inF, text, tt, e1, r1, r2, r3, r⟩ := codes p hp
      exact ⟨o, us, file, tf, fl, tg, inF, text, tt, low e1 (fun _ _ z => by rw [r2] at z; cases z) (fun z => by rw [r2] at z; cases z; simp at r3), r1, r2, r3, r⟩
    · obtain ⟨m, ob, b1, b2, b3, b4, b5, b6⟩ := bm
      refine ⟨m, ob, b1, b2, fun z => ?_, fun z => ?_, low b3 (fun _ _ z => by rw [b6] at z; cases z) (fun z => by rw [b6] at z; cases z), b4, b5, b6⟩
      · obtain ⟨o, es, ep, e, hd, _⟩ := hns
        rw [z, e] at b3
        cases b3
        rw [hd] at b6
        cases b6
      · rw [z, tabs p hp] at b3
        cases b3
        cases b6
    · obtain ⟨o, es, ep, e, hd, _⟩ := hns
      rw [z, tabs p hp] at e
      cases e
      cases hd
  obtain ⟨mc, n1, n2⟩ := nl
  have e0 : Env0 P w K mg (hidT s.heap H) callerA [] s H :=
    ⟨rfl, ⟨hKb, dicts hns, ⟨mb, dicts hb, hbb⟩, ⟨mc, dicts n1, n2⟩⟩, fun b o e => of_hidT e, Nat.le_of_eq (hidT_size _ _), trivial, fun b z => (nomatch z), ok, .of_eq hg⟩
  refine codeAny_mono ((F _ hKb (dicts hns) tb).run callerA [] s H ⟨[.ref a], []⟩ [.ref a] [.ref a] _ _ hr rfl e0 (bind s (.ref a)) (.cons rfl .nil) (hsp H (fun p hp => withTabs_in (inT hp)) seq)) fun r s' h => ?_
  match r, h with
  | .ok (.ret u), ⟨v, H', os, bare, un, ok', rv, (q : v = .bl true)⟩ =>
    subst q
    cases (show u = Value.bool true from rv)
    have stays : ∀ b o, b ∉ T → s.heap.get? b = some o → s'.heap.get? b = some o := fun b o nb e => by
      have q : H b = H0 b := withTabs_out nb
      rcases only0 b with z | ⟨ob, xs, z⟩
      · exact un.keep b o e (q.trans z) (fun m => nomatch m) (fun m => nomatch m)
      · have e1 := (ok b _ (q.trans z)).1
        rw [e] at e1
        cases e1
        exact (ok' b _ (un.frzs b o _ (q.trans z))).1
    have grown : ∀ p ∈ cs, ∃ more : Array Value, s'.heap.get? p.2 = some { cls := .none, data := .fields more } := fun p hp => by
      obtain ⟨more, z⟩ := un.tbls p.2 #[] (withTabs_in (inT hp))
      exact ⟨_, ok' p.2 _ z⟩
    refine ⟨rfl, ⟨fun b o e => ?_, fun b o e => ?_⟩, os, bare⟩
    · by_cases z : b ∈ T
      · obtain ⟨p, hp, ep⟩ := List.mem_map.mp z
        obtain ⟨more, hm⟩ := grown p hp
        subst ep
        rw [tabs p hp] at e
        cases e
        exact .inr (.inl ⟨((codes p hp).tab (tabs p hp)).isCodeTable, rfl, #[], more, rfl, by rw [Array.empty_append]; exact hm⟩)
      · exact .inl (stays b o z e)
    · by_cases z : b ∈ T
      · obtain ⟨p, hp, ep⟩ := List.mem_map.mp z
        obtain ⟨more, hm⟩ := grown p hp
        exact ⟨_, ep ▸ hm⟩
      · exact ⟨o, stays b o z e⟩
/-- what is known of the law's def at the heap behind the top -/
def LawGT (l : PySem.W.OpenLaw) (w : World) (K : PySem.W.Frag) (k n : Nat) (x : Str) (mg : Str → Option Value) (fa : Addr) (h : Heap) : Prop :=
  ∃ (fd : FuncData) (cs : List (Addr × Addr)) (sp : Sp), (∀ p ∈ cs, h.get? p.2 = some emptyTab) ∧ (∀ p ∈ cs, K.lookup p.2 = none) ∧ (∀ p ∈ cs, PySem.W.CodeHd h p.1 p.2) ∧ (∀ (s : Shared) (u : Value), BindsTo s fd ⟨[u], []⟩ [(x, u)]) ∧
    (∀ (H : Hp) (a : Addr) (ns : List Int), ns.length ≤ n → (∀ p ∈ cs, H p.2 = some (.tbl #[])) → SqL K H a (ns.map V.int) → sp [.ref a] H (fun v _ => v = .bl true) E0) ∧
    ∀ base : Heap, K.In base → base.Ns mainGlobals mg → (∀ p ∈ cs, LamX.TabB base mg p.1 p.2) → FnG l.prog w K mg base CX0 k fa fd [x] sp
theorem walk_ofGT {l : PySem.W.OpenLaw} {n k : Nat} {q : Program} {loose : List Str} {XP : (Str → Option Value) → Heap → Prop} {YP : World → Heap → Prop} {d : DefRec} {K : Params → PySem.W.Frag} {x : Str}
    (hn : l.most = some n) (hn2 : n ≤ sizeLine) (hdf : d.params.defaults = []) (hr : Room k callerA) (hY : ∀ (w : World) (h : Heap), YP w h → (K w.params).In h)
    (F : ∀ (w : World) (mg : Str → Option Value) (fa : Addr) (h : Heap), YP w h → (K w.params).In h → h.Ns mainGlobals mg → mg d.name = some (.ref fa) → LawGT l w (K w.params) k n x mg fa h) :
    PySem.W.WalkO q loose XP YP l.row.toRowW d [] (fun f vs => PySem.call f vs) := by
  refine Att.attach_call hn hdf fun w s₀ s mg mb fa o pm cd doc a vs ns G Y ho hd hcd hmg hobj hints hlen hg => ?_
  obtain ⟨fd, cs, sp, h1, h2, h3, h4, h5, h6⟩ := F w mg fa _ Y (hY w _ Y) G.T.g hmg
  exact law_callGT (hY w _ Y) G.T.g G.T.b G.T.builtins G.T.nolimit hg h1 h2 h3 G.T.bmain hobj hints (Nat.le_trans hlen hn2) hr h6 h4 fun H z1 z2 => h5 H a ns hlen z1 z2
end L2

set_option maxHeartbeats 4000000
/-! how long a told value is; repr of a pair whose second may be an empty dict -/
namespace L2
open PySem PySem.Spec PyProof.Rows
mutual
/-- data whose text has a bound by its shape -/
def fine : PyData → Bool
  | .none => true
  | .bool _ => true
  | .int i => decide (i.natAbs.log2 < 1920)
  | .str x => x.cps.all fun c => decide (c < 0x110000)
  | .list xs => fineAll xs
  | .tuple xs => fineAll xs
  | .dict [] => true
  | .dict (_ :: _) => false
def fineAll : List PyData → Bool
  | [] => true
  | x :: xs => fine x && fineAll xs
end
mutual
def wt : PyData → Nat
  | .none => 4
  | .bool _ => 5
  | .int _ => 1921
  | .str x => 10 * x.length + 2
  | .list xs => wtAll xs + 2
  | .tuple xs => wtAll xs + 3
  | .dict _ => 2
def wtAll : List PyData → Nat
  | [] => 0
  | x :: xs => wt x + 2 + wtAll xs
end
theorem textFrom_le : ∀ (ts : List Str) (k : Nat) (acc : Str), (textFrom k acc ts).length ≤ acc.length + piled ts
  | [], k, acc => by simp [textFrom, piled]
  | t :: ts, k, acc => by
    unfold textFrom
    refine Nat.le_trans (textFrom_le ts (k + 1) _) ?_
    rw [piled_cons, strLen_append, strLen_append]
    have : ((if k > 0 then ", " else "" : String) : Str).length ≤ 2 := by split <;> decide
    omega
theorem join_le (ts : List Str) : (Str.join ", " ts).length ≤ piled ts := by
  cases ts with
  | nil => decide
  | cons t r =>
    have := join_length_add (t :: r) (by simp)
    omega
mutual
theorem fine_ok : ∀ d : PyData, fine d = true → d.showable = true ∧ d.shown.length ≤ wt d
  | .none, _ => ⟨rfl, by decide +kernel⟩
  | .bool true, _ => ⟨rfl, by decide +kernel⟩
  | .bool false, _ => ⟨rfl, by decide +kernel⟩
  | .int i, h => ⟨by simpa [fine, PyData.showable] using h, by
      have : i.natAbs.log2 < 1920 := by simpa [fine] using h
      exact int_text_len_1921 this⟩
  | .str x, h => ⟨rfl, by
      refine StrLaws.reprText_len x fun c hc => ?_
      have h' : x.cps.all (fun c => decide (c < 0x110000)) = true := h
      have := (Array.all_eq_true_iff_forall_mem.mp h') c (Array.mem_toList_iff.mp hc)
      have : c < 0x110000 := of_decide_eq_true this
      omega⟩
  | .list xs, h => by
    obtain ⟨a, b⟩ := fineAll_ok xs h
    refine ⟨a, ?_⟩
    show (textFrom 0 "[" (PyData.shownAll xs) ++ "]" : Str).length ≤ wtAll xs + 2
    rw [strLen_append]
    have q := textFrom_le (PyData.shownAll xs) 0 "["
    have l1 : ("[" : Str).length = 1 := rfl
    have l2 : ("]" : Str).length = 1 := rfl
    omega
  | .tuple xs, h => by
    obtain ⟨a, b⟩ := fineAll_ok xs h
    refine ⟨a, ?_⟩
    show (("(" : Str) ++ Str.join ", " (PyData.shownAll xs) ++ (if (PyData.shownAll xs).length == 1 then ",)" else ")" : String)).length ≤ wtAll xs + 3
    rw [strLen_append, strLen_append]
    have q := join_le (PyData.shownAll xs)
    have l1 : ("(" : Str).length = 1 := rfl
    have l2 : ((if (PyData.shownAll xs).length == 1 then ",)" else ")" : String) : Str).length ≤ 2 := by split <;> decide
    omega
  | .dict [], _ => ⟨rfl, by decide +kernel⟩
  | .dict (_ :: _), h => by cases h
theorem fineAll_ok : ∀ ds : List PyData, fineAll ds = true → PyData.showableAll ds = true ∧ piled (PyData.shownAll ds) ≤ wtAll ds
  | [], _ => ⟨rfl, Nat.le_refl _⟩
  | d :: ds, h => by
    obtain ⟨h1, h2⟩ := Bool.and_eq_true_iff.mp (show (fine d && fineAll ds) = true from h)
    obtain ⟨a, b⟩ := fine_ok d h1
    obtain ⟨c, e⟩ := fineAll_ok ds h2
    refine ⟨by simp [PyData.showableAll, a, c], ?_⟩
    show piled (d.shown :: PyData.shownAll ds) ≤ wt d + 2 + wtAll ds
    rw [piled_cons]
    omega
end
/-- data, or an empty dict -/
inductive Oq (K : PySem.W.Frag) (H : Hp) : V → PyData → Prop
  | of {v : V} {d : PyData} (h : Dp K H v d) : Oq K H v d
  | emp {a : Addr} (h : H a = some (.dK [])) : Oq K H (.ref a) (.dict [])
theorem Oq.ext {K : PySem.W.Frag} {H H' : Hp} {v : V} {d : PyData} (e : ∀ {u w}, Dp K H u w → Dp K H' u w) (f : ∀ a, H a = some (.dK []) → H' a = some (.dK [])) : Oq K H v d → Oq K H' v d
  | .of h => .of (e h)
  | .emp h => .emp (f _ h)
section
variable {X : Cx}
theorem emp_reads {pins : List (Addr × Obj)} {σ : St} {H : Hp} {s : Shared} {a : Addr} (I : Inv X pins σ H s) (h : H a = some (.dK [])) : Reads s.heap (.ref a) (.dict []) [a] ∧ sysModules ≠ a := by
  obtain ⟨_, n, vs, r, o, es, ep, e1, e2, e3, _, e5, _⟩ := dk_of I.hok h
  cases r
  have ez : es.toList = [] := by
    cases q : es.toList with
    | nil => rfl
    | cons x xs =>
      rw [q] at e5
      cases e5
  refine ⟨?_, fun z => by subst z; simp at n⟩
  have q := Reads.dict (kvs := []) (as := []) (bs := []) e1 e2.1 e3 (by rw [ez]; exact .nil) (by rw [ez]; exact .nil)
  exact q
/-- repr((text, x)) -/
def rReprP (K : PySem.W.Frag) (B : Nat) : List V → Hp → VK → Prop := fun xs H Q => ∃ (t : Addr) (x : Str) (v : V) (d : PyData), xs = [.ref t] ∧ SqT K H t [.str x, v] ∧ Oq K H v d ∧ fine (.tuple [.str x, d]) = true ∧ d.depth < B ∧ wt (.tuple [.str x, d]) ≤ 1000000 ∧
  Q (.str (PyData.tuple [.str x, d]).shown) H
end
theorem fine_size {d : PyData} (h : fine d = true) (w : wt d ≤ 1000000) : d.shown.length ≤ sizeLine := Nat.le_trans (fine_ok d h).2 (Nat.le_trans w (by decide))
section
variable {X : Cx}
theorem call_reprP {B : Nat} (hc : Calm X.A) (hu : X.A.units + (B + 1) < cLine) : CallR X (.builtin "repr") (rReprP X.K B) := by
  intro pins s σ H xs us Q I r h
  obtain ⟨t, x, v, d, rfl, ht, hd, hf, hB, hw, q⟩ := h
  cases hd with
  | of hd =>
    have e : (PyData.tuple [.str x, d]).depth ≤ B := by
      simp [PyData.depth, PyData.depthAll]
      omega
    exact call_reprD (B := B) hc hu pins s σ H [.ref t] us Q I r ⟨.ref t, .tuple [.str x, d], rfl, .tup ht (.cons (.str _) (.cons hd .nil)), (fine_ok _ hf).1, e, fine_size hf hw, q⟩
  | @emp a ha =>
    obtain ⟨u, rfl, ru⟩ := r.one
    cases (show u = Value.ref t from ru)
    obtain ⟨rd, ns⟩ := emp_reads I ha
    obtain ⟨its, rv, ⟨o, ho, hcl, n, hdt⟩, _⟩ := I.tuple ht
    obtain ⟨tk, w, rfl⟩ : ∃ tk w, its = [Value.str x tk, .ref a] := by
      cases rv with
      | cons r1 r2 =>
        cases r2 with
        | cons r3 r4 =>
          cases r4
          obtain ⟨tk, rfl⟩ := r1
          exact ⟨tk, (), by rw [show _ = Value.ref a from r3]⟩
    have rt : Reads s.heap (.ref t) (.tuple [.str x, .dict []]) ([] ++ ([a] ++ [])) := Reads.tuple ho hcl hdt (.cons (.str _ _) (.cons rd .nil))
    exact repr_of_reads' rt (fine_ok _ hf).1 (fun _ m => ns (by simpa using m)) hc (by have z : (PyData.tuple [.str x, .dict []]).depth = 2 := rfl; have z2 : (PyData.dict []).depth = 1 := rfl; omega) (fun _ _ e => e) (fun h' t tk hk => ⟨.str _, H, I.kept hk, ⟨_, rfl⟩, q⟩) (fine_size hf hw)
end
end L2

set_option maxHeartbeats 4000000
namespace N
open PySem L2
/-! ### a kind's values, right and wrong ones -/
def letters : Str := "abcdefghijklmnopqrstuvwxyz"
def NameOk (s : Str) : Prop := 1 ≤ s.length ∧ s.length ≤ 8 ∧ ∀ c ∈ s.cps.toList, c ∈ letters.cps.toList
instance {s : Str} : Decidable (NameOk s) := by unfold NameOk; infer_instance
structure KindOk (r : Row) : Prop where
  name : NameOk r.name
  back : ∀ x, r.back = some x → NameOk x
  mirror : ∀ x, r.mirror = some x → NameOk x
  takes : 0 ≤ r.takes ∧ r.takes ≤ 6
  makes : 0 ≤ r.makes ∧ r.makes ≤ 6
  some_ : ¬ (r.takes = 0 ∧ r.makes = 0)
  yarn : 0 ≤ r.yarn ∧ r.yarn ≤ 999
def isI : V → Bool
  | .int _ => true
  | _ => false
def isS : V → Bool
  | .str _ => true
  | _ => false
def isB : V → Bool
  | .bl _ => true
  | _ => false
def goodN : V → Bool
  | .str s => decide (NameOk s)
  | _ => false
def goodO : V → Bool
  | .non => true
  | v => goodN v
def goodC : V → Bool
  | .int z => decide (0 ≤ z)
  | _ => false
def goodI (n : Int) : V → Bool
  | .int z => decide (0 ≤ z) && decide (z ≤ n)
  | _ => false
/-- the values that are handed to a kind here -/
inductive Odd (H : Hp) : V → Prop
  | non : Odd H .non
  | bl (b : Bool) : Odd H (.bl b)
  | int (i : Int) (h : i.natAbs.log2 < 1920) : Odd H (.int i)
  | str (s : Str) (h : s.length ≤ 100) (hc : (s.cps.all fun c => decide (c < 0x110000)) = true) : Odd H (.str s)
  | lst {a : Addr} (h : H a = some (.lst [])) : Odd H (.ref a)
  | tupS {a : Addr} (s : Str) (h : H a = some (.tup [.str s])) (hl : s.length ≤ 100) (hc : (s.cps.all fun c => decide (c < 0x110000)) = true) : Odd H (.ref a)
  | tupI {a : Addr} (i : Int) (h : H a = some (.tup [.int i])) (hl : i.natAbs.log2 < 1920) : Odd H (.ref a)
  | dic {a : Addr} (h : H a = some (.dK [])) : Odd H (.ref a)
theorem kits (T : String) (a b c : Bool) (h : (kitB T "str" == some a && kitB T "int" == some b && kitB T "bool" == some c) = true) : kitB T "str" = some a ∧ kitB T "int" = some b ∧ kitB T "bool" = some c := by
  simpa [and_assoc] using h
theorem Odd.ty {K : PySem.W.Frag} {H : Hp} {v : V} (h : Odd H v) : ∃ T, TyX K H v (.type T) ∧ kitB T "str" = some (isS v) ∧ kitB T "int" = some (isI v || isB v) ∧ kitB T "bool" = some (isB v) := by
  cases h with
  | non => exact ⟨_, .base .non, kits "NoneType" false false false (by decide +kernel)⟩
  | bl b => exact ⟨_, .base (.bl b), kits "bool" false true true (by decide +kernel)⟩
  | int i => exact ⟨_, .base (.int i), kits "int" false true false (by decide +kernel)⟩
  | str s => exact ⟨_, .base (.str s), kits "str" true false false (by decide +kernel)⟩
  | lst h => exact ⟨_, .base (.lst h), kits "list" false false false (by decide +kernel)⟩
  | tupS s h => exact ⟨_, .base (.tup h), kits "tuple" false false false (by decide +kernel)⟩
  | tupI s h => exact ⟨_, .base (.tup h), kits "tuple" false false false (by decide +kernel)⟩
  | dic h => exact ⟨_, .base (.dK h), kits "dict" false false false (by decide +kernel)⟩
theorem Odd.same {H H' : Hp} {v : V} (e : Same H H') (h : Odd H v) : Odd H' v := by
  cases h with
  | non => exact .non
  | bl b => exact .bl b
  | int i h => exact .int i h
  | str s h c => exact .str s h c
  | lst h => exact .lst (e _ _ h)
  | tupS s h l c => exact .tupS s (e _ _ h) l c
  | tupI i h l => exact .tupI i (e _ _ h) l
  | dic h => exact .dic (e _ _ h)
/-- the pot is no told list -/
theorem Odd.but {H H' : Hp} {v : V} {p : Addr} (hp : Pot H p) (e : But p H H') (h : Odd H v) : Odd H' v := by
  obtain ⟨x, y, ep, _⟩ := hp
  cases h with
  | non => exact .non
  | bl b => exact .bl b
  | int i h => exact .int i h
  | str s h c => exact .str s h c
  | lst h => exact .lst (e _ _ h fun z => by subst z; rw [ep] at h; cases h)
  | tupS s h l c => exact .tupS s (e _ _ h fun z => by subst z; rw [ep] at h; cases h) l c
  | tupI i h l => exact .tupI i (e _ _ h fun z => by subst z; rw [ep] at h; cases h) l
  | dic h => exact .dic (e _ _ h fun z => by subst z; rw [ep] at h; cases h)
/-- told beside a text -/
theorem Odd.data {K : PySem.W.Frag} {H : Hp} {v : V} (h : Odd H v) : ∃ d, Oq K H v d ∧ fine d = true ∧ d.depth ≤ 1 ∧ wt d ≤ 2000 := by
  cases h with
  | non => exact ⟨_, .of .non, rfl, by decide, by decide⟩
  | bl b => exact ⟨_, .of (.bl b), rfl, Nat.zero_le _, by show 5 ≤ 2000; decide⟩
  | int i h => exact ⟨_, .of (.int i), decide_eq_true h, Nat.zero_le _, by show 1921 ≤ 2000; decide⟩
  | str s h c => exact ⟨_, .of (.str s), c, Nat.zero_le _, by show 10 * s.length + 2 ≤ 2000; omega⟩
  | lst h => exact ⟨_, .of (.lst (SqL.of h) .nil), rfl, by decide, by decide⟩
  | tupS s h l c => exact ⟨_, .of (.tup (SqT.of h) (.cons (.str s) .nil)), by show (s.cps.all _ && true) = true; rw [c]; rfl, by show max 0 0 + 1 ≤ 1; decide, by show 10 * s.length + 2 + 2 + 0 + 3 ≤ 2000; omega⟩
  | tupI i h l => exact ⟨_, .of (.tup (SqT.of h) (.cons (.int i) .nil)), by show (decide _ && true) = true; rw [decide_eq_true l]; rfl, by show max 0 0 + 1 ≤ 1; decide, by show 1921 + 2 + 0 + 3 ≤ 2000; decide⟩
  | dic h => exact ⟨_, .emp h, rfl, by decide, by decide⟩
theorem kit_b {K : PySem.W.Frag} {a b : String} {r : Bool} (h : kitB a b = some r) : PySem.W.kitOne K (.type a) (.type b) = some r := kit_ty h
structure Globs (mg : Str → Option Value) : Prop where
  longest : ∃ t, mg "_LONGEST_NAME" = some (.int 8 t)
  letters : ∃ t, mg "_LETTERS" = some (.str "abcdefghijklmnopqrstuvwxyz" t)
  loops : ∃ t, mg "_MOST_LOOPS" = some (.int 6 t)
  yarn : ∃ t, mg "_MOST_YARN" = some (.int 999 t)
def spIsInt : Sp := fun vs H Q _ => ∃ v : V, vs = [v] ∧ Odd H v ∧ Q (.bl (isI v)) H
def spCount : Sp := fun vs H Q _ => ∃ v : V, vs = [v] ∧ Odd H v ∧ Q (.bl (goodC v)) H
def spCountTo : Sp := fun vs H Q _ => ∃ (v : V) (n : Int), vs = [v, .int n] ∧ Odd H v ∧ Q (.bl (goodI n v)) H
def spIsName : Sp := fun vs H Q _ => ∃ v : V, vs = [v] ∧ Odd H v ∧ ∀ H', Same H H' → Q (.bl (goodN v)) H'
section
variable {P : Program} {w : World} {K : PySem.W.Frag} {mg : Str → Option Value} {base : Heap}
abbrev s_is_integer : Stmt := top 5
theorem sc_is_integer : FnScope ["value"] ["value"] (defScope s_is_integer) := ⟨rfl, rfl, rfl, by decide +kernel, rfl, by decide +kernel, by decide +kernel⟩
theorem h_is_integer (B : Blts mg) (F : FunAt K mg "is_integer" "is_integer" s_is_integer) : Has P w K mg base "is_integer" 1 ["value"] spIsInt := by
  refine has_of F sc_is_integer (fun _ _ _ _ _ _ us hl => match us, hl with | [_], _ => rfl) (fun vs H Q E h => ?_) (fun f cdv A outer s H vs Q E hr h => ?_)
  · obtain ⟨v, rfl, _⟩ := h
    rfl
  · obtain ⟨v, rfl, hv, k⟩ := h
    obtain ⟨T, ty, _, ki, kb⟩ := hv.ty (K := K)
    refine ⟨_, (pss_one (ps_ret (pe_and (pe_callB call_isi (by rfl) B.n_isinstance (by decide +kernel) (pa_cons (pv 0) (pa_cons (pe_bltn (v := .ty "int") (u := .type "int") rfl B.n_int (by decide +kernel) rfl) pa_nil))) (pe_one (pe_not (pe_callB call_isi (by rfl) B.n_isinstance (by decide +kernel) (pa_cons (pv 0) (pa_cons (pe_bltn (v := .ty "bool") (u := .type "bool") rfl B.n_bool (by decide +kernel) rfl) pa_nil)))))))), ?_⟩
    refine ⟨_, rfl, _, _, _, _, _, rfl, .ty _, ty, kit_b ki, _, rfl, ?_⟩
    cases v with
    | int i => exact iteT ⟨_, rfl, _, _, _, _, _, rfl, .ty _, ty, kit_b kb, _, rfl, k⟩
    | bl b => exact iteT ⟨_, rfl, _, _, _, _, _, rfl, .ty _, ty, kit_b kb, _, rfl, k⟩
    | _ => exact iteF k
abbrev s_is_count : Stmt := top 6
theorem sc_is_count : FnScope ["value"] ["value"] (defScope s_is_count) := ⟨rfl, rfl, rfl, by decide +kernel, rfl, by decide +kernel, by decide +kernel⟩
theorem h_is_count (F : FunAt K mg "is_count" "is_count" s_is_count) (his_integer : Has P w K mg base "is_integer" 1 ["value"] spIsInt) : Has P w K mg base "is_count" 2 ["value"] spCount := by
  refine has_of F sc_is_count (fun _ _ _ _ _ _ us hl => match us, hl with | [_], _ => rfl) (fun vs H Q E h => ?_) (fun f cdv A outer s H vs Q E hr h => ?_)
  · obtain ⟨i, rfl, _⟩ := h
    rfl
  · obtain ⟨v, rfl, hv, k⟩ := h
    refine ⟨_, (pss_one (ps_ret (pe_and (pe_has his_integer (hr.mono (by decide)) (pa_cons (pv 0) pa_nil)) (pe_one (pe_cmpR op_ge (pv 0) pe_int (by first | exact nomark _ | rfl)))))), ?_⟩
    refine ⟨_, rfl, v, rfl, hv, _, rfl, ?_⟩
    cases v with
    | int i => exact iteT ⟨_, rfl, _, _, rfl, rfl, k⟩
    | _ => exact iteF k
abbrev s_is_count_to : Stmt := top 7
theorem sc_is_count_to : FnScope ["value", "most"] ["value", "most"] (defScope s_is_count_to) := ⟨rfl, rfl, rfl, by decide +kernel, rfl, by decide +kernel, by decide +kernel⟩
theorem h_is_count_to (F : FunAt K mg "is_count_to" "is_count_to" s_is_count_to) (his_count : Has P w K mg base "is_count" 2 ["value"] spCount) : Has P w K mg base "is_count_to" 3 ["value", "most"] spCountTo := by
  refine has_of F sc_is_count_to (fun _ _ _ _ _ _ us hl => match us, hl with | [_, _], _ => rfl) (fun vs H Q E h => ?_) (fun f cdv A outer s H vs Q E hr h => ?_)
  · obtain ⟨i, n, rfl, _⟩ := h
    rfl
  · obtain ⟨v, n, rfl, hv, k⟩ := h
    refine ⟨_, (pss_one (ps_ret (pe_and (pe_has his_count (hr.mono (by decide)) (pa_cons (pv 0) pa_nil)) (pe_one (pe_cmpR op_le (pv 0) (pv 1) (by first | exact nomark _ | rfl)))))), ?_⟩
    refine ⟨_, rfl, v, rfl, hv, _, rfl, ?_⟩
    cases v with
    | int i =>
      refine ite2 (fun c => ⟨_, rfl, _, rfl, _, _, rfl, rfl, ?_⟩) (fun c => ?_)
      · show Q (.bl (decide (i ≤ n))) H
        have c' : decide (0 ≤ i) = true := c
        have k' : Q (.bl (decide (0 ≤ i) && decide (i ≤ n))) H := k
        rw [c', Bool.true_and] at k'
        exact k'
      · have c' : decide (0 ≤ i) = false := by
          have c0 : ¬ decide (0 ≤ i) = true := c
          simpa using c0
        have k' : Q (.bl (decide (0 ≤ i) && decide (i ≤ n))) H := k
        rw [c', Bool.false_and] at k'
        exact k'
    | _ => exact iteF k
abbrev s_is_name : Stmt := top 8
theorem sc_is_name : FnScope ["value", "letter"] ["value"] (defScope s_is_name) := ⟨rfl, rfl, rfl, by decide +kernel, rfl, by decide +kernel, by decide +kernel⟩
theorem h_is_name (B : Blts mg) (G : Globs mg) (F : FunAt K mg "is_name" "is_name" s_is_name) : Has P w K mg base "is_name" 1 ["value"] spIsName := by
  obtain ⟨_, g_LONGEST_NAME⟩ := G.longest
  obtain ⟨_, g_LETTERS⟩ := G.letters
  refine has_of F sc_is_name (fun _ _ _ _ _ _ us hl => match us, hl with | [_], _ => rfl) (fun vs H Q E h => ?_) (fun f cdv A outer s H vs Q E hr h => ?_)
  · obtain ⟨i, rfl, _⟩ := h
    rfl
  · obtain ⟨v, rfl, hv, k⟩ := h
    obtain ⟨T, ty, ks, _, _⟩ := hv.ty (K := K)
    refine ⟨_, (pss_cons (ps_if (PW.pt (pw_or (pt_not (pt_val (pe_callB call_isi (by rfl) B.n_isinstance (by decide +kernel) (pa_cons (pv 0) (pa_cons (pe_bltn (v := .ty "str") (u := .type "str") rfl B.n_str (by decide +kernel) rfl) pa_nil))))) (pw_or1 (pt_not (pt_chain op_le op_le pe_int (pe_callB call_len (by rfl) B.n_len PySem.boot_len (pa_cons (pv 0) pa_nil)) (pe_glob (v := .int 8) rfl g_LONGEST_NAME ⟨_, rfl⟩)))))) (pss_one (ps_ret pe_bl))
        pss_nil)
      (pss_one (ps_ret (pe_callB (cr_all rfl) (by rfl) B.n_all (by decide +kernel) (pa_cons (pe_lc (own := [("letter", 1)]) rfl sc_is_name.nd (pi_str (pv 0)) (blkOk_by (own := [("letter", 1)]) (N := ["value", "letter"]) (sc := defScope s_is_name) (by decide +kernel)) (fun _ _ _ _ _ => by exact (pg_name (i := 1) sc_is_name.nd rfl (Or.inl rfl))) (fun _ _ _ _ _ => by exact pts_nil) (fun _ _ _ _ _ => by exact (pe_cmpR op_in_sign (pv 1) (pe_glob (v := .str "abcdefghijklmnopqrstuvwxyz") rfl g_LETTERS ⟨_, rfl⟩) (by first | exact nomark _ | rfl)))) pa_nil))))), ?_⟩
    refine ⟨_, rfl, _, _, _, _, _, rfl, .ty _, ty, kit_b ks, _, rfl, ?_⟩
    cases v with
    | str z =>
      have hz : z.length ≤ 100 := by cases hv; assumption
      have z8 : z.length ≤ sizeLine := Nat.le_trans hz (by decide)
      refine iteF ?_
      refine ⟨_, rfl, _, z.length, rfl, ⟨z8, rfl⟩, _, _, rfl, rfl, _, rfl, ite2 (fun c1 => ?_) (fun c1 => ?_)⟩
      · refine ⟨_, _, rfl, rfl, _, rfl, ?_⟩
        refine ite2 (fun c2 => ?_) (fun c2 => ?_)
        · -- too long
          have h8 : ¬ (z.length : Int) ≤ 8 := by simpa using c2
          have e : decide (NameOk z) = false := decide_eq_false fun n => h8 (by have := n.2.1; omega)
          have k' := k H (Same.refl _)
          rw [show goodN (.str z) = false from e] at k'
          exact k'
        · refine ⟨_, rfl, z, rfl, fun D nD => lc_map walk_str (fun i => .bl (match z.cps[i]? with | some c => decide (c ∈ letters.cps.toList) | none => true)) nD (Nat.lt_of_le_of_lt hz (by decide)) (fun _ _ => trivial) ?_ ?_⟩
          · rintro i x H1 H2 hi s1 ⟨rfl, c, hci, rfl⟩ R hR
            refine ⟨rfl, _, rfl, c, _, rfl, rfl, ?_⟩
            have q := hR H2 (Same.refl _)
            rw [hci] at q
            exact q
          · intro H1 s1 hD
            refine ⟨D, (List.range z.cps.size).map fun i => (match z.cps[i]? with | some c => decide (c ∈ letters.cps.toList) | none => true), rfl, SqL.of (by rw [List.map_map]; exact hD), ?_⟩
            have h1 : (1 : Int) ≤ (z.length : Int) := of_decide_eq_true c1
            have h8 : (z.length : Int) ≤ 8 := by simpa using c2
            have e : ((List.range z.cps.size).map fun i => (match z.cps[i]? with | some c => decide (c ∈ letters.cps.toList) | none => true)).all id = goodN (.str z) := by
              show _ = decide (NameOk z)
              rw [Bool.eq_iff_iff, decide_eq_true_iff, List.all_map, List.all_eq_true]
              constructor
              · intro all
                refine ⟨by omega, by omega, fun c hc => ?_⟩
                obtain ⟨i, hi, rfl⟩ := List.getElem_of_mem hc
                have hi' : i < z.cps.size := by simpa using hi
                have := all i (List.mem_range.mpr hi')
                simpa [Array.getElem?_eq_getElem hi'] using this
              · rintro ⟨_, _, all⟩ i hi
                have hi' : i < z.cps.size := List.mem_range.mp hi
                have := all z.cps[i] (by simp)
                simpa [Array.getElem?_eq_getElem hi'] using this
            rw [e]
            exact k _ s1
      · have h1 : ¬ (1 : Int) ≤ (z.length : Int) := by simpa using c1
        have e : decide (NameOk z) = false := decide_eq_false fun n => h1 (by have := n.1; omega)
        have k' := k H (Same.refl _)
        rw [show goodN (.str z) = false from e] at k'
        exact ⟨_, rfl, iteT k'⟩
    | _ => exact iteT (k H (Same.refl _))
end
end N

set_option maxHeartbeats 4000000
namespace N
open PySem L2
/-! ### Kind(..): made, or refused -/
structure Six where
  n : V
  t : V
  m : V
  b : V
  i : V
  y : V
def Six.vs (z : Six) : List V := [z.n, z.t, z.m, z.b, z.i, z.y]
def isZ : V → Bool
  | .int z => decide (z = 0)
  | _ => false
/-- the first fault: 0 a name, 1 a number, 2 a kind that takes and makes nothing -/
def Six.fault (z : Six) : Option (Nat × V) :=
  if goodN z.n = false then some (0, z.n) else if goodO z.b = false then some (0, z.b) else if goodO z.i = false then some (0, z.i) else
  if goodI 6 z.t = false then some (1, z.t) else if goodI 6 z.m = false then some (1, z.m) else if goodI 999 z.y = false then some (1, z.y) else
  if (isZ z.t && isZ z.m) = true then some (2, z.n) else none
def kf (z : Six) : List (Str × V) := [("_name", z.n), ("_takes", z.t), ("_makes", z.m), ("_back", z.b), ("_mirror", z.i), ("_yarn", z.y)]
abbrev s_InvalidName___init__ : Stmt := inClass (top 12) 0
theorem sc_InvalidNameD_initD : FnScope ["self", "value"] ["self", "value"] (defScope s_InvalidName___init__) := ⟨rfl, rfl, rfl, by decide +kernel, rfl, by decide +kernel, by decide +kernel⟩
abbrev s_InvalidNumber___init__ : Stmt := inClass (top 13) 0
theorem sc_InvalidNumberD_initD : FnScope ["self", "value"] ["self", "value"] (defScope s_InvalidNumber___init__) := ⟨rfl, rfl, rfl, by decide +kernel, rfl, by decide +kernel, by decide +kernel⟩
abbrev s_InvalidKind___init__ : Stmt := inClass (top 14) 0
theorem sc_InvalidKindD_initD : FnScope ["self", "value"] ["self", "value"] (defScope s_InvalidKind___init__) := ⟨rfl, rfl, rfl, by decide +kernel, rfl, by decide +kernel, by decide +kernel⟩
/-- what the walk asks of the classes -/
structure KindT (K : PySem.W.Frag) (mg : Str → Option Value) (C : Addr) (Cs : Nat → Addr) : Prop where
  own : OwnC K C
  n0 : NoAttr K C "_name"
  n1 : NoAttr K C "_takes"
  n2 : NoAttr K C "_makes"
  n3 : NoAttr K C "_back"
  n4 : NoAttr K C "_mirror"
  n5 : NoAttr K C "_yarn"
  g : mg "Kind" = some (.ref C)
  e0 : ErrC K mg "InvalidName" "value" (Cs 0) s_InvalidName___init__ "InvalidName.__init__"
  e1 : ErrC K mg "InvalidNumber" "value" (Cs 1) s_InvalidNumber___init__ "InvalidNumber.__init__"
  e2 : ErrC K mg "InvalidKind" "value" (Cs 2) s_InvalidKind___init__ "InvalidKind.__init__"
theorem KindT.cl {K : PySem.W.Frag} {mg : Str → Option Value} {C : Addr} {Cs : Nat → Addr} (T : KindT K mg C Cs) : Cls K C := T.own.cl
def spKind (C : Addr) (Cs : Nat → Addr) : Sp := fun vs H Q E => ∃ (p dx : Addr) (z : Six), vs = .ref p :: z.vs ∧ H p = some (.ins C dx []) ∧ (∀ v ∈ z.vs, Odd H v) ∧
  (z.fault = none → ∀ H', H' p = some (.ins C dx (kf z)) → But p H H' → Q .non H') ∧ (∀ k v, z.fault = some (k, v) → ∀ d H', Same H H' → H' d = some (.xd [("value", v)]) → E (.ref (Cs k)) (some d) H')
theorem put_new {f : Str} {v : V} {fs : List (Str × V)} (h : (fs.map (·.1)).contains f = false) : putF f v fs = fs ++ [(f, v)] := putF_new fun q hq e => by
  have : (fs.map (·.1)).contains f = true := by
    rw [List.contains_iff_mem]
    exact e ▸ List.mem_map_of_mem hq
  rw [h] at this
  cases this
theorem next_of {D : Ends} {σ : St} {H : Hp} (h : D.nx σ H) : tNext D σ H := h
theorem plen {f : Str} {v : V} : ∀ {fs : List (Str × V)} {n : Nat}, fs.length ≤ n → (putF f v fs).length ≤ n + 1
  | [], n, _ => by
    show 1 ≤ n + 1
    omega
  | (g, x) :: r, 0, h => by cases h
  | (g, x) :: r, n + 1, h => by
    unfold putF
    split
    · exact Nat.le_succ_of_le h
    · exact Nat.succ_le_succ (plen (Nat.le_of_succ_le_succ h))
section
variable {P : Program} {w : World} {K : PySem.W.Frag} {mg : Str → Option Value} {base : Heap} {C : Addr} {Cs : Nat → Addr}
theorem ok_e0 {k : Nat} (o : OexC K (Cs k)) (no : PySem.W.findIn K (.ref (Cs k)) "value" = some none) (fI : Addr) (fd : FuncData) (F : Fun K "__init__" "InvalidName.__init__" s_InvalidName___init__ fI fd) : FnOk P w K mg base CX0 1 fI fd ["self", "value"] (spErr "value" (Cs k)) ∧ Binds K fd ["self", "value"] [] := by
  refine ⟨F.ok sc_InvalidNameD_initD (fun vs H Q E h => ?_) (fun cdv A outer s H vs Q E hr h => ?_), F.binds (fun _ _ _ _ _ _ us hl => match us, hl with | [_, _], _ => rfl)⟩
  · obtain ⟨_, _, rfl, _⟩ := h
    rfl
  · obtain ⟨a, v, rfl, ha, k⟩ := h
    exact ⟨_, PSs.nox (pss_one (ps_ost (pv 0) (pv 1))), _, rfl, _, rfl, a, _, rfl, o, no, .inl ⟨ha, k⟩⟩
theorem ok_e1 {k : Nat} (o : OexC K (Cs k)) (no : PySem.W.findIn K (.ref (Cs k)) "value" = some none) (fI : Addr) (fd : FuncData) (F : Fun K "__init__" "InvalidNumber.__init__" s_InvalidNumber___init__ fI fd) : FnOk P w K mg base CX0 1 fI fd ["self", "value"] (spErr "value" (Cs k)) ∧ Binds K fd ["self", "value"] [] := by
  refine ⟨F.ok sc_InvalidNumberD_initD (fun vs H Q E h => ?_) (fun cdv A outer s H vs Q E hr h => ?_), F.binds (fun _ _ _ _ _ _ us hl => match us, hl with | [_, _], _ => rfl)⟩
  · obtain ⟨_, _, rfl, _⟩ := h
    rfl
  · obtain ⟨a, v, rfl, ha, k⟩ := h
    exact ⟨_, PSs.nox (pss_one (ps_ost (pv 0) (pv 1))), _, rfl, _, rfl, a, _, rfl, o, no, .inl ⟨ha, k⟩⟩
theorem ok_e2 {k : Nat} (o : OexC K (Cs k)) (no : PySem.W.findIn K (.ref (Cs k)) "value" = some none) (fI : Addr) (fd : FuncData) (F : Fun K "__init__" "InvalidKind.__init__" s_InvalidKind___init__ fI fd) : FnOk P w K mg base CX0 1 fI fd ["self", "value"] (spErr "value" (Cs k)) ∧ Binds K fd ["self", "value"] [] := by
  refine ⟨F.ok sc_InvalidKindD_initD (fun vs H Q E h => ?_) (fun cdv A outer s H vs Q E hr h => ?_), F.binds (fun _ _ _ _ _ _ us hl => match us, hl with | [_, _], _ => rfl)⟩
  · obtain ⟨_, _, rfl, _⟩ := h
    rfl
  · obtain ⟨a, v, rfl, ha, k⟩ := h
    exact ⟨_, PSs.nox (pss_one (ps_ost (pv 0) (pv 1))), _, rfl, _, rfl, a, _, rfl, o, no, .inl ⟨ha, k⟩⟩
abbrev s_Kind___init__ : Stmt := inClass (top 33) 0
theorem sc_KindD_initD : FnScope ["self", "name", "takes", "makes", "back", "mirror", "yarn", "twin", "loops"] ["self", "name", "takes", "makes", "back", "mirror", "yarn"] (defScope s_Kind___init__) := ⟨rfl, rfl, rfl, by decide +kernel, rfl, by decide +kernel, by decide +kernel⟩
theorem ok_kind {f : Addr} {fd : FuncData} {dvs : List V} {kws : List (Str × V)} (B : Blts mg) (G : Globs mg) (T : KindT K mg C Cs) (F : FunD K "__init__" "Kind.__init__" (defArgs s_Kind___init__) (defBody s_Kind___init__) (defScope s_Kind___init__) dvs kws f fd)
    (his_name : Has P w K mg base "is_name" 1 ["value"] spIsName) (his_count_to : Has P w K mg base "is_count_to" 3 ["value", "most"] spCountTo) : FnOk P w K mg base (L2.CX P w) 4 f fd ["self", "name", "takes", "makes", "back", "mirror", "yarn"] (spKind C Cs) := by
  obtain ⟨_, g_MOST_LOOPS⟩ := G.loops
  obtain ⟨_, g_MOST_YARN⟩ := G.yarn
  refine F.ok sc_KindD_initD (fun vs H Q E h => ?_) (fun cdv A outer s H vs Q E hr h => ?_)
  · obtain ⟨p, dx, z, rfl, _⟩ := h
    rfl
  · obtain ⟨p, dx, z, rfl, hp, odd, k, ke⟩ := h
    have o1 : Odd H z.n := odd _ (by simp [Six.vs])
    have o2 : Odd H z.t := odd _ (by simp [Six.vs])
    have o3 : Odd H z.m := odd _ (by simp [Six.vs])
    have o4 : Odd H z.b := odd _ (by simp [Six.vs])
    have o5 : Odd H z.i := odd _ (by simp [Six.vs])
    have o6 : Odd H z.y := odd _ (by simp [Six.vs])
    refine ⟨_, (pss_cons (ps_if (pt_not (pt_val (pe_has his_name (hr.mono (by decide)) (pa_cons (pv 1) pa_nil)))) (pss_one (ps_raiseE rfl T.e0 (ok_e0 T.e0.o T.e0.no) (hr.mono (by decide)) (takes_of rfl rfl rfl rfl) (by exact (pa_cons (pv 1) pa_nil))))
        pss_nil)
      (pss_cons (ps_for (passes_of rfl) rfl (pi_tup (pe_tup (pa_cons (pv 4) (pa_cons (pv 5) pa_nil)))) (pg_name (i := 7) sc_KindD_initD.nd rfl (Or.inl rfl))
        (pss_one (ps_if (PW.pt (pw_and (pt_cmpR op_notN (pv 7) pe_non (by first | exact nomark _ | rfl)) (pw_and1 (pt_not (pt_val (pe_has his_name (hr.mono (by decide)) (pa_cons (pv 7) pa_nil))))))) (pss_one (ps_raiseE rfl T.e0 (ok_e0 T.e0.o T.e0.no) (hr.mono (by decide)) (takes_of rfl rfl rfl rfl) (by exact (pa_cons (pv 7) pa_nil))))
          pss_nil)))
      (pss_cons (ps_for (passes_of rfl) rfl (pi_tup (pe_tup (pa_cons (pv 2) (pa_cons (pv 3) pa_nil)))) (pg_name (i := 8) sc_KindD_initD.nd rfl (Or.inl rfl))
        (pss_one (ps_if (pt_not (pt_val (pe_has his_count_to (hr.mono (by decide)) (pa_cons (pv 8) (pa_cons (pe_glob (v := .int 6) rfl g_MOST_LOOPS ⟨_, rfl⟩) pa_nil))))) (pss_one (ps_raiseE rfl T.e1 (ok_e1 T.e1.o T.e1.no) (hr.mono (by decide)) (takes_of rfl rfl rfl rfl) (by exact (pa_cons (pv 8) pa_nil))))
          pss_nil)))
      (pss_cons (ps_if (pt_not (pt_val (pe_has his_count_to (hr.mono (by decide)) (pa_cons (pv 6) (pa_cons (pe_glob (v := .int 999) rfl g_MOST_YARN ⟨_, rfl⟩) pa_nil))))) (pss_one (ps_raiseE rfl T.e1 (ok_e1 T.e1.o T.e1.no) (hr.mono (by decide)) (takes_of rfl rfl rfl rfl) (by exact (pa_cons (pv 6) pa_nil))))
        pss_nil)
      (pss_cons (ps_if (PW.pt (pw_and (pt_cmpR op_eq (pv 2) pe_int (by first | exact nomark _ | rfl)) (pw_and1 (pt_cmpR op_eq (pv 3) pe_int (by first | exact nomark _ | rfl))))) (pss_one (ps_raiseE rfl T.e2 (ok_e2 T.e2.o T.e2.no) (hr.mono (by decide)) (takes_of rfl rfl rfl rfl) (by exact (pa_cons (pv 1) pa_nil))))
        pss_nil)
      (pss_cons (ps_fld (pv 0) (pv 1) rfl)
      (pss_cons (ps_fld (pv 0) (pv 2) rfl)
      (pss_cons (ps_fld (pv 0) (pv 3) rfl)
      (pss_cons (ps_fld (pv 0) (pv 4) rfl)
      (pss_cons (ps_fld (pv 0) (pv 5) rfl)
      (pss_one (ps_fld (pv 0) (pv 6) rfl)))))))))))), ?_⟩
    refine ⟨_, rfl, z.n, rfl, o1, fun H1 s1 => ⟨_, rfl, ite2 (fun c => ?_) (fun c => ?_)⟩⟩
    · have g : goodN z.n = false := by simpa using c
      exact ⟨_, rfl, _, rfl, fun d hd => ke 0 z.n (by simp [Six.fault, g]) d _ (s1.trans (Same.new hd)) upd_same⟩
    have g1 : goodN z.n = true := by simpa using c
    refine ⟨_, rfl, _, rfl, (by show 2 ≤ sizeLine; decide), fun t nt => ?_⟩
    refine ⟨t, rfl, ⟨_, SqT.of upd_same⟩, for_tup (K := K) (a := t) (xs := [z.b, z.i]) (fun i σ H' => ∃ v7 : Option V, σ = [some (.ref p), some z.n, some z.t, some z.m, some z.b, some z.i, some z.y, v7, none] ∧ Same (upd H1 t (.tup [z.b, z.i])) H' ∧ (1 ≤ i → goodO z.b = true) ∧ (2 ≤ i → goodO z.i = true))
      ⟨none, rfl, Same.refl _, by omega, by omega⟩ (fun i σ H' _ ⟨_, _, e, _⟩ => SqT.of (e _ _ upd_same)) ?_ ?_⟩
    · rintro i x σ H2 hi ⟨v7, rfl, e2, gb, gi⟩
      have s2 : Same H H2 := s1.trans ((Same.new nt).trans e2)
      have hx : (i = 0 ∧ x = z.b) ∨ (i = 1 ∧ x = z.i) := by
        match i, hi with
        | 0, hi => exact .inl ⟨rfl, (Option.some.inj hi).symm⟩
        | 1, hi => exact .inr ⟨rfl, (Option.some.inj hi).symm⟩
        | n + 2, hi => simp at hi
      have ox : Odd H2 x := by
        rcases hx with ⟨_, rfl⟩ | ⟨_, rfl⟩
        · exact o4.same s2
        · exact o5.same s2
      -- good: on to the next
      have good : goodO x = true → ∀ H3, Same H2 H3 → ∃ v7' : Option V, [some (V.ref p), some z.n, some z.t, some z.m, some z.b, some z.i, some z.y, some x, none] = [some (V.ref p), some z.n, some z.t, some z.m, some z.b, some z.i, some z.y, v7', none] ∧ Same (upd H1 t (.tup [z.b, z.i])) H3 ∧ (1 ≤ i + 1 → goodO z.b = true) ∧ (2 ≤ i + 1 → goodO z.i = true) := fun gx H3 s3 => by
        refine ⟨some x, rfl, e2.trans s3, fun _ => ?_, fun hi2 => ?_⟩
        · rcases hx with ⟨_, rfl⟩ | ⟨h1, rfl⟩
          · exact gx
          · exact gb (by omega)
        · rcases hx with ⟨h1, rfl⟩ | ⟨h1, rfl⟩
          · omega
          · exact gx
      refine ⟨_, rfl, rfl, _, rfl, ite2 (fun c1 => ?_) (fun c1 => ?_)⟩
      · refine ⟨_, rfl, x, rfl, ox, fun H3 s3 => ⟨_, rfl, ite2 (fun c2 => ?_) (fun c2 => ?_)⟩⟩
        · have g : goodN x = false := by simpa using c2
          have g' : goodO x = false := by
            cases x with
            | non => simp at c1
            | _ => exact g
          refine ⟨_, rfl, _, rfl, fun d hd => ke 0 x ?_ d _ ((s2.trans s3).trans (Same.new hd)) upd_same⟩
          rcases hx with ⟨_, rfl⟩ | ⟨h1, rfl⟩
          · simp [Six.fault, g1, g']
          · simp [Six.fault, g1, gb (by omega), g']
        · have g : goodN x = true := by simpa using c2
          exact good (by cases x <;> first | exact g | rfl) H3 s3
      · refine good ?_ H2 (Same.refl _)
        have e : x = .non := by simpa using c1
        rw [e]
        rfl
    · rintro σ H2 ⟨v7, rfl, e2, gb, gi⟩
      have g2 := gb (by show 1 ≤ 2; decide)
      have g3 := gi (by show 2 ≤ 2; decide)
      have s2 : Same H H2 := s1.trans ((Same.new nt).trans e2)
      refine ⟨_, rfl, _, rfl, (by show 2 ≤ sizeLine; decide), fun t2 nt2 => ⟨t2, rfl, ⟨_, SqT.of upd_same⟩, for_tup (K := K) (a := t2) (xs := [z.t, z.m]) (fun i σ H' => ∃ v8 : Option V, σ = [some (.ref p), some z.n, some z.t, some z.m, some z.b, some z.i, some z.y, v7, v8] ∧ Same (upd H2 t2 (.tup [z.t, z.m])) H' ∧ (1 ≤ i → goodI 6 z.t = true) ∧ (2 ≤ i → goodI 6 z.m = true))
        ⟨none, rfl, Same.refl _, by omega, by omega⟩ (fun i σ H' _ ⟨_, _, e, _⟩ => SqT.of (e _ _ upd_same)) ?_ ?_⟩⟩
      · rintro i x σ H3 hi ⟨v8, rfl, e3, gt, gm⟩
        have s3 : Same H H3 := s2.trans ((Same.new nt2).trans e3)
        have hx : (i = 0 ∧ x = z.t) ∨ (i = 1 ∧ x = z.m) := by
          match i, hi with
          | 0, hi => exact .inl ⟨rfl, (Option.some.inj hi).symm⟩
          | 1, hi => exact .inr ⟨rfl, (Option.some.inj hi).symm⟩
          | n + 2, hi => simp at hi
        have ox : Odd H3 x := by
          rcases hx with ⟨_, rfl⟩ | ⟨_, rfl⟩
          · exact o2.same s3
          · exact o3.same s3
        refine ⟨_, rfl, x, 6, rfl, ox, _, rfl, ite2 (fun c2 => ?_) (fun c2 => ?_)⟩
        · have g : goodI 6 x = false := by simpa using c2
          refine ⟨_, rfl, _, rfl, fun d hd => ke 1 x ?_ d _ (s3.trans (Same.new hd)) upd_same⟩
          rcases hx with ⟨_, rfl⟩ | ⟨h1, rfl⟩
          · simp [Six.fault, g1, g2, g3, g]
          · simp [Six.fault, g1, g2, g3, gt (by omega), g]
        · have g : goodI 6 x = true := by simpa using c2
          refine ⟨some x, rfl, e3, fun _ => ?_, fun hi2 => ?_⟩
          · rcases hx with ⟨_, rfl⟩ | ⟨h1, rfl⟩
            · exact g
            · exact gt (by omega)
          · rcases hx with ⟨h1, rfl⟩ | ⟨h1, rfl⟩
            · omega
            · exact g
      · rintro σ H3 ⟨v8, rfl, e3, gt, gm⟩
        have g4 := gt (by show 1 ≤ 2; decide)
        have g5 := gm (by show 2 ≤ 2; decide)
        have s3 : Same H H3 := s2.trans ((Same.new nt2).trans e3)
        refine ⟨_, rfl, z.y, 999, rfl, o6.same s3, _, rfl, ite2 (fun c2 => ?_) (fun c2 => ?_)⟩
        · have g : goodI 999 z.y = false := by simpa using c2
          exact ⟨_, rfl, _, rfl, fun d hd => ke 1 z.y (by simp [Six.fault, g1, g2, g3, g4, g5, g]) d _ (s3.trans (Same.new hd)) upd_same⟩
        have g6 : goodI 999 z.y = true := by simpa using c2
        obtain ⟨t0, et⟩ : ∃ t0, z.t = .int t0 := by cases q : z.t <;> rw [q] at g4 <;> first | exact ⟨_, rfl⟩ | cases g4
        obtain ⟨m0, em⟩ : ∃ m0, z.m = .int m0 := by cases q : z.m <;> rw [q] at g5 <;> first | exact ⟨_, rfl⟩ | cases g5
        refine next_of ?_
        dsimp only
        refine seq_cut (fun σ' H' => σ' = [some (.ref p), some z.n, some z.t, some z.m, some z.b, some z.i, some z.y, v7, v8] ∧ H' = H3 ∧ z.fault = none) (fun Z hZ => ?_) ?_
        · have ft : isZ z.t = decide (t0 = 0) := by rw [et]; rfl
          have fm : isZ z.m = decide (m0 = 0) := by rw [em]; rfl
          refine ⟨_, rfl, (by rw [et]; rfl), _, rfl, ite2 (fun c3 => ⟨_, rfl, (by rw [em]; rfl), _, rfl, ite2 (fun c4 => ?_) (fun c4 => ?_)⟩) (fun c3 => ?_)⟩
          · have e1 : t0 = 0 := by simpa [et] using c3
            have e2 : m0 = 0 := by simpa [em] using c4
            refine ⟨_, rfl, _, rfl, fun d hd => ke 2 z.n (by simp [Six.fault, g1, g2, g3, g4, g5, g6, ft, fm, e1, e2]) d _ (s3.trans (Same.new hd)) upd_same⟩
          · have e2 : ¬ m0 = 0 := by simpa [em] using c4
            exact hZ _ _ ⟨rfl, rfl, by simp [Six.fault, g1, g2, g3, g4, g5, g6, ft, fm, e2]⟩
          · have e1 : ¬ t0 = 0 := by simpa [et] using c3
            exact hZ _ _ ⟨rfl, rfl, by simp [Six.fault, g1, g2, g3, g4, g5, g6, ft, fm, e1]⟩
        · rintro _ _ ⟨rfl, rfl, fn⟩
          have hp3 := s3 _ _ hp
          refine ⟨_, rfl, _, rfl, p, C, dx, [], rfl, hp3, T.cl, T.n0, by decide, ?_⟩
          refine ⟨_, rfl, _, rfl, p, C, dx, _, rfl, upd_same, T.cl, T.n1, Nat.lt_of_le_of_lt (plen (Nat.le_refl 0)) (by decide), ?_⟩
          refine ⟨_, rfl, _, rfl, p, C, dx, _, rfl, upd_same, T.cl, T.n2, Nat.lt_of_le_of_lt (plen (plen (Nat.le_refl 0))) (by decide), ?_⟩
          refine ⟨_, rfl, _, rfl, p, C, dx, _, rfl, upd_same, T.cl, T.n3, Nat.lt_of_le_of_lt (plen (plen (plen (Nat.le_refl 0)))) (by decide), ?_⟩
          refine ⟨_, rfl, _, rfl, p, C, dx, _, rfl, upd_same, T.cl, T.n4, Nat.lt_of_le_of_lt (plen (plen (plen (plen (Nat.le_refl 0))))) (by decide), ?_⟩
          refine ⟨_, rfl, _, rfl, p, C, dx, _, rfl, upd_same, T.cl, T.n5, Nat.lt_of_le_of_lt (plen (plen (plen (plen (plen (Nat.le_refl 0)))))) (by decide), ?_⟩
          refine k fn _ ?_ ((((((But.of s3).trans But.upd).trans But.upd).trans But.upd).trans But.upd).trans But.upd |>.trans But.upd)
          refine upd_same.trans ?_
          rw [put_new (fs := []) rfl, List.nil_append, put_new (fs := [_]) rfl, put_new rfl, put_new rfl, put_new rfl, put_new rfl]
          rfl
end
end N

set_option maxHeartbeats 4000000
namespace L2
open PySem PySem.Spec PyProof.Rows
/-- a class that is made, its __init__ may raise -/
structure HasX (P : Program) (w : World) (K : PySem.W.Frag) (mg : Str → Option Value) (base : Heap) (x : Str) (k : Nat) (ps : List Str) (sp : Sp) : Prop where
  ex : ∃ (f : Addr) (fd : FuncData), mg x = some (.ref f) ∧ PySem.W.keepIn K (.ref f) = true ∧ Binds K fd ps [] ∧ FnOk P w K mg base (L2.CX P w) k f fd ps sp
structure MakX (P : Program) (w : World) (K : PySem.W.Frag) (mg : Str → Option Value) (base : Heap) (x : Str) (C : Addr) (k n : Nat) (ps ks : List Str) (sp : Sp) (gV : List V → List V → List V) : Prop where
  ex : ∃ (f : Addr) (fd : FuncData) (g : List Value → List Value → List Value), mg x = some (.ref C) ∧ Mk K C f ∧ KBn K fd ps (n + 1) ks g gV ∧ FnOk P w K mg base (L2.CX P w) k f fd ps sp
structure MakD (P : Program) (w : World) (K : PySem.W.Frag) (mg : Str → Option Value) (base : Heap) (x : Str) (C : Addr) (k : Nat) (ps : List Str) (sp : Sp) (dvs : List V) : Prop where
  ex : ∃ (f : Addr) (fd : FuncData) (ds : List Value), mg x = some (.ref C) ∧ Mk K C f ∧ Binds K fd ps ds ∧ Vals dvs ds ∧ FnOk P w K mg base (L2.CX P w) k f fd ps sp
section
variable {X : Cx} {x : Str} {C : Addr} {k n : Nat} {ps ks : List Str} {sp : Sp} {gV : List V → List V → List V} {dvs : List V} {p pos : Pos} {e : Expr} {es : List Expr} {kws : List Keyword} {t tk : TA} {E : XK}
/-- f(e, ..), f may raise -/
theorem pe_hasX (h : HasX X.prog X.w X.K X.mg X.base x k ps sp) (hr : Room k X.A) (hx : Passes (L2.CX X.prog X.w) X E) (ha : PA X (e :: es) t) (hg : Gl X x := by rfl) (hdb : (x == ("__debug__" : Str)) = false := by decide)
    (he : starEach (e :: es) X.env = (false, eval e X.env) :: starEach es X.env := by rfl) (hpl : (backTo pos (starEach es X.env)).any (·.1) = false := by rfl) :
    PE X (.Call (.Name x p) (e :: es) [] pos) (tCall sp [] E t) := by
  obtain ⟨f, fd, hm, hk, hb, F⟩ := h.ex
  exact pe_call F hr hg hm hk hb .nil hx ha hdb he hpl
theorem pe_makX (h : MakX X.prog X.w X.K X.mg X.base x C k n ps ks sp gV) (hr : Room (k + 1) X.A) (hx : Passes (L2.CX X.prog X.w) X E) (ha : PA X (e :: es) t) (hkw : PK X kws tk) (hg : Gl X x := by rfl) (hdb : (x == ("__debug__" : Str)) = false := by decide)
    (hall : (backToKw pos (keywordEach kws X.env)).all (·.1.isSome) = true := by rfl) (hks : (backToKw pos (keywordEach kws X.env)).filterMap (·.1) = ks := by rfl)
    (he : starEach (e :: es) X.env = (false, eval e X.env) :: starEach es X.env := by rfl) (hpl : ((backTo pos (starEach (e :: es) X.env)).any (·.1) || (backToKw pos (keywordEach kws X.env)).any (·.1.isNone)) = false := by rfl) :
    PE X (.Call (.Name x p) (e :: es) kws pos) (tMakeK C n ks.length sp gV E t tk) := by
  obtain ⟨f, fd, g, hm, M, hb, F⟩ := h.ex
  exact pe_makeK M F hr hg hm hb hx ha hkw hall hks hdb he hpl
theorem pe_makX0 (h : MakX X.prog X.w X.K X.mg X.base x C k 0 ps ks sp gV) (hr : Room (k + 1) X.A) (hx : Passes (L2.CX X.prog X.w) X E) (hkw : PK X kws tk) (hg : Gl X x := by rfl) (hdb : (x == ("__debug__" : Str)) = false := by decide)
    (hall : (backToKw pos (keywordEach kws X.env)).all (·.1.isSome) = true := by rfl) (hks : (backToKw pos (keywordEach kws X.env)).filterMap (·.1) = ks := by rfl)
    (hpl : ((backTo pos (starEach [] X.env)).any (·.1) || (backToKw pos (keywordEach kws X.env)).any (·.1.isNone)) = false := by rfl) :
    PE X (.Call (.Name x p) [] kws pos) (tMakeK C 0 ks.length sp gV E tNil tk) := by
  obtain ⟨f, fd, g, hm, M, hb, F⟩ := h.ex
  exact pe_makeK0 M F hr hg hm hb hx hkw hall hks hdb hpl
theorem pe_makD (h : MakD X.prog X.w X.K X.mg X.base x C k ps sp dvs) (hr : Room (k + 1) X.A) (hx : Passes (L2.CX X.prog X.w) X E) (ha : PA X (e :: es) t) (hg : Gl X x := by rfl) (hdb : (x == ("__debug__" : Str)) = false := by decide)
    (he : starEach (e :: es) X.env = (false, eval e X.env) :: starEach es X.env := by rfl) (hpl : (backTo pos (starEach es X.env)).any (·.1) = false := by rfl) :
    PE X (.Call (.Name x p) (e :: es) [] pos) (tMake C sp dvs E t) := by
  obtain ⟨f, fd, ds, hm, M, hb, hd, F⟩ := h.ex
  exact pe_make M F hr hg hm hb hd hx ha hdb he hpl
end
end L2
namespace N
open PySem L2
/-! ### a kind, asked -/
def Row.six (r : Row) : Six := ⟨.str r.name, .int r.takes, .int r.makes, ov r.back, ov r.mirror, .int r.yarn⟩
def KindAt (C : Addr) (H : Hp) (a : Addr) (r : Row) : Prop := ∃ dx, H a = some (.ins C dx (kf r.six))
theorem KindAt.but {C : Addr} {H H' : Hp} {a p : Addr} {r : Row} (hp : Pot H p) (h : KindAt C H a r) (e : But p H H') : KindAt C H' a r := by
  obtain ⟨dx, h⟩ := h
  refine ⟨dx, e _ _ h fun z => ?_⟩
  obtain ⟨x, y, q, _⟩ := hp
  subst z
  rw [q] at h
  cases h
theorem KindAt.same {C : Addr} {H H' : Hp} {a : Addr} {r : Row} (h : KindAt C H a r) (e : Same H H') : KindAt C H' a r := let ⟨dx, h⟩ := h; ⟨dx, e _ _ h⟩
theorem NameOk.sign {s : Str} (h : NameOk s) : (s.cps.all fun c => decide (c < 0x110000)) = true := by
  rw [Array.all_eq_true_iff_forall_mem]
  intro c hc
  have all : ∀ c ∈ letters.cps.toList, decide (c < 0x110000) = true := by decide +kernel
  exact all c (h.2.2 c (Array.mem_toList_iff.mpr hc))
theorem small_log {i : Int} (h0 : 0 ≤ i) (h1 : i ≤ 999) : i.natAbs.log2 < 1920 := by
  have h : i.natAbs < 2 ^ 10 := by omega
  by_cases z : i.natAbs = 0
  · rw [z]; decide
  · exact Nat.lt_of_lt_of_le ((Nat.log2_lt z).mpr h) (by decide)
theorem Row.odd {r : Row} (ok : KindOk r) (H : Hp) : ∀ v ∈ r.six.vs, Odd H v := by
  have nm : ∀ s, NameOk s → Odd H (.str s) := fun s h => .str s (by have := h.2.1; omega) h.sign
  have op : ∀ o : Option Str, (∀ x, o = some x → NameOk x) → Odd H (ov o) := fun o h => by
    cases o with
    | none => exact .non
    | some s => exact nm s (h s rfl)
  intro v hv
  simp only [Row.six, Six.vs, List.mem_cons, List.mem_nil_iff, or_false] at hv
  rcases hv with rfl | rfl | rfl | rfl | rfl | rfl
  · exact nm _ ok.name
  · exact .int _ (small_log ok.takes.1 (by have := ok.takes.2; omega))
  · exact .int _ (small_log ok.makes.1 (by have := ok.makes.2; omega))
  · exact op _ ok.back
  · exact op _ ok.mirror
  · exact .int _ (small_log ok.yarn.1 ok.yarn.2)
theorem good_ov {o : Option Str} (h : ∀ x, o = some x → NameOk x) : goodO (ov o) = true := by
  cases o with
  | none => rfl
  | some s => exact decide_eq_true (h s rfl)
theorem Row.sound {r : Row} (ok : KindOk r) : r.six.fault = none := by
  have g1 : goodN r.six.n = true := decide_eq_true ok.name
  have g2 : goodO r.six.b = true := good_ov ok.back
  have g3 : goodO r.six.i = true := good_ov ok.mirror
  have g4 : goodI 6 r.six.t = true := by show (decide _ && decide _) = true; rw [decide_eq_true ok.takes.1, decide_eq_true ok.takes.2]; rfl
  have g5 : goodI 6 r.six.m = true := by show (decide _ && decide _) = true; rw [decide_eq_true ok.makes.1, decide_eq_true ok.makes.2]; rfl
  have g6 : goodI 999 r.six.y = true := by show (decide _ && decide _) = true; rw [decide_eq_true ok.yarn.1, decide_eq_true ok.yarn.2]; rfl
  have g7 : (isZ r.six.t && isZ r.six.m) = false := by
    show (decide (r.takes = 0) && decide (r.makes = 0)) = false
    have := ok.some_
    by_cases h : r.takes = 0
    · have h2 : ¬ r.makes = 0 := fun z => this ⟨h, z⟩
      simp [h2]
    · simp [h]
  simp [Six.fault, g1, g2, g3, g4, g5, g6, g7]
def spGetK (C : Addr) (g : Row → V) : Sp := fun vs H Q _ => ∃ (a : Addr) (r : Row), vs = [.ref a] ∧ KindAt C H a r ∧ Q (g r) H
abbrev PK' (P : Program) (w : World) (K : PySem.W.Frag) (mg : Str → Option Value) (base : Heap) (C : Addr) (x : Str) (g : Row → V) : Prop := HasP P w K mg base C x 1 (spGetK C g)
def rowV (r : Row) : List V := [.str r.name, .int r.takes, .int r.makes, ov r.back, ov r.mirror, .int r.yarn]
def od : Option Str → PyData
  | none => .none
  | some s => .str s
def rowD (r : Row) : List PyData := [.str r.name, .int r.takes, .int r.makes, od r.back, od r.mirror, .int r.yarn]
theorem dp_ov {K : PySem.W.Frag} {H : Hp} : ∀ o : Option Str, Dp K H (ov o) (od o)
  | none => .non
  | some s => .str s
theorem dp_row {K : PySem.W.Frag} {H : Hp} (r : Row) : DpAll K H (rowV r) (rowD r) := .cons (.str _) (.cons (.int _) (.cons (.int _) (.cons (dp_ov _) (.cons (dp_ov _) (.cons (.int _) .nil)))))
def spRowOf (C : Addr) : Sp := fun vs H Q _ => ∃ (a : Addr) (r : Row), vs = [.ref a] ∧ KindAt C H a r ∧ ∀ t, H t = none → Q (.ref t) (upd H t (.tup (rowV r)))
theorem shaped_row {r : Row} (h : KindOk r) : SeqAt.shaped (.tuple (rowD r)) = true := by
  have n : PyData.strOk r.name = true := h.name.sign
  have o : ∀ o : Option Str, (∀ x, o = some x → NameOk x) → PyData.canLay0 (od o) = true ∧ PyData.depth (od o) = 0 := fun o ho => by
    cases o with
    | none => exact ⟨rfl, rfl⟩
    | some s => exact ⟨(ho s rfl).sign, rfl⟩
  obtain ⟨b1, b2⟩ := o _ h.back
  obtain ⟨m1, m2⟩ := o _ h.mirror
  simp [SeqAt.shaped, rowD, PyData.canLay0, PyData.canLayAll0, PyData.depth, PyData.depthAll, n, b1, b2, m1, m2]
def spEqK (K : PySem.W.Frag) (C : Addr) : Sp := fun vs H Q _ => ∃ (a : Addr) (o : V) (r : Row), vs = [.ref a, o] ∧ KindAt C H a r ∧ KindOk r ∧
  ((∃ b u, o = .ref b ∧ KindAt C H b u ∧ KindOk u ∧ ∀ H', Same H H' → Q (.bl (PyData.eqv (.tuple (rowD r)) (.tuple (rowD u)))) H') ∨ ∃ T, TyX K H o (.type T) ∧ PySem.W.subIn K (.type T) (.ref C) = some false ∧ Q (.bl false) H)
section
variable {P : Program} {w : World} {K : PySem.W.Frag} {mg : Str → Option Value} {base : Heap} {C : Addr} {Cs : Nat → Addr}
abbrev s_Kind_name : Stmt := inClass (top 33) 1
theorem sc_Kind_name : FnScope ["self"] ["self"] (defScope s_Kind_name) := ⟨rfl, rfl, rfl, by decide +kernel, rfl, by decide +kernel, by decide +kernel⟩
theorem p_name (T : KindT K mg C Cs) (F : PropAt K C "name" "Kind.name" s_Kind_name) : PK' P w K mg base C "name" fun r => .str r.name := by
  refine hasP_of F sc_Kind_name (fun _ _ _ _ _ _ us hl => match us, hl with | [_], _ => rfl) (fun vs H Q E h => ?_) (fun f cdv A outer s H vs Q E hr h => ?_)
  · obtain ⟨_, _, rfl, _⟩ := h
    rfl
  · obtain ⟨a, r, rfl, ⟨dx, ha⟩, q⟩ := h
    refine ⟨_, (pss_one (ps_ret (pe_fld (pv 0) rfl))), ?_⟩
    exact ⟨_, rfl, a, C, dx, _, _, rfl, ha, T.cl, T.n0, rfl, q⟩
abbrev s_Kind_takes : Stmt := inClass (top 33) 3
theorem sc_Kind_takes : FnScope ["self"] ["self"] (defScope s_Kind_takes) := ⟨rfl, rfl, rfl, by decide +kernel, rfl, by decide +kernel, by decide +kernel⟩
theorem p_takes (T : KindT K mg C Cs) (F : PropAt K C "takes" "Kind.takes" s_Kind_takes) : PK' P w K mg base C "takes" fun r => .int r.takes := by
  refine hasP_of F sc_Kind_takes (fun _ _ _ _ _ _ us hl => match us, hl with | [_], _ => rfl) (fun vs H Q E h => ?_) (fun f cdv A outer s H vs Q E hr h => ?_)
  · obtain ⟨_, _, rfl, _⟩ := h
    rfl
  · obtain ⟨a, r, rfl, ⟨dx, ha⟩, q⟩ := h
    refine ⟨_, (pss_one (ps_ret (pe_fld (pv 0) rfl))), ?_⟩
    exact ⟨_, rfl, a, C, dx, _, _, rfl, ha, T.cl, T.n1, rfl, q⟩
abbrev s_Kind_makes : Stmt := inClass (top 33) 4
theorem sc_Kind_makes : FnScope ["self"] ["self"] (defScope s_Kind_makes) := ⟨rfl, rfl, rfl, by decide +kernel, rfl, by decide +kernel, by decide +kernel⟩
theorem p_makes (T : KindT K mg C Cs) (F : PropAt K C "makes" "Kind.makes" s_Kind_makes) : PK' P w K mg base C "makes" fun r => .int r.makes := by
  refine hasP_of F sc_Kind_makes (fun _ _ _ _ _ _ us hl => match us, hl with | [_], _ => rfl) (fun vs H Q E h => ?_) (fun f cdv A outer s H vs Q E hr h => ?_)
  · obtain ⟨_, _, rfl, _⟩ := h
    rfl
  · obtain ⟨a, r, rfl, ⟨dx, ha⟩, q⟩ := h
    refine ⟨_, (pss_one (ps_ret (pe_fld (pv 0) rfl))), ?_⟩
    exact ⟨_, rfl, a, C, dx, _, _, rfl, ha, T.cl, T.n2, rfl, q⟩
abbrev s_Kind_back : Stmt := inClass (top 33) 5
theorem sc_Kind_back : FnScope ["self"] ["self"] (defScope s_Kind_back) := ⟨rfl, rfl, rfl, by decide +kernel, rfl, by decide +kernel, by decide +kernel⟩
theorem p_back (T : KindT K mg C Cs) (F : PropAt K C "back" "Kind.back" s_Kind_back) : PK' P w K mg base C "back" fun r => ov r.back := by
  refine hasP_of F sc_Kind_back (fun _ _ _ _ _ _ us hl => match us, hl with | [_], _ => rfl) (fun vs H Q E h => ?_) (fun f cdv A outer s H vs Q E hr h => ?_)
  · obtain ⟨_, _, rfl, _⟩ := h
    rfl
  · obtain ⟨a, r, rfl, ⟨dx, ha⟩, q⟩ := h
    refine ⟨_, (pss_one (ps_ret (pe_fld (pv 0) rfl))), ?_⟩
    exact ⟨_, rfl, a, C, dx, _, _, rfl, ha, T.cl, T.n3, rfl, q⟩
abbrev s_Kind_mirror : Stmt := inClass (top 33) 6
theorem sc_Kind_mirror : FnScope ["self"] ["self"] (defScope s_Kind_mirror) := ⟨rfl, rfl, rfl, by decide +kernel, rfl, by decide +kernel, by decide +kernel⟩
theorem p_mirror (T : KindT K mg C Cs) (F : PropAt K C "mirror" "Kind.mirror" s_Kind_mirror) : PK' P w K mg base C "mirror" fun r => ov r.mirror := by
  refine hasP_of F sc_Kind_mirror (fun _ _ _ _ _ _ us hl => match us, hl with | [_], _ => rfl) (fun vs H Q E h => ?_) (fun f cdv A outer s H vs Q E hr h => ?_)
  · obtain ⟨_, _, rfl, _⟩ := h
    rfl
  · obtain ⟨a, r, rfl, ⟨dx, ha⟩, q⟩ := h
    refine ⟨_, (pss_one (ps_ret (pe_fld (pv 0) rfl))), ?_⟩
    exact ⟨_, rfl, a, C, dx, _, _, rfl, ha, T.cl, T.n4, rfl, q⟩
abbrev s_Kind_yarn : Stmt := inClass (top 33) 7
theorem sc_Kind_yarn : FnScope ["self"] ["self"] (defScope s_Kind_yarn) := ⟨rfl, rfl, rfl, by decide +kernel, rfl, by decide +kernel, by decide +kernel⟩
theorem p_yarn (T : KindT K mg C Cs) (F : PropAt K C "yarn" "Kind.yarn" s_Kind_yarn) : PK' P w K mg base C "yarn" fun r => .int r.yarn := by
  refine hasP_of F sc_Kind_yarn (fun _ _ _ _ _ _ us hl => match us, hl with | [_], _ => rfl) (fun vs H Q E h => ?_) (fun f cdv A outer s H vs Q E hr h => ?_)
  · obtain ⟨_, _, rfl, _⟩ := h
    rfl
  · obtain ⟨a, r, rfl, ⟨dx, ha⟩, q⟩ := h
    refine ⟨_, (pss_one (ps_ret (pe_fld (pv 0) rfl))), ?_⟩
    exact ⟨_, rfl, a, C, dx, _, _, rfl, ha, T.cl, T.n5, rfl, q⟩
abbrev s__numbers_and_names : Stmt := top 35
theorem sc__numbers_and_names : FnScope ["kind"] ["kind"] (defScope s__numbers_and_names) := ⟨rfl, rfl, rfl, by decide +kernel, rfl, by decide +kernel, by decide +kernel⟩
theorem h_rows (T : KindT K mg C Cs) (F : FunAt K mg "_numbers_and_names" "_numbers_and_names" s__numbers_and_names) (p1 : PK' P w K mg base C "name" fun r => .str r.name) (p2 : PK' P w K mg base C "takes" fun r => .int r.takes) (p3 : PK' P w K mg base C "makes" fun r => .int r.makes) (p4 : PK' P w K mg base C "back" fun r => ov r.back)
    (p5 : PK' P w K mg base C "mirror" fun r => ov r.mirror) (p6 : PK' P w K mg base C "yarn" fun r => .int r.yarn) : Has P w K mg base "_numbers_and_names" 3 ["kind"] (spRowOf C) := by
  refine has_of F sc__numbers_and_names (fun _ _ _ _ _ _ us hl => match us, hl with | [_], _ => rfl) (fun vs H Q E h => ?_) (fun f cdv A outer s H vs Q E hr h => ?_)
  · obtain ⟨_, _, rfl, _⟩ := h
    rfl
  · obtain ⟨a, r, rfl, hk, q⟩ := h
    obtain ⟨dx, ha⟩ := id hk
    refine ⟨_, (pss_one (ps_ret (pe_tup (pa_cons (pe_hasP p1 T.cl (hr.mono (by decide)) (pv 0)) (pa_cons (pe_hasP p2 T.cl (hr.mono (by decide)) (pv 0)) (pa_cons (pe_hasP p3 T.cl (hr.mono (by decide)) (pv 0)) (pa_cons (pe_hasP p4 T.cl (hr.mono (by decide)) (pv 0)) (pa_cons (pe_hasP p5 T.cl (hr.mono (by decide)) (pv 0)) (pa_cons (pe_hasP p6 T.cl (hr.mono (by decide)) (pv 0)) pa_nil))))))))), ?_⟩
    exact ⟨_, rfl, a, dx, _, rfl, ha, a, r, rfl, hk, _, rfl, a, dx, _, rfl, ha, a, r, rfl, hk, _, rfl, a, dx, _, rfl, ha, a, r, rfl, hk, _, rfl, a, dx, _, rfl, ha, a, r, rfl, hk, _, rfl, a, dx, _, rfl, ha, a, r, rfl, hk, _, rfl, a, dx, _, rfl, ha, a, r, rfl, hk, (by show 6 ≤ sizeLine; decide), fun t nt => q t nt⟩
abbrev s_Kind___eq__ : Stmt := inClass (top 33) 8
theorem sc_KindD_eqD : FnScope ["self", "other"] ["self", "other"] (defScope s_Kind___eq__) := ⟨rfl, rfl, rfl, by decide +kernel, rfl, by decide +kernel, by decide +kernel⟩
theorem m_eqK (B : Blts mg) (T : KindT K mg C Cs) (F : MethAt K C "__eq__" "Kind.__eq__" s_Kind___eq__) (h_numbers_and_names : Has P w K mg base "_numbers_and_names" 3 ["kind"] (spRowOf C)) : HasM P w K mg base C "__eq__" 4 ["self", "other"] (spEqK K C) := by
  refine hasM_of F sc_KindD_eqD (fun _ _ _ _ _ _ us hl => match us, hl with | [_, _], _ => rfl) (fun vs H Q E h => ?_) (fun f cdv A outer s H vs Q E hr h => ?_)
  · obtain ⟨_, _, _, rfl, _⟩ := h
    rfl
  · obtain ⟨a, o, r, rfl, hf, okr, ho⟩ := h
    refine ⟨_, (pss_one (ps_ret (pe_and (pe_callB call_isi (by rfl) B.n_isinstance (by decide +kernel) (pa_cons (pv 1) (pa_cons (pe_glob (v := .ref C) rfl T.g rfl) pa_nil))) (pe_one (pe_cmpR (op_eqD hr.units) (pe_has h_numbers_and_names (hr.mono (by decide)) (pa_cons (pv 0) pa_nil)) (pe_has h_numbers_and_names (hr.mono (by decide)) (pa_cons (pv 1) pa_nil)) (by first | exact nomark _ | rfl)))))), ?_⟩
    rcases ho with ⟨b, u, rfl, hb, oku, k⟩ | ⟨T', hT, hs, q⟩
    · obtain ⟨db, hb'⟩ := id hb
      refine ⟨_, rfl, _, _, _, _, true, rfl, .own C, T.own.ty hb', kit_self, true, rfl, ?_⟩
      refine iteT ?_
      refine ⟨_, rfl, a, r, rfl, hf, fun t ht => ?_⟩
      refine ⟨_, rfl, b, u, rfl, hb.same (Same.new ht), fun z hz => ?_⟩
      exact ⟨.tuple (rowD r), .tuple (rowD u), .tup (SqT.of (Same.new hz _ _ upd_same)) (dp_row r), .tup (SqT.of upd_same) (dp_row u), shaped_row okr, shaped_row oku, k _ ((Same.new ht).trans (Same.new hz))⟩
    · refine ⟨_, rfl, _, _, _, _, false, rfl, .own C, hT, T.own.kit hs, false, rfl, ?_⟩
      refine iteF ?_
      exact q
/-- Kind(n, t, m, back=b, mirror=i, yarn=y) -/
theorem hKind3 (B : Blts mg) (G : Globs mg) (T : KindT K mg C Cs) (I : InitAt K mg "Kind" C "Kind.__init__" s_Kind___init__ [] [("back", .non), ("mirror", .non), ("yarn", .int 1)])
    (his_name : Has P w K mg base "is_name" 1 ["value"] spIsName) (his_count_to : Has P w K mg base "is_count_to" 3 ["value", "most"] spCountTo) :
    MakX P w K mg base "Kind" C 4 3 ["self", "name", "takes", "makes", "back", "mirror", "yarn"] ["back", "mirror", "yarn"] (spKind C Cs) (fun vs zs => vs ++ zs) := by
  obtain ⟨f, fd, hm, M, F⟩ := I.ex
  obtain ⟨mv, hb⟩ := F.kbinds0 (ps := ["self", "name", "takes", "makes", "back", "mirror", "yarn"]) 4 ["back", "mirror", "yarn"] [] (fun us _ ws => us ++ ws) (by simp) (fun _ h => nomatch h) (fun a _ c => a.append c)
    (fun D doc pm an cdv ct us mv ws hu hm hw => match us, mv, ws, hu, hm, hw with | [_, _, _, _], [], [_, _, _], _, _, _ => rfl)
  exact ⟨f, fd, _, hm, M, hb, ok_kind B G T F his_name his_count_to⟩
/-- Kind(yarn=y, mirror=i, back=b, makes=m, takes=t, name=n) -/
def turn6 {α : Type} : List α → List α → List α
  | [p], [y, i, b, m, t, n] => [p, n, t, m, b, i, y]
  | l, _ => l
theorem vals_turn6 : ∀ {vs zs : List V} {us ws : List Value}, Vals vs us → Vals zs ws → Vals (turn6 vs zs) (turn6 us ws) := by
  intro vs zs us ws r1 r2
  cases r1 with
  | nil => exact .nil
  | cons a r1 =>
    cases r1 with
    | cons b c => exact .cons a (.cons b c)
    | nil =>
      cases r2 with
      | nil => exact .cons a .nil
      | cons y r2 => cases r2 with
        | nil => exact .cons a .nil
        | cons i r2 => cases r2 with
          | nil => exact .cons a .nil
          | cons bb r2 => cases r2 with
            | nil => exact .cons a .nil
            | cons m r2 => cases r2 with
              | nil => exact .cons a .nil
              | cons t r2 => cases r2 with
                | nil => exact .cons a .nil
                | cons n r2 => cases r2 with
                  | nil => exact .cons a (.cons n (.cons t (.cons m (.cons bb (.cons i (.cons y .nil))))))
                  | cons _ _ => exact .cons a .nil
theorem hKind6 (B : Blts mg) (G : Globs mg) (T : KindT K mg C Cs) (I : InitAt K mg "Kind" C "Kind.__init__" s_Kind___init__ [] [("back", .non), ("mirror", .non), ("yarn", .int 1)])
    (his_name : Has P w K mg base "is_name" 1 ["value"] spIsName) (his_count_to : Has P w K mg base "is_count_to" 3 ["value", "most"] spCountTo) :
    MakX P w K mg base "Kind" C 4 0 ["self", "name", "takes", "makes", "back", "mirror", "yarn"] ["yarn", "mirror", "back", "makes", "takes", "name"] (spKind C Cs) turn6 := by
  obtain ⟨f, fd, hm, M, F⟩ := I.ex
  obtain ⟨mv, hb⟩ := F.kbinds0 (ps := ["self", "name", "takes", "makes", "back", "mirror", "yarn"]) 1 ["yarn", "mirror", "back", "makes", "takes", "name"] [] (fun us _ ws => turn6 us ws) (by simp) (fun _ h => nomatch h) (fun a _ c => vals_turn6 a c)
    (fun D doc pm an cdv ct us mv ws hu hm hw => match us, mv, ws, hu, hm, hw with | [_], [], [_, _, _, _, _, _], _, _, _ => rfl)
  exact ⟨f, fd, _, hm, M, hb, ok_kind B G T F his_name his_count_to⟩
/-- Kind(n, t, m) -/
theorem hKindD (B : Blts mg) (G : Globs mg) (T : KindT K mg C Cs) (I : InitAt K mg "Kind" C "Kind.__init__" s_Kind___init__ [] [("back", .non), ("mirror", .non), ("yarn", .int 1)])
    (his_name : Has P w K mg base "is_name" 1 ["value"] spIsName) (his_count_to : Has P w K mg base "is_count_to" 3 ["value", "most"] spCountTo) :
    MakD P w K mg base "Kind" C 4 ["self", "name", "takes", "makes", "back", "mirror", "yarn"] (spKind C Cs) [.non, .non, .int 1] := by
  obtain ⟨f, fd, hm, M, F⟩ := I.ex
  obtain ⟨ds, hd, hb⟩ := F.binds0 (ps := ["self", "name", "takes", "makes", "back", "mirror", "yarn"]) 4 (by simp) rfl
    (fun D doc pm an cdv ct us ws hu hw => match us, ws, hu, hw with | [_, _, _, _], [_, _, _], _, _ => ⟨_, _, _, _, _, _, rfl, rfl, _, _, _, _, _, _, rfl, rfl, _, _, _, _, _, _, rfl, rfl, rfl⟩)
  exact ⟨f, fd, ds, hm, M, hb, hd, ok_kind B G T F his_name his_count_to⟩
end
end N

set_option maxHeartbeats 4000000
namespace L2
theorem Room.u1 {k : Nat} {A : PySem.Around} (r : Room k A) : A.units + 1 < PySem.cLine := by have := r.units; omega
end L2
namespace N
open PySem L2
def Twins (r u : Row) : Prop := r.takes = u.takes ∧ r.makes = u.makes
def spLoops (C : Addr) : Sp := fun vs H Q _ => ∃ (a b : Addr) (r u : Row), vs = [.ref a, .ref b] ∧ KindAt C H a r ∧ KindAt C H b u ∧ Twins r u ∧ Q (.bl true) H
def spIsBack (C : Addr) : Sp := fun vs H Q _ => ∃ (a b : Addr) (u r : Row), vs = [.ref a, .ref b] ∧ KindAt C H a u ∧ KindAt C H b r ∧ u.back = some r.name ∧ Twins u r ∧ Q (.bl true) H
def spIsMirror (C : Addr) : Sp := fun vs H Q _ => ∃ (a b : Addr) (u r : Row), vs = [.ref a, .ref b] ∧ KindAt C H a u ∧ KindAt C H b r ∧ u.mirror = some r.name ∧ Twins u r ∧ Q (.bl true) H
def spAgree (C : Addr) : Sp := fun vs H Q _ => ∃ (d b a1 a2 : Addr) (kvs : List (Key × V)) (r u w : Row) (x y z : Str), vs = [.ref d, .ref b] ∧ H d = some (.dK kvs) ∧ KindAt C H b r ∧ r.back = some x ∧ r.mirror = some y ∧
  valV kvs (.inr x) = some (.ref a1) ∧ KindAt C H a1 u ∧ valV kvs (.inr y) = some (.ref a2) ∧ KindAt C H a2 w ∧ u.mirror = some z ∧ w.back = some z ∧ Q (.bl true) H
section
variable {P : Program} {w : World} {K : PySem.W.Frag} {mg : Str → Option Value} {base : Heap} {C : Addr} {Cs : Nat → Addr}
abbrev s__same_loops : Stmt := top 39
theorem sc__same_loops : FnScope ["one", "other"] ["one", "other"] (defScope s__same_loops) := ⟨rfl, rfl, rfl, by decide +kernel, rfl, by decide +kernel, by decide +kernel⟩
theorem h_same_loops (T : KindT K mg C Cs) (F : FunAt K mg "_same_loops" "_same_loops" s__same_loops) (p2 : PK' P w K mg base C "takes" fun r => .int r.takes) (p3 : PK' P w K mg base C "makes" fun r => .int r.makes) : Has P w K mg base "_same_loops" 3 ["one", "other"] (spLoops C) := by
  refine has_of F sc__same_loops (fun _ _ _ _ _ _ us hl => match us, hl with | [_, _], _ => rfl) (fun vs H Q E h => ?_) (fun f cdv A outer s H vs Q E hr h => ?_)
  · obtain ⟨_, _, _, _, rfl, _⟩ := h
    rfl
  · obtain ⟨a, b, r, u, rfl, ha, hb, ⟨e1, e2⟩, q⟩ := h
    obtain ⟨da, ha'⟩ := id ha
    obtain ⟨db, hb'⟩ := id hb
    refine ⟨_, (pss_one (ps_ret (pe_and (pe_cmpR op_eq (pe_hasP p2 T.cl (hr.mono (by decide)) (pv 0)) (pe_hasP p2 T.cl (hr.mono (by decide)) (pv 1)) (by first | exact nomark _ | rfl)) (pe_one (pe_cmpR op_eq (pe_hasP p3 T.cl (hr.mono (by decide)) (pv 0)) (pe_hasP p3 T.cl (hr.mono (by decide)) (pv 1)) (by first | exact nomark _ | rfl)))))), ?_⟩
    refine ⟨_, rfl, a, da, _, rfl, ha', a, r, rfl, ha, _, rfl, b, db, _, rfl, hb', b, u, rfl, hb, rfl, _, rfl, ite2 (fun _ => ?_) (fun c => absurd (decide_eq_true (congrArg V.int e1)) c)⟩
    refine ⟨_, rfl, a, da, _, rfl, ha', a, r, rfl, ha, _, rfl, b, db, _, rfl, hb', b, u, rfl, hb, rfl, ?_⟩
    show Q (.bl (decide (V.int r.makes = V.int u.makes))) H
    rw [decide_eq_true (congrArg V.int e2)]
    exact q
abbrev s__is_back : Stmt := top 37
theorem sc__is_back : FnScope ["twin", "kind"] ["twin", "kind"] (defScope s__is_back) := ⟨rfl, rfl, rfl, by decide +kernel, rfl, by decide +kernel, by decide +kernel⟩
theorem h_is_back (T : KindT K mg C Cs) (F : FunAt K mg "_is_back" "_is_back" s__is_back) (p1 : PK' P w K mg base C "name" fun r => .str r.name) (p4 : PK' P w K mg base C "back" fun r => ov r.back) (h_same_loops : Has P w K mg base "_same_loops" 3 ["one", "other"] (spLoops C)) : Has P w K mg base "_is_back" 4 ["twin", "kind"] (spIsBack C) := by
  refine has_of F sc__is_back (fun _ _ _ _ _ _ us hl => match us, hl with | [_, _], _ => rfl) (fun vs H Q E h => ?_) (fun f cdv A outer s H vs Q E hr h => ?_)
  · obtain ⟨_, _, _, _, rfl, _⟩ := h
    rfl
  · obtain ⟨a, b, u, r, rfl, ha, hb, e, tw, q⟩ := h
    obtain ⟨da, ha'⟩ := id ha
    obtain ⟨db, hb'⟩ := id hb
    refine ⟨_, (pss_one (ps_ret (pe_and (pe_cmpR op_notN (pv 0) pe_non (by first | exact nomark _ | rfl)) (pe_and (pe_cmpR op_eq (pe_hasP p4 T.cl (hr.mono (by decide)) (pv 0)) (pe_hasP p1 T.cl (hr.mono (by decide)) (pv 1)) (by first | exact nomark _ | rfl)) (pe_one (pe_has h_same_loops (hr.mono (by decide)) (pa_cons (pv 0) (pa_cons (pv 1) pa_nil)))))))), ?_⟩
    refine ⟨_, rfl, rfl, true, rfl, iteT ?_⟩
    refine ⟨_, rfl, a, da, _, rfl, ha', a, u, rfl, ha, _, rfl, b, db, _, rfl, hb', b, r, rfl, hb, ?_⟩
    dsimp only
    rw [e]
    refine ⟨rfl, _, rfl, ite2 (fun _ => ?_) (fun c => absurd (decide_eq_true rfl) c)⟩
    exact ⟨_, rfl, _, rfl, a, b, u, r, rfl, ha, hb, tw, q⟩
abbrev s__is_mirror : Stmt := top 38
theorem sc__is_mirror : FnScope ["twin", "kind"] ["twin", "kind"] (defScope s__is_mirror) := ⟨rfl, rfl, rfl, by decide +kernel, rfl, by decide +kernel, by decide +kernel⟩
theorem h_is_mirror (T : KindT K mg C Cs) (F : FunAt K mg "_is_mirror" "_is_mirror" s__is_mirror) (p1 : PK' P w K mg base C "name" fun r => .str r.name) (p5 : PK' P w K mg base C "mirror" fun r => ov r.mirror) (h_same_loops : Has P w K mg base "_same_loops" 3 ["one", "other"] (spLoops C)) : Has P w K mg base "_is_mirror" 4 ["twin", "kind"] (spIsMirror C) := by
  refine has_of F sc__is_mirror (fun _ _ _ _ _ _ us hl => match us, hl with | [_, _], _ => rfl) (fun vs H Q E h => ?_) (fun f cdv A outer s H vs Q E hr h => ?_)
  · obtain ⟨_, _, _, _, rfl, _⟩ := h
    rfl
  · obtain ⟨a, b, u, r, rfl, ha, hb, e, tw, q⟩ := h
    obtain ⟨da, ha'⟩ := id ha
    obtain ⟨db, hb'⟩ := id hb
    refine ⟨_, (pss_one (ps_ret (pe_and (pe_cmpR op_notN (pv 0) pe_non (by first | exact nomark _ | rfl)) (pe_and (pe_cmpR op_eq (pe_hasP p5 T.cl (hr.mono (by decide)) (pv 0)) (pe_hasP p1 T.cl (hr.mono (by decide)) (pv 1)) (by first | exact nomark _ | rfl)) (pe_one (pe_has h_same_loops (hr.mono (by decide)) (pa_cons (pv 0) (pa_cons (pv 1) pa_nil)))))))), ?_⟩
    refine ⟨_, rfl, rfl, true, rfl, iteT ?_⟩
    refine ⟨_, rfl, a, da, _, rfl, ha', a, u, rfl, ha, _, rfl, b, db, _, rfl, hb', b, r, rfl, hb, ?_⟩
    dsimp only
    rw [e]
    refine ⟨rfl, _, rfl, ite2 (fun _ => ?_) (fun c => absurd (decide_eq_true rfl) c)⟩
    exact ⟨_, rfl, _, rfl, a, b, u, r, rfl, ha, hb, tw, q⟩
abbrev s__both_agree : Stmt := top 40
theorem sc__both_agree : FnScope ["table", "kind", "behind", "mirrored"] ["table", "kind"] (defScope s__both_agree) := ⟨rfl, rfl, rfl, by decide +kernel, rfl, by decide +kernel, by decide +kernel⟩
theorem h_both_agree (T : KindT K mg C Cs) (F : FunAt K mg "_both_agree" "_both_agree" s__both_agree) (p4 : PK' P w K mg base C "back" fun r => ov r.back) (p5 : PK' P w K mg base C "mirror" fun r => ov r.mirror) : Has P w K mg base "_both_agree" 3 ["table", "kind"] (spAgree C) := by
  refine has_of F sc__both_agree (fun _ _ _ _ _ _ us hl => match us, hl with | [_, _], _ => rfl) (fun vs H Q E h => ?_) (fun f cdv A outer s H vs Q E hr h => ?_)
  · obtain ⟨_, _, _, _, _, _, _, _, _, _, _, rfl, _⟩ := h
    rfl
  · obtain ⟨d, b, a1, a2, kvs, r, u, v, x, y, z, rfl, hd, hb, ex, ey, g1, h1, g2, h2, eu, ev, q⟩ := h
    obtain ⟨db, hb'⟩ := id hb
    obtain ⟨d1, h1'⟩ := id h1
    obtain ⟨d2, h2'⟩ := id h2
    refine ⟨_, (pss_cons (ps_set (i := 2) sc__both_agree.nd rfl (Or.inl rfl) (pe_dget hr.u1 (pv 0) (pe_hasP p4 T.cl (hr.mono (by decide)) (pv 1)) (fun _ _ => rfl)))
      (pss_cons (ps_set (i := 3) sc__both_agree.nd rfl (Or.inl rfl) (pe_dget hr.u1 (pv 0) (pe_hasP p5 T.cl (hr.mono (by decide)) (pv 1)) (fun _ _ => rfl)))
      (pss_one (ps_ret (pe_and (pe_cmpR op_notN (pe_hasP p5 T.cl (hr.mono (by decide)) (pv 2)) pe_non (by first | exact nomark _ | rfl)) (pe_one (pe_cmpR op_eq (pe_hasP p5 T.cl (hr.mono (by decide)) (pv 2)) (pe_hasP p4 T.cl (hr.mono (by decide)) (pv 3)) (by first | exact nomark _ | rfl)))))))), ?_⟩
    refine ⟨_, rfl, _, rfl, b, db, _, rfl, hb', b, r, rfl, hb, d, .ref a1, rfl, .inl ⟨kvs, .inr x, .inl hd, by show ov r.back = _; rw [ex]; rfl, g1.symm⟩, ?_⟩
    refine ⟨_, rfl, _, rfl, b, db, _, rfl, hb', b, r, rfl, hb, d, .ref a2, rfl, .inl ⟨kvs, .inr y, .inl hd, by show ov r.mirror = _; rw [ey]; rfl, g2.symm⟩, ?_⟩
    refine ⟨_, rfl, a1, d1, _, rfl, h1', a1, u, rfl, h1, ?_⟩
    dsimp only
    rw [eu]
    refine ⟨rfl, true, rfl, iteT ?_⟩
    refine ⟨_, rfl, a1, d1, _, rfl, h1', a1, u, rfl, h1, _, rfl, a2, d2, _, rfl, h2', a2, v, rfl, h2, ?_⟩
    dsimp only
    rw [eu, ev]
    refine ⟨rfl, ?_⟩
    rw [decide_eq_true rfl]
    exact q
end
end N

set_option maxHeartbeats 4000000
namespace N
open PySem L2
def tab (as : List Addr) (rs : List Row) : List (Key × V) := List.zipWith (fun a r => ((.inr r.name : Key), V.ref a)) as rs
theorem tab_find {C : Addr} {H : Hp} : ∀ {as : List Addr} {rs : List Row}, Paired (KindAt C H) as rs → (rs.map (·.name)).Nodup → ∀ u ∈ rs, ∃ b, valV (tab as rs) (.inr u.name) = some (.ref b) ∧ KindAt C H b u
  | _, _, .nil, _, u, h => nomatch h
  | _, _, .cons (a := a) (b := r) x y, nd, u, h => by
    rw [List.map_cons, List.nodup_cons] at nd
    rcases List.mem_cons.mp h with e | h
    · subst e
      exact ⟨a, valV_pos rfl, x⟩
    · obtain ⟨b, g, k⟩ := tab_find y nd.2 u h
      refine ⟨b, ?_, k⟩
      refine Eq.trans (valV_neg fun e => nd.1 ?_) g
      have e' : r.name = u.name := Sum.inr.inj e
      rw [e']
      exact List.mem_map_of_mem h
theorem tab_snoc {as : List Addr} {rs : List Row} {i : Nat} {a : Addr} {r : Row} (ha : as[i]? = some a) (hr : rs[i]? = some r) : tab (as.take (i + 1)) (rs.take (i + 1)) = tab (as.take i) (rs.take i) ++ [(.inr r.name, .ref a)] := by
  have l1 := (List.getElem?_eq_some_iff.mp ha).1
  have l2 := (List.getElem?_eq_some_iff.mp hr).1
  unfold tab
  rw [List.take_add_one, List.take_add_one, ha, hr, List.zipWith_append (by rw [List.length_take, List.length_take]; omega)]
  rfl
theorem tab_no {as : List Addr} {rs : List Row} {i : Nat} {r : Row} (nd : (rs.map (·.name)).Nodup) (hr : rs[i]? = some r) : valV (tab (as.take i) (rs.take i)) (.inr r.name) = none := by
  refine valV_no fun q hq e => ?_
  have mem : ∀ {as : List Addr} {ss : List Row} {q : Key × V}, q ∈ tab as ss → ∃ s ∈ ss, q.1 = .inr s.name := fun {as ss q} h => by
    induction as generalizing ss with
    | nil => simp [tab] at h
    | cons a as ih =>
      cases ss with
      | nil => simp [tab] at h
      | cons s ss =>
        rcases List.mem_cons.mp h with e | h
        · exact ⟨s, .head _, by rw [e]⟩
        · obtain ⟨z, hz, e⟩ := ih h
          exact ⟨z, .tail _ hz, e⟩
  obtain ⟨s, hs, es⟩ := mem hq
  have en : s.name = r.name := Sum.inr.inj (es.symm.trans e)
  obtain ⟨j, hj⟩ := List.getElem?_of_mem hs
  have hji : j < i := by
    have := (List.getElem?_eq_some_iff.mp hj).1
    rw [List.length_take] at this
    omega
  rw [List.getElem?_take_of_lt hji] at hj
  have li := (List.getElem?_eq_some_iff.mp hr).1
  have a1 : (rs.map (·.name))[j]? = some r.name := by rw [List.getElem?_map, hj]; exact congrArg some en
  have a2 : (rs.map (·.name))[i]? = some r.name := by rw [List.getElem?_map, hr]; rfl
  have := (List.getElem?_inj (by rw [List.length_map]; omega) nd).mp (a1.trans a2.symm)
  omega
theorem tab_len {as : List Addr} {rs : List Row} : (tab as rs).length ≤ as.length := by
  unfold tab
  rw [List.length_zipWith]
  exact Nat.min_le_left _ _
/-- what a book asks of its kinds beside their names -/
structure FitOk (rs : List Row) : Prop where
  back : ∀ r ∈ rs, ∀ x, r.back = some x → ∃ u ∈ rs, u.name = x ∧ u.back = some r.name ∧ u.takes = r.takes ∧ u.makes = r.makes
  mirror : ∀ r ∈ rs, ∀ x, r.mirror = some x → ∃ u ∈ rs, u.name = x ∧ u.mirror = some r.name ∧ u.takes = r.takes ∧ u.makes = r.makes
  agree : ∀ r ∈ rs, ∀ x y, r.back = some x → r.mirror = some y → ∃ u ∈ rs, ∃ w ∈ rs, u.name = x ∧ w.name = y ∧ u.mirror ≠ none ∧ u.mirror = w.back
theorem PartOk.fit {both : Bool} {rs : List Row} (h : PartOk both rs) : FitOk rs := ⟨h.back, h.mirror, h.agree⟩
def spCheck (K : PySem.W.Frag) (C : Addr) : Sp := fun vs H Q _ => ∃ (t : Addr) (as : List Addr) (rs : List Row), vs = [.ref t] ∧ SqT K H t (as.map V.ref) ∧ Paired (KindAt C H) as rs ∧ FitOk rs ∧ (rs.map (·.name)).Nodup ∧ as.length ≤ 1000 ∧ ∀ H', Same H H' → Q .non H'
section
variable {P : Program} {w : World} {K : PySem.W.Frag} {mg : Str → Option Value} {base : Heap} {C : Addr} {Cs : Nat → Addr}
abbrev s__check_kinds : Stmt := top 36
theorem sc__check_kinds : FnScope ["kinds", "table", "kind"] ["kinds"] (defScope s__check_kinds) := ⟨rfl, rfl, rfl, by decide +kernel, rfl, by decide +kernel, by decide +kernel⟩
theorem h_check_kinds (T : KindT K mg C Cs) (F : FunAt K mg "_check_kinds" "_check_kinds" s__check_kinds) (p1 : PK' P w K mg base C "name" fun r => .str r.name) (p4 : PK' P w K mg base C "back" fun r => ov r.back) (p5 : PK' P w K mg base C "mirror" fun r => ov r.mirror) (h_is_back : Has P w K mg base "_is_back" 4 ["twin", "kind"] (spIsBack C))
    (h_is_mirror : Has P w K mg base "_is_mirror" 4 ["twin", "kind"] (spIsMirror C)) (h_both_agree : Has P w K mg base "_both_agree" 3 ["table", "kind"] (spAgree C)) : Has P w K mg base "_check_kinds" 5 ["kinds"] (spCheck K C) := by
  refine has_of F sc__check_kinds (fun _ _ _ _ _ _ us hl => match us, hl with | [_], _ => rfl) (fun vs H Q E h => ?_) (fun f cdv A outer s H vs Q E hr h => ?_)
  · obtain ⟨_, _, _, rfl, _⟩ := h
    rfl
  · obtain ⟨t, as, rs, rfl, ht, hk, part, nd, hz, k⟩ := h
    refine ⟨_, (pss_cons (ps_set (i := 1) sc__check_kinds.nd rfl (Or.inl rfl) pe_dnewK)
      (pss_cons (ps_for PassesOwn.never rfl (pi_tup (pv 0)) (pg_name (i := 2) sc__check_kinds.nd rfl (Or.inl rfl))
        (pss_cons (ps_if (pt_cmp (pc_din hr.u1 (pe_hasP p1 T.cl (hr.mono (by decide)) (pv 2)) (pv 1))) (pss_one ps_never)
          pss_nil)
        (pss_one (ps_dput hr.u1 (pv 1) (pe_hasP p1 T.cl (hr.mono (by decide)) (pv 2)) (pv 2) rfl))))
      (pss_cons (ps_for PassesOwn.never rfl (pi_tup (pv 0)) (pg_name (i := 2) sc__check_kinds.nd rfl (Or.inl rfl))
        (pss_one (ps_if (PW.pt (pw_and (pt_cmpR op_notN (pe_hasP p4 T.cl (hr.mono (by decide)) (pv 2)) pe_non (by first | exact nomark _ | rfl)) (pw_and1 (pt_not (pt_val (pe_has h_is_back (hr.mono (by decide)) (pa_cons (pe_dget1 hr.u1 (pv 1) (pe_hasP p4 T.cl (hr.mono (by decide)) (pv 2)) ⟨rfl, rfl, rfl, rfl⟩) (pa_cons (pv 2) pa_nil)))))))) (pss_one ps_never)
          pss_nil)))
      (pss_cons (ps_for PassesOwn.never rfl (pi_tup (pv 0)) (pg_name (i := 2) sc__check_kinds.nd rfl (Or.inl rfl))
        (pss_one (ps_if (PW.pt (pw_and (pt_cmpR op_notN (pe_hasP p5 T.cl (hr.mono (by decide)) (pv 2)) pe_non (by first | exact nomark _ | rfl)) (pw_and1 (pt_not (pt_val (pe_has h_is_mirror (hr.mono (by decide)) (pa_cons (pe_dget1 hr.u1 (pv 1) (pe_hasP p5 T.cl (hr.mono (by decide)) (pv 2)) ⟨rfl, rfl, rfl, rfl⟩) (pa_cons (pv 2) pa_nil)))))))) (pss_one ps_never)
          pss_nil)))
      (pss_one (ps_for PassesOwn.never rfl (pi_tup (pv 0)) (pg_name (i := 2) sc__check_kinds.nd rfl (Or.inl rfl))
        (pss_one (ps_if (PW.pt (pw_and (pt_cmpR op_notN (pe_hasP p4 T.cl (hr.mono (by decide)) (pv 2)) pe_non (by first | exact nomark _ | rfl)) (pw_and (pt_cmpR op_notN (pe_hasP p5 T.cl (hr.mono (by decide)) (pv 2)) pe_non (by first | exact nomark _ | rfl)) (pw_and1 (pt_not (pt_val (pe_has h_both_agree (hr.mono (by decide)) (pa_cons (pv 1) (pa_cons (pv 2) pa_nil))))))))) (pss_one ps_never)
          pss_nil)))))))), ?_⟩
    refine fun d nd0 => ?_
    have len := paired_len hk
    refine ⟨_, rfl, t, rfl, ⟨as.map V.ref, (Same.new nd0).st ht⟩, for_tup (K := K) (a := t) (xs := as.map V.ref) (fun i σ H' => ∃ v : Option V, σ = [some (.ref t), some (.ref d), v] ∧ H' d = some (.dK (tab (as.take i) (rs.take i))) ∧ Same H H')
      ⟨none, rfl, by rw [upd_same]; rfl, Same.new nd0⟩ (fun i σ H' _ ⟨_, _, _, e⟩ => e.st ht) ?_ ?_⟩
    · rintro i x σ H' hx ⟨v, rfl, hd, e⟩
      obtain ⟨a, ha, rfl⟩ := map_at hx
      obtain ⟨r, hr', ka⟩ := paired_get hk ha
      obtain ⟨dx, ka'⟩ := ka.same e
      refine ⟨_, rfl, a, dx, _, rfl, ka', a, r, rfl, ka.same e, _, rfl, d, none, rfl, .inl ⟨_, .inr r.name, .inl hd, rfl, (tab_no nd hr').symm⟩, false, rfl, iteF ?_⟩
      refine ⟨_, rfl, _, rfl, _, rfl, a, dx, _, rfl, ka', a, r, rfl, ka.same e, d, _, rfl, .inl ⟨_, .inr r.name, hd, rfl, ?_, rfl⟩, ?_⟩
      · refine Nat.lt_of_le_of_lt tab_len ?_
        rw [List.length_take]
        exact Nat.lt_of_le_of_lt (Nat.le_trans (Nat.min_le_right _ _) hz) (by decide)
      · refine ⟨_, rfl, ?_, fun c o hc => (upd_ne (ne_of_none hc nd0)).trans (e c o hc)⟩
        rw [upd_same, putK_new _ (tab_no nd hr'), tab_snoc ha hr']
    · rintro σ H1 ⟨v, rfl, hd, e⟩
      rw [List.length_map, List.take_length, len, List.take_length] at hd
      refine ⟨_, rfl, t, rfl, ⟨as.map V.ref, e.st ht⟩, for_tup (K := K) (a := t) (xs := as.map V.ref) (fun i σ H' => ∃ v : Option V, σ = [some (.ref t), some (.ref d), v] ∧ H' d = some (.dK (tab as rs)) ∧ Same H H')
        ⟨_, rfl, hd, e⟩ (fun i σ H' _ ⟨_, _, _, e⟩ => e.st ht) ?_ ?_⟩
      · rintro i x σ H' hx ⟨v, rfl, hd, e⟩
        obtain ⟨a, ha, rfl⟩ := map_at hx
        obtain ⟨r, hr', ka⟩ := paired_get hk ha
        have ka2 := ka.same e
        obtain ⟨dx, ka'⟩ := id ka2
        refine ⟨_, rfl, a, dx, _, rfl, ka', a, r, rfl, ka2, ?_⟩
        dsimp only
        cases eb : r.back with
        | none => exact ⟨rfl, _, rfl, iteNS rfl (iteF ⟨_, rfl, hd, e⟩)⟩
        | some z =>
          refine ⟨rfl, _, rfl, ite2 (fun _ => ?_) (fun c => absurd (by rw [decide_eq_false (fun z => nomatch z)]; rfl) c)⟩
          obtain ⟨u, hu, en, eu, e1, e2⟩ := part.back r (List.mem_of_getElem? hr') z eb
          obtain ⟨b, gb, kb⟩ := tab_find hk nd u hu
          rw [en] at gb
          refine ⟨_, rfl, d, rfl, .inl ⟨_, .inl hd⟩, _, rfl, a, dx, _, rfl, ka', a, r, rfl, ka2, some (.ref b), .inl ⟨_, .inr z, .inl hd, by show ov r.back = _; rw [eb]; rfl, gb.symm⟩, _, rfl, b, a, u, r, rfl, kb.same e, ka2, eu, ⟨e1, e2⟩, true, rfl, iteF ⟨_, rfl, hd, e⟩⟩
      rintro σ H2 ⟨v, rfl, hd, e⟩
      refine ⟨_, rfl, t, rfl, ⟨as.map V.ref, e.st ht⟩, for_tup (K := K) (a := t) (xs := as.map V.ref) (fun i σ H' => ∃ v : Option V, σ = [some (.ref t), some (.ref d), v] ∧ H' d = some (.dK (tab as rs)) ∧ Same H H')
        ⟨_, rfl, hd, e⟩ (fun i σ H' _ ⟨_, _, _, e⟩ => e.st ht) ?_ ?_⟩
      · rintro i x σ H' hx ⟨v, rfl, hd, e⟩
        obtain ⟨a, ha, rfl⟩ := map_at hx
        obtain ⟨r, hr', ka⟩ := paired_get hk ha
        have ka2 := ka.same e
        obtain ⟨dx, ka'⟩ := id ka2
        refine ⟨_, rfl, a, dx, _, rfl, ka', a, r, rfl, ka2, ?_⟩
        dsimp only
        cases eb : r.mirror with
        | none => exact ⟨rfl, _, rfl, iteNS rfl (iteF ⟨_, rfl, hd, e⟩)⟩
        | some z =>
          refine ⟨rfl, _, rfl, ite2 (fun _ => ?_) (fun c => absurd (by rw [decide_eq_false (fun z => nomatch z)]; rfl) c)⟩
          obtain ⟨u, hu, en, eu, e1, e2⟩ := part.mirror r (List.mem_of_getElem? hr') z eb
          obtain ⟨b, gb, kb⟩ := tab_find hk nd u hu
          rw [en] at gb
          refine ⟨_, rfl, d, rfl, .inl ⟨_, .inl hd⟩, _, rfl, a, dx, _, rfl, ka', a, r, rfl, ka2, some (.ref b), .inl ⟨_, .inr z, .inl hd, by show ov r.mirror = _; rw [eb]; rfl, gb.symm⟩, _, rfl, b, a, u, r, rfl, kb.same e, ka2, eu, ⟨e1, e2⟩, true, rfl, iteF ⟨_, rfl, hd, e⟩⟩
      rintro σ H3 ⟨v, rfl, hd, e⟩
      refine ⟨_, rfl, t, rfl, ⟨as.map V.ref, e.st ht⟩, for_tup (K := K) (a := t) (xs := as.map V.ref) (fun i σ H' => ∃ v : Option V, σ = [some (.ref t), some (.ref d), v] ∧ H' d = some (.dK (tab as rs)) ∧ Same H H')
        ⟨_, rfl, hd, e⟩ (fun i σ H' _ ⟨_, _, _, e⟩ => e.st ht) ?_ (fun σ H' ⟨_, _, _, e⟩ => k H' e)⟩
      rintro i x σ H' hx ⟨v, rfl, hd, e⟩
      obtain ⟨a, ha, rfl⟩ := map_at hx
      obtain ⟨r, hr', ka⟩ := paired_get hk ha
      have ka2 := ka.same e
      obtain ⟨dx, ka'⟩ := id ka2
      refine ⟨_, rfl, a, dx, _, rfl, ka', a, r, rfl, ka2, ?_⟩
      dsimp only
      cases eb : r.back with
      | none => exact ⟨rfl, _, rfl, iteNS rfl (iteF ⟨_, rfl, hd, e⟩)⟩
      | some z =>
        refine ⟨rfl, _, rfl, ite2 (fun _ => ?_) (fun c => absurd (by rw [decide_eq_false (fun z => nomatch z)]; rfl) c)⟩
        refine ⟨_, rfl, a, dx, _, rfl, ka', a, r, rfl, ka2, ?_⟩
        dsimp only
        cases em : r.mirror with
        | none => exact ⟨rfl, _, rfl, iteNS rfl (iteF ⟨_, rfl, hd, e⟩)⟩
        | some y =>
          refine ⟨rfl, _, rfl, ite2 (fun _ => ?_) (fun c => absurd (by rw [decide_eq_false (fun z => nomatch z)]; rfl) c)⟩
          obtain ⟨u, hu, w, hw, en, ew, un, uw⟩ := part.agree r (List.mem_of_getElem? hr') z y eb em
          obtain ⟨b, gb, kb⟩ := tab_find hk nd u hu
          obtain ⟨c, gc, kc⟩ := tab_find hk nd w hw
          rw [en] at gb
          rw [ew] at gc
          cases eu : u.mirror with
          | none => exact absurd eu un
          | some x => exact ⟨_, rfl, _, rfl, d, a, b, c, _, r, u, w, z, y, x, rfl, hd, ka2, eb, em, gb, kb.same e, gc, kc.same e, eu, uw.symm.trans eu, true, rfl, iteF ⟨_, rfl, hd, e⟩⟩
end
end N

set_option maxHeartbeats 4000000
namespace L2
open PySem PySem.Spec PyProof.Rows
/-- a method of self and one more, that may be named in the call -/
structure HasMK (P : Program) (w : World) (K : PySem.W.Frag) (mg : Str → Option Value) (base : Heap) (C : Addr) (m : Str) (k : Nat) (a b : Str) (sp : Sp) : Prop where
  ex : ∃ (f : Addr) (fd : FuncData), Meth K C m f ∧ Binds K fd [a, b] [] ∧ (∀ u v : Value, bindArgs fd ⟨[u], [(b, v)]⟩ = pure [(a, u), (b, v)]) ∧ FnOk P w K mg base CX0 k f fd [a, b] sp
section
variable {P : Program} {w : World} {K : PySem.W.Frag} {mg : Str → Option Value} {base : Heap} {C : Addr}
theorem HasMK.m {m a b : Str} {k : Nat} {sp : Sp} (h : HasMK P w K mg base C m k a b sp) : HasM P w K mg base C m k [a, b] sp := by
  obtain ⟨f, fd, h1, h2, _, h4⟩ := h.ex
  exact ⟨f, fd, h1, h2, h4⟩
theorem hasMK_of {m qual : Str} {st : Stmt} {N : List Str} {a b : Str} {k : Nat} {sp : Sp} (F : MethAt K C m qual st) (S : FnScope N [a, b] (defScope st))
    (hb : ∀ (kV doc pm : Value) (an : Option Addr) (cdv ct : Value) (us : List Value), us.length = [a, b].length → bindArgs (PySem.W.fnOf m qual (defArgs st) (defBody st) (defScope st) .none kV doc pm an cdv ct) ⟨us, []⟩ = pure ([a, b].zip us))
    (len : ∀ vs H Q E, sp vs H Q E → vs.length = [a, b].length)
    (hbody : ∀ (f : Addr) (cdv : Value) (A : Around) (outer : List Env) (s : Shared) (H : Hp) (vs : List V) (Q : VK) (E : XK), Room k (A.deeper (envOfC qual (defScope st) s.heap.objs.size f cdv)) → sp vs H Q E →
      ∃ t, PSs (cxOf CX0 P w K mg base N qual (defScope st) f cdv A outer s H E).nox (defBody st) t ∧ t { nx := fun _ H' => Q .non H', rt := Q } (start N vs) H)
    (hk : ∀ (kV doc pm : Value) (an : Option Addr) (cdv ct : Value) (u v : Value), bindArgs (PySem.W.fnOf m qual (defArgs st) (defBody st) (defScope st) .none kV doc pm an cdv ct) ⟨[u], [(b, v)]⟩ = pure [(a, u), (b, v)] := by intros; rfl) : HasMK P w K mg base C m (k + 1) a b sp := by
  obtain ⟨f, fd, hm, F⟩ := F.ex
  obtain ⟨oc, od, kV, doc, pm, an, cdv, ct, osl, rfl, lk, hcd⟩ := id F.ex
  exact ⟨f, _, hm, F.binds hb, hk _ _ _ _ _ _, F.ok S len (hbody f)⟩
end
section
variable {X : Cx} {C : Addr} {m a b : Str} {k : Nat} {sp : Sp} {apos pos kpos : Pos} {o e : Expr} {ta te : TE} {pl : Sem Bool}
/-- o.m(b=e) -/
theorem pe_hasMK (h : HasMK X.prog X.w X.K X.mg X.base C m k a b sp) (c : Cls X.K C) (hr : Room k X.A) (ho : PE X o ta) (he : PE X e te)
    (ht : eval (.Call (.Attribute o m apos) [] [⟨some b, e, kpos⟩] pos) X.env = (do
      let ov ← eval o X.env
      standAt apos.atName
      let (f, first) ← holding [ov] (getMethod ov m pl)
      callWith pos f first (backTo pos (starEach [] X.env)) (backToKw pos (keywordEach [⟨some b, e, kpos⟩] X.env))) := by rfl) :
    PE X (.Call (.Attribute o m apos) [] [⟨some b, e, kpos⟩] pos) (tMeth C m sp [] E0 ta (tCons te tNil)) := by
  obtain ⟨f, fd, hm, hb, hk, F⟩ := h.ex
  refine ⟨fun pins s σ H Q I h => ?_⟩
  refine PySem.W.methodCall_KW (pl := pl) (thn (ho.run pins s σ H _ I h) fun u s1 ⟨x, H1, I1, rx, a', dx, fs, ex, ea, l, q⟩ => ?_) ht
  subst ex
  obtain rfl : u = Value.ref a' := rx
  refine getmeth_ok I1 ea c hm l ?_
  refine PySem.W.callWith_KW0 (first := [.ref a']) (h₀ := X.base) I.ok.mod.kin hm.kp rfl ?_ rfl
  refine thn ((pk_cons he pk_nil).run pos pins s1 σ H1 _ I1 q) fun ws s2 ⟨zs, H2, I2, rz, q2⟩ => ⟨I2.kIn, ?_⟩
  have hl := F.len _ _ _ _ q2
  have r2 : Vals (V.ref a' :: (zs ++ [])) (Value.ref a' :: ws) := by
    rw [List.append_nil]
    exact .cons rfl rz
  have lw : ws.length = 1 := by
    have := r2.length
    rw [hl] at this
    simpa using this.symm
  obtain ⟨w1, rfl⟩ : ∃ w1, ws = [w1] := match ws, lw with | [w1], _ => ⟨w1, rfl⟩
  show wpAny (model X.prog X.w) X.A (call (.ref f) [.ref a'] [(b, w1)]) _ _ s2
  have bt : BindsTo s2 fd ⟨[.ref a'], [(b, w1)]⟩ ([a, b].zip [.ref a', w1]) := BindsTo.of_looks fun M => .of_pure (hk _ _)
  refine wpAny_call (codeAny_mono (F.run X.A X.stack s2 H2 ⟨[.ref a'], [(b, w1)]⟩ [.ref a', w1] _ Q E0 hr I2.env0 bt r2 q2) fun r s' hq => ?_)
  cases r with
  | error er => exact (pass0 pins σ H2 s2 er s' I2 hq)
  | ok fl =>
    cases fl with
    | ret u => exact I2.after hq
    | next => exact False.elim hq
    | brk => exact False.elim hq
    | cont => exact False.elim hq
end
end L2

set_option maxHeartbeats 4000000
namespace L2
open PySem PySem.Spec PyProof.Rows
theorem call_isiF {X : Cx} (K : PySem.W.Frag) (hK : X.K = K := by rfl) : CallR X (.builtin "isinstance") (rIsi K) := by
  subst hK
  exact call_isi
end L2
namespace N
open PySem L2
/-! ### a book, asked -/
structure BookT (K : PySem.W.Frag) (mg : Str → Option Value) (CB : Addr) : Prop where
  own : OwnC K CB
  nk : NoAttr K CB "_kinds"
  nt : NoAttr K CB "_table"
  g : mg "Book" = some (.ref CB)
  names : ∃ t, mg "MOST_NAMES_kinds" = some (.int 240 t)
theorem BookT.cl {K : PySem.W.Frag} {mg : Str → Option Value} {CB : Addr} (U : BookT K mg CB) : Cls K CB := U.own.cl
/-- a book of the kinds rs, told in the sequence qs (as they are sorted) -/
def BookAt (CB C : Addr) (H : Hp) (a : Addr) (rs qs : List Row) : Prop := ∃ (dx t d : Addr) (as bs : List Addr), H a = some (.ins CB dx [("_kinds", .ref t), ("_table", .ref d)]) ∧ H t = some (.tup (bs.map V.ref)) ∧ Paired (KindAt C H) bs qs ∧
  H d = some (.dK (tab as rs)) ∧ Paired (KindAt C H) as rs ∧ (rs.map (·.name)).Nodup
theorem BookAt.same {CB C : Addr} {H H' : Hp} {a : Addr} {rs qs : List Row} (h : BookAt CB C H a rs qs) (e : Same H H') : BookAt CB C H' a rs qs := by
  obtain ⟨dx, t, d, as, bs, h1, h2, h3, h4, h5, h6⟩ := h
  exact ⟨dx, t, d, as, bs, e _ _ h1, e _ _ h2, L2.Paired.mapP h3 fun _ _ k => k.same e, e _ _ h4, L2.Paired.mapP h5 fun _ _ k => k.same e, h6⟩
/-- a tuple, maybe one that is known to its object -/
def TupAt (H : Hp) (l : Addr) (xs : List V) : Prop := H l = some (.tup xs) ∨ ∃ o, H l = some (.frz o (.tup xs))
/-- a tuple that is known to stand without a dict of its own -/
def FrzT (H : Hp) (l : Addr) (xs : List V) : Prop := ∃ o, o.cls = .type "tuple" ∧ o.dict = none ∧ H l = some (.frz o (.tup xs))
theorem FrzT.at {H : Hp} {l : Addr} {xs : List V} (h : FrzT H l xs) : TupAt H l xs := let ⟨o, _, _, e⟩ := h; .inr ⟨o, e⟩
theorem TupAt.st {K : PySem.W.Frag} {H : Hp} {l : Addr} {xs : List V} (h : TupAt H l xs) : SqT K H l xs := .inl h
theorem TupAt.same {H H' : Hp} {l : Addr} {xs : List V} (h : TupAt H l xs) (e : Same H H') : TupAt H' l xs := h.elim (fun h => .inl (e _ _ h)) fun ⟨o, h⟩ => .inr ⟨o, e _ _ h⟩
theorem FrzT.same {H H' : Hp} {l : Addr} {xs : List V} (h : FrzT H l xs) (e : Same H H') : FrzT H' l xs := let ⟨o, a, b, c⟩ := h; ⟨o, a, b, e _ _ c⟩
theorem TupAt.ty {K : PySem.W.Frag} {H : Hp} {l : Addr} {xs : List V} (h : TupAt H l xs) : TyX K H (.ref l) (.type "tuple") := h.elim (fun h => .base (.tup h)) fun ⟨_, h⟩ => .fTuple h
/-- a word: names of rows of the book -/
def WordOf (rs : List Row) (us : List Row) : Prop := us.length ≤ 240 ∧ ∀ u ∈ us, u ∈ rs
def wordV (us : List Row) : List V := us.map fun u => .str u.name
def spIsWord (K : PySem.W.Frag) (CB C : Addr) : Sp := fun vs H Q _ => ∃ (a l : Addr) (rs qs us : List Row), vs = [.ref a, .ref l] ∧ BookAt CB C H a rs qs ∧ TupAt H l (wordV us) ∧ WordOf rs us ∧ ∀ H', Same H H' → Q (.bl true) H'
section
variable {P : Program} {w : World} {K : PySem.W.Frag} {mg : Str → Option Value} {base : Heap} {C CB : Addr} {Cs : Nat → Addr}
abbrev s_Book_is_word : Stmt := inClass (top 34) 4
theorem sc_Book_is_word : FnScope ["self", "value", "table", "name"] ["self", "value"] (defScope s_Book_is_word) := ⟨rfl, rfl, rfl, by decide +kernel, rfl, by decide +kernel, by decide +kernel⟩
theorem m_is_word (B : Blts mg) (U : BookT K mg CB) (F : MethAt K CB "is_word" "Book.is_word" s_Book_is_word) : HasMK P w K mg base CB "is_word" 1 "self" "value" (spIsWord K CB C) := by
  obtain ⟨_, g_MOST_NAMES_kinds⟩ := U.names
  refine hasMK_of F sc_Book_is_word (fun _ _ _ _ _ _ us hl => match us, hl with | [_, _], _ => rfl) (fun vs H Q E h => ?_) (fun f cdv A outer s H vs Q E hr h => ?_)
  · obtain ⟨_, _, _, _, _, rfl, _⟩ := h
    rfl
  · obtain ⟨a, l, rs, qs, us, rfl, hb, hl, ⟨h240, hw⟩, k⟩ := h
    obtain ⟨dx, t, d, as, bs, ha, ht, hbs, hd, has, nd⟩ := id hb
    refine ⟨_, (pss_cons (ps_if (PW.pt (pw_or (pt_not (pt_val (pe_callB call_isi (by rfl) B.n_isinstance (by decide +kernel) (pa_cons (pv 1) (pa_cons (pe_bltn (v := .ty "tuple") (u := .type "tuple") rfl B.n_tuple (by decide +kernel) rfl) pa_nil))))) (pw_or1 (pt_cmpR op_gt (pe_callB call_len (by rfl) B.n_len PySem.boot_len (pa_cons (pv 1) pa_nil)) (pe_glob (v := .int 240) rfl g_MOST_NAMES_kinds ⟨_, rfl⟩) (by first | exact nomark _ | rfl))))) (pss_one (ps_ret pe_bl))
        pss_nil)
      (pss_cons (ps_set (i := 2) sc_Book_is_word.nd rfl (Or.inr rfl) (pe_fld (pv 0) rfl))
      (pss_one (ps_ret (pe_callB (cr_all rfl) (by rfl) B.n_all (by decide +kernel) (pa_cons (pe_lc (own := [("name", 3)]) rfl sc_Book_is_word.nd (pi_tup (pv 1)) (blkOk_by (own := [("name", 3)]) (N := ["self", "value", "table", "name"]) (sc := defScope s_Book_is_word) (by decide +kernel)) (fun _ _ _ _ _ => by exact (pg_name (i := 3) sc_Book_is_word.nd rfl (Or.inl rfl))) (fun _ _ _ _ _ => by exact pts_nil) (fun _ _ _ _ _ => by exact (pe_and (pe_callB (call_isiF K) (by rfl) B.n_isinstance (by decide +kernel) (pa_cons (pv 3) (pa_cons (pe_bltn (v := .ty "str") (u := .type "str") rfl B.n_str (by decide +kernel) rfl) pa_nil))) (pe_one (pe_cmp (pc_din hr.u1 (pv 3) (pv 2))))))) pa_nil)))))), ?_⟩
    have tt : kitB "tuple" "tuple" = some true := by decide +kernel
    have ts : kitB "str" "str" = some true := by decide +kernel
    have wl : (wordV us).length = us.length := List.length_map _
    refine ⟨_, rfl, _, _, _, _, _, rfl, .ty _, hl.ty, kit_b tt, _, rfl, iteF ?_⟩
    refine ⟨_, rfl, _, us.length, rfl, .inr ⟨_, hl.st, wl.symm⟩, _, _, rfl, rfl, _, rfl, ite2 (fun c => absurd (of_decide_eq_true c) (by omega)) (fun _ => ?_)⟩
    refine next_of ?_
    dsimp only
    refine ⟨_, rfl, a, CB, dx, _, _, rfl, ha, U.cl, U.nt, rfl, ?_⟩
    refine next_of ?_
    dsimp only
    refine ⟨_, rfl, l, rfl, ⟨_, hl.st⟩, fun D nD => lc_map walk_tup (fun _ => .bl true) nD (by omega) (fun H' s' => (hl.same s').st) ?_ ?_⟩
    · rintro i x H1 H2 hi s1 ⟨rfl, hx⟩ R hR
      rw [wordV, List.getElem?_map] at hx
      cases hu : us[i]? with
      | none => rw [hu] at hx; cases hx
      | some u =>
        rw [hu] at hx
        cases (Option.some.inj hx : V.str u.name = x)
        obtain ⟨b, gb, _⟩ := tab_find has nd u (hw u (List.mem_of_getElem? hu))
        refine ⟨rfl, _, rfl, _, _, _, _, _, rfl, .ty _, .base (.str _), kit_b ts, _, rfl, iteT ?_⟩
        exact ⟨_, rfl, _, rfl, d, some (.ref b), rfl, .inl ⟨_, .inr u.name, .inl (s1 _ _ hd), rfl, gb.symm⟩, hR _ (Same.refl _)⟩
    · intro H1 s1 hD
      refine ⟨D, (List.range (wordV us).length).map fun _ => true, rfl, SqL.of (by rw [List.map_map]; exact hD), ?_⟩
      rw [show ((List.range (wordV us).length).map fun _ => true).all id = true by simp]
      exact k _ s1
end
end N

set_option maxHeartbeats 4000000
namespace N
open PySem L2
/-- where the table has the kind of a row -/
def kAt (t : List (Key × V)) (u : Row) : Addr := match valV t (.inr u.name) with
  | some (.ref b) => b
  | _ => 0
theorem kAt_is {C : Addr} {H : Hp} {as : List Addr} {rs : List Row} {u : Row} (h : Paired (KindAt C H) as rs) (nd : (rs.map (·.name)).Nodup) (hu : u ∈ rs) : valV (tab as rs) (.inr u.name) = some (.ref (kAt (tab as rs) u)) ∧ KindAt C H (kAt (tab as rs) u) u := by
  obtain ⟨b, g, k⟩ := tab_find h nd u hu
  have e : kAt (tab as rs) u = b := by unfold kAt; rw [g]
  rw [e]
  exact ⟨g, k⟩
def at_ (us : List Row) (t : List (Key × V)) (i : Nat) : V := match us[i]? with
  | some u => .ref (kAt t u)
  | none => .non
theorem at_all (us : List Row) (t : List (Key × V)) : (List.range us.length).map (at_ us t) = (us.map (kAt t)).map V.ref := by
  refine List.ext_getElem (by simp) fun i h1 h2 => ?_
  have hi : i < us.length := by simpa using h1
  simp [at_, List.getElem?_eq_getElem hi]
theorem paired_map {α β : Type} {F : α → β → Prop} {f : β → α} : ∀ {l : List β}, (∀ u ∈ l, F (f u) u) → Paired F (l.map f) l
  | [], _ => .nil
  | _ :: _, h => .cons (h _ (.head _)) (paired_map fun u hu => h u (.tail _ hu))
def spKindsOf (CB C : Addr) : Sp := fun vs H Q _ => ∃ (a l : Addr) (rs qs us : List Row), vs = [.ref a, .ref l] ∧ BookAt CB C H a rs qs ∧ TupAt H l (wordV us) ∧ WordOf rs us ∧ ∀ q ps H', H q = none → H' q = some (.lst (ps.map V.ref)) → Paired (KindAt C H') ps us → Same H H' → Q (.ref q) H'
def sumOf (g : Row → Int) (us : List Row) : Int := (us.map g).sum
def spSum (CB C : Addr) (g : Row → Int) : Sp := fun vs H Q _ => ∃ (a l : Addr) (rs qs us : List Row), vs = [.ref a, .ref l] ∧ BookAt CB C H a rs qs ∧ TupAt H l (wordV us) ∧ WordOf rs us ∧ ∀ H', Same H H' → Q (.int (sumOf g us)) H'
def gAt (us : List Row) (g : Row → V) (i : Nat) : V := match us[i]? with
  | some u => g u
  | none => .non
theorem gAt_all (us : List Row) (g : Row → V) : (List.range us.length).map (gAt us g) = us.map g := by
  refine List.ext_getElem (by simp) fun i h1 h2 => ?_
  have hi : i < us.length := by simpa using h1
  simp [gAt, List.getElem?_eq_getElem hi]
section
variable {P : Program} {w : World} {K : PySem.W.Frag} {mg : Str → Option Value} {base : Heap} {C CB : Addr} {Cs : Nat → Addr}
abbrev s_Book__kinds_of : Stmt := inClass (top 34) 11
theorem sc_BookDkinds_of : FnScope ["self", "word", "name"] ["self", "word"] (defScope s_Book__kinds_of) := ⟨rfl, rfl, rfl, by decide +kernel, rfl, by decide +kernel, by decide +kernel⟩
theorem m_kinds_of (U : BookT K mg CB) (F : MethAt K CB "_kinds_of" "Book._kinds_of" s_Book__kinds_of) (m_is_word : HasM P w K mg base CB "is_word" 1 ["self", "value"] (spIsWord K CB C)) : HasM P w K mg base CB "_kinds_of" 2 ["self", "word"] (spKindsOf CB C) := by
  refine hasM_of F sc_BookDkinds_of (fun _ _ _ _ _ _ us hl => match us, hl with | [_, _], _ => rfl) (fun vs H Q E h => ?_) (fun f cdv A outer s H vs Q E hr h => ?_)
  · obtain ⟨_, _, _, _, _, rfl, _⟩ := h
    rfl
  · obtain ⟨a, l, rs, qs, us, rfl, hb, hl, hw, k⟩ := h
    obtain ⟨dx, t, d, as, bs, ha, ht, hbs, hd, has, nd⟩ := id hb
    refine ⟨_, (pss_cons (ps_if (pt_not (pt_val (pe_hasM m_is_word U.cl (hr.mono (by decide)) (pv 0) (pa_cons (pv 1) pa_nil)))) (pss_one ps_never)
        pss_nil)
      (pss_one (ps_ret (pe_lc (own := [("name", 2)]) rfl sc_BookDkinds_of.nd (pi_tup (pv 1)) (blkOk_by (own := [("name", 2)]) (N := ["self", "word", "name"]) (sc := defScope s_Book__kinds_of) (by decide +kernel)) (fun _ _ _ _ _ => by exact (pg_name (i := 2) sc_BookDkinds_of.nd rfl (Or.inl rfl))) (fun _ _ _ _ _ => by exact pts_nil) (fun _ _ _ _ _ => by exact (pe_dget hr.u1 (pe_fldK K (pv 0) rfl) (pv 2) (fun _ _ => rfl))))))), ?_⟩
    refine ⟨_, rfl, a, dx, _, rfl, ha, rfl, _, rfl, a, l, rs, qs, us, rfl, hb, hl, hw, fun H1 s1 => ⟨_, rfl, iteF ?_⟩⟩
    refine next_of ?_
    dsimp only
    have hl1 := hl.same s1
    have wl : (wordV us).length = us.length := List.length_map _
    have h240 := hw.1
    refine ⟨_, rfl, l, rfl, ⟨_, hl1.st⟩, fun D nD => lc_map walk_tup (at_ us (tab as rs)) nD (by omega) (fun H' s' => (hl1.same s').st) ?_ ?_⟩
    · rintro i x H2 H3 hi s2 ⟨rfl, hx⟩ R hR
      rw [wordV, List.getElem?_map] at hx
      cases hu : us[i]? with
      | none => rw [hu] at hx; cases hx
      | some u =>
        rw [hu] at hx
        cases (Option.some.inj hx : V.str u.name = x)
        have gb := (kAt_is has nd (hw.2 u (List.mem_of_getElem? hu))).1
        have q := hR H3 (Same.refl _)
        rw [at_, hu] at q
        exact ⟨rfl, _, rfl, a, CB, dx, _, _, rfl, s2 _ _ (s1 _ _ ha), U.cl, U.nt, rfl, _, rfl, d, _, rfl, .inl ⟨_, .inr u.name, .inl (s2 _ _ (s1 _ _ hd)), rfl, gb.symm⟩, q⟩
    · intro H2 s2 hD
      rw [wl, at_all] at hD
      have nD0 : H D = none := by
        cases e : H D with
        | none => rfl
        | some o => rw [s1 _ _ e] at nD; cases nD
      exact k D _ H2 nD0 hD (paired_map fun u hu => ((kAt_is has nd (hw.2 u hu)).2.same s1).same s2) (s1.trans s2)
abbrev s_Book_taken : Stmt := inClass (top 34) 5
theorem sc_Book_taken : FnScope ["self", "word", "kind"] ["self", "word"] (defScope s_Book_taken) := ⟨rfl, rfl, rfl, by decide +kernel, rfl, by decide +kernel, by decide +kernel⟩
theorem m_taken (B : Blts mg) (U : BookT K mg CB) (T : KindT K mg C Cs) (F : MethAt K CB "taken" "Book.taken" s_Book_taken) (p2 : PK' P w K mg base C "takes" fun r => .int r.takes) (m_kinds_of : HasM P w K mg base CB "_kinds_of" 2 ["self", "word"] (spKindsOf CB C)) : HasMK P w K mg base CB "taken" 3 "self" "word" (spSum CB C Row.takes) := by
  refine hasMK_of F sc_Book_taken (fun _ _ _ _ _ _ us hl => match us, hl with | [_, _], _ => rfl) (fun vs H Q E h => ?_) (fun f cdv A outer s H vs Q E hr h => ?_)
  · obtain ⟨_, _, _, _, _, rfl, _⟩ := h
    rfl
  · obtain ⟨a, l, rs, qs, us, rfl, hb, hl, hw, k⟩ := h
    obtain ⟨dx, _, _, _, _, ha, _⟩ := id hb
    refine ⟨_, (pss_one (ps_ret (pe_callB (cr_sum rfl) (by rfl) B.n_sum (by decide +kernel) (pa_cons (pe_lc (own := [("kind", 2)]) rfl sc_Book_taken.nd (pi_list (pe_hasM m_kinds_of U.cl (hr.mono (by decide)) (pv 0) (pa_cons (pv 1) pa_nil))) (blkOk_by (own := [("kind", 2)]) (N := ["self", "word", "kind"]) (sc := defScope s_Book_taken) (by decide +kernel)) (fun _ _ _ _ _ => by exact (pg_name (i := 2) sc_Book_taken.nd rfl (Or.inl rfl))) (fun _ _ _ _ _ => by exact pts_nil) (fun _ _ _ _ _ => by exact (pe_hasP p2 T.cl (hr.mono (by decide)) (pv 2)))) pa_nil)))), ?_⟩
    refine ⟨_, rfl, a, dx, _, rfl, ha, rfl, _, rfl, a, l, rs, qs, us, rfl, hb, hl, hw, fun q ps H1 nq hq hp s1 => ?_⟩
    have len := paired_len hp
    have h240 := hw.1
    refine ⟨q, rfl, ⟨_, SqL.of hq⟩, fun D nD => lc_map walk_list (gAt us fun r => .int r.takes) nD (by rw [List.length_map]; omega) (fun H' s' => SqL.of (s' _ _ hq)) ?_ ?_⟩
    · rintro i x H2 H3 hi s2 ⟨rfl, hx⟩ R hR
      obtain ⟨b, hbx, rfl⟩ := map_at hx
      obtain ⟨u, hu, kb⟩ := paired_get hp hbx
      obtain ⟨db, hb'⟩ := kb.same s2
      have qq := hR H3 (Same.refl _)
      rw [gAt, hu] at qq
      exact ⟨rfl, _, rfl, b, db, _, rfl, hb', b, u, rfl, kb.same s2, qq⟩
    · intro H2 s2 hD
      rw [List.length_map, len, gAt_all] at hD
      exact ⟨D, us.map Row.takes, rfl, SqL.of (by rw [List.map_map]; exact hD), k H2 (s1.trans s2)⟩
abbrev s_Book_loops_made : Stmt := inClass (top 34) 7
theorem sc_Book_loops_made : FnScope ["self", "word", "kind"] ["self", "word"] (defScope s_Book_loops_made) := ⟨rfl, rfl, rfl, by decide +kernel, rfl, by decide +kernel, by decide +kernel⟩
theorem m_loops_made (B : Blts mg) (U : BookT K mg CB) (T : KindT K mg C Cs) (F : MethAt K CB "loops_made" "Book.loops_made" s_Book_loops_made) (p3 : PK' P w K mg base C "makes" fun r => .int r.makes) (m_kinds_of : HasM P w K mg base CB "_kinds_of" 2 ["self", "word"] (spKindsOf CB C)) : HasM P w K mg base CB "loops_made" 3 ["self", "word"] (spSum CB C Row.makes) := by
  refine hasM_of F sc_Book_loops_made (fun _ _ _ _ _ _ us hl => match us, hl with | [_, _], _ => rfl) (fun vs H Q E h => ?_) (fun f cdv A outer s H vs Q E hr h => ?_)
  · obtain ⟨_, _, _, _, _, rfl, _⟩ := h
    rfl
  · obtain ⟨a, l, rs, qs, us, rfl, hb, hl, hw, k⟩ := h
    obtain ⟨dx, _, _, _, _, ha, _⟩ := id hb
    refine ⟨_, (pss_one (ps_ret (pe_callB (cr_sum rfl) (by rfl) B.n_sum (by decide +kernel) (pa_cons (pe_lc (own := [("kind", 2)]) rfl sc_Book_loops_made.nd (pi_list (pe_hasM m_kinds_of U.cl (hr.mono (by decide)) (pv 0) (pa_cons (pv 1) pa_nil))) (blkOk_by (own := [("kind", 2)]) (N := ["self", "word", "kind"]) (sc := defScope s_Book_loops_made) (by decide +kernel)) (fun _ _ _ _ _ => by exact (pg_name (i := 2) sc_Book_loops_made.nd rfl (Or.inl rfl))) (fun _ _ _ _ _ => by exact pts_nil) (fun _ _ _ _ _ => by exact (pe_hasP p3 T.cl (hr.mono (by decide)) (pv 2)))) pa_nil)))), ?_⟩
    refine ⟨_, rfl, a, dx, _, rfl, ha, rfl, _, rfl, a, l, rs, qs, us, rfl, hb, hl, hw, fun q ps H1 nq hq hp s1 => ?_⟩
    have len := paired_len hp
    have h240 := hw.1
    refine ⟨q, rfl, ⟨_, SqL.of hq⟩, fun D nD => lc_map walk_list (gAt us fun r => .int r.makes) nD (by rw [List.length_map]; omega) (fun H' s' => SqL.of (s' _ _ hq)) ?_ ?_⟩
    · rintro i x H2 H3 hi s2 ⟨rfl, hx⟩ R hR
      obtain ⟨b, hbx, rfl⟩ := map_at hx
      obtain ⟨u, hu, kb⟩ := paired_get hp hbx
      obtain ⟨db, hb'⟩ := kb.same s2
      have qq := hR H3 (Same.refl _)
      rw [gAt, hu] at qq
      exact ⟨rfl, _, rfl, b, db, _, rfl, hb', b, u, rfl, kb.same s2, qq⟩
    · intro H2 s2 hD
      rw [List.length_map, len, gAt_all] at hD
      exact ⟨D, us.map Row.makes, rfl, SqL.of (by rw [List.map_map]; exact hD), k H2 (s1.trans s2)⟩
abbrev s_Book_made : Stmt := inClass (top 34) 6
theorem sc_Book_made : FnScope ["self", "word"] ["self", "word"] (defScope s_Book_made) := ⟨rfl, rfl, rfl, by decide +kernel, rfl, by decide +kernel, by decide +kernel⟩
theorem m_made (U : BookT K mg CB) (F : MethAt K CB "made" "Book.made" s_Book_made) (m_loops_made : HasM P w K mg base CB "loops_made" 3 ["self", "word"] (spSum CB C Row.makes)) : HasMK P w K mg base CB "made" 4 "self" "word" (spSum CB C Row.makes) := by
  refine hasMK_of F sc_Book_made (fun _ _ _ _ _ _ us hl => match us, hl with | [_, _], _ => rfl) (fun vs H Q E h => ?_) (fun f cdv A outer s H vs Q E hr h => ?_)
  · obtain ⟨_, _, _, _, _, rfl, _⟩ := h
    rfl
  · obtain ⟨a, l, rs, qs, us, rfl, hb, hl, hw, k⟩ := h
    obtain ⟨dx, _, _, _, _, ha, _⟩ := id hb
    refine ⟨_, (pss_one (ps_ret (pe_hasM m_loops_made U.cl (hr.mono (by decide)) (pv 0) (pa_cons (pv 1) pa_nil)))), ?_⟩
    exact ⟨_, rfl, a, dx, _, rfl, ha, rfl, _, rfl, a, l, rs, qs, us, rfl, hb, hl, hw, k⟩
abbrev s_Book_yarn_of : Stmt := inClass (top 34) 8
theorem sc_Book_yarn_of : FnScope ["self", "word", "kind"] ["self", "word"] (defScope s_Book_yarn_of) := ⟨rfl, rfl, rfl, by decide +kernel, rfl, by decide +kernel, by decide +kernel⟩
theorem m_yarn_of (B : Blts mg) (U : BookT K mg CB) (T : KindT K mg C Cs) (F : MethAt K CB "yarn_of" "Book.yarn_of" s_Book_yarn_of) (p6 : PK' P w K mg base C "yarn" fun r => .int r.yarn) (m_kinds_of : HasM P w K mg base CB "_kinds_of" 2 ["self", "word"] (spKindsOf CB C)) : HasMK P w K mg base CB "yarn_of" 3 "self" "word" (spSum CB C Row.yarn) := by
  refine hasMK_of F sc_Book_yarn_of (fun _ _ _ _ _ _ us hl => match us, hl with | [_, _], _ => rfl) (fun vs H Q E h => ?_) (fun f cdv A outer s H vs Q E hr h => ?_)
  · obtain ⟨_, _, _, _, _, rfl, _⟩ := h
    rfl
  · obtain ⟨a, l, rs, qs, us, rfl, hb, hl, hw, k⟩ := h
    obtain ⟨dx, _, _, _, _, ha, _⟩ := id hb
    refine ⟨_, (pss_one (ps_ret (pe_callB (cr_sum rfl) (by rfl) B.n_sum (by decide +kernel) (pa_cons (pe_lc (own := [("kind", 2)]) rfl sc_Book_yarn_of.nd (pi_list (pe_hasM m_kinds_of U.cl (hr.mono (by decide)) (pv 0) (pa_cons (pv 1) pa_nil))) (blkOk_by (own := [("kind", 2)]) (N := ["self", "word", "kind"]) (sc := defScope s_Book_yarn_of) (by decide +kernel)) (fun _ _ _ _ _ => by exact (pg_name (i := 2) sc_Book_yarn_of.nd rfl (Or.inl rfl))) (fun _ _ _ _ _ => by exact pts_nil) (fun _ _ _ _ _ => by exact (pe_hasP p6 T.cl (hr.mono (by decide)) (pv 2)))) pa_nil)))), ?_⟩
    refine ⟨_, rfl, a, dx, _, rfl, ha, rfl, _, rfl, a, l, rs, qs, us, rfl, hb, hl, hw, fun q ps H1 nq hq hp s1 => ?_⟩
    have len := paired_len hp
    have h240 := hw.1
    refine ⟨q, rfl, ⟨_, SqL.of hq⟩, fun D nD => lc_map walk_list (gAt us fun r => .int r.yarn) nD (by rw [List.length_map]; omega) (fun H' s' => SqL.of (s' _ _ hq)) ?_ ?_⟩
    · rintro i x H2 H3 hi s2 ⟨rfl, hx⟩ R hR
      obtain ⟨b, hbx, rfl⟩ := map_at hx
      obtain ⟨u, hu, kb⟩ := paired_get hp hbx
      obtain ⟨db, hb'⟩ := kb.same s2
      have qq := hR H3 (Same.refl _)
      rw [gAt, hu] at qq
      exact ⟨rfl, _, rfl, b, db, _, rfl, hb', b, u, rfl, kb.same s2, qq⟩
    · intro H2 s2 hD
      rw [List.length_map, len, gAt_all] at hD
      exact ⟨D, us.map Row.yarn, rfl, SqL.of (by rw [List.map_map]; exact hD), k H2 (s1.trans s2)⟩
end
end N

set_option maxHeartbeats 4000000
namespace N
open PySem L2
/-- is a value the name of a kind of the book -/
def inBook (rs : List Row) : V → Bool
  | .str s => decide (s ∈ rs.map (·.name))
  | _ => false
theorem tab_none {as : List Addr} {rs : List Row} {s : Str} (h : s ∉ rs.map (·.name)) : valV (tab as rs) (.inr s) = none := by
  refine valV_no fun q hq e => h ?_
  have mem : ∀ {as : List Addr} {ss : List Row} {q : Key × V}, q ∈ tab as ss → ∃ z ∈ ss, q.1 = .inr z.name := fun {as ss q} h => by
    induction as generalizing ss with
    | nil => simp [tab] at h
    | cons a as ih =>
      cases ss with
      | nil => simp [tab] at h
      | cons z ss =>
        rcases List.mem_cons.mp h with e | h
        · exact ⟨z, .head _, by rw [e]⟩
        · obtain ⟨y, hy, e⟩ := ih h
          exact ⟨y, .tail _ hy, e⟩
  obtain ⟨z, hz, ez⟩ := mem hq
  have en : z.name = s := Sum.inr.inj (ez.symm.trans e)
  exact en ▸ List.mem_map_of_mem hz
def spIn (CB C : Addr) : Sp := fun vs H Q _ => ∃ (a : Addr) (v : V) (rs qs : List Row), vs = [.ref a, v] ∧ BookAt CB C H a rs qs ∧ Odd H v ∧ Q (.bl (inBook rs v)) H
def spNames (CB C : Addr) : Sp := fun vs H Q _ => ∃ (a : Addr) (rs qs : List Row), vs = [.ref a] ∧ BookAt CB C H a rs qs ∧ qs.length ≤ 1000 ∧ ∀ q H', H q = none → H' q = some (.lst (qs.map fun r => .str r.name)) → Same H H' → Q (.ref q) H'
section
variable {P : Program} {w : World} {K : PySem.W.Frag} {mg : Str → Option Value} {base : Heap} {C CB : Addr} {Cs : Nat → Addr}
abbrev s_Book___contains__ : Stmt := inClass (top 34) 13
theorem sc_BookD_containsD : FnScope ["self", "x"] ["self", "x"] (defScope s_Book___contains__) := ⟨rfl, rfl, rfl, by decide +kernel, rfl, by decide +kernel, by decide +kernel⟩
theorem m_contains (B : Blts mg) (U : BookT K mg CB) (F : MethAt K CB "__contains__" "Book.__contains__" s_Book___contains__) : HasM P w K mg base CB "__contains__" 1 ["self", "x"] (spIn CB C) := by
  refine hasM_of F sc_BookD_containsD (fun _ _ _ _ _ _ us hl => match us, hl with | [_, _], _ => rfl) (fun vs H Q E h => ?_) (fun f cdv A outer s H vs Q E hr h => ?_)
  · obtain ⟨_, _, _, _, rfl, _⟩ := h
    rfl
  · obtain ⟨a, v, rs, qs, rfl, hb, hv, k⟩ := h
    obtain ⟨dx, t, d, as, bs, ha, ht, hbs, hd, has, nd⟩ := id hb
    obtain ⟨Tn, ty, ks, _, _⟩ := hv.ty (K := K)
    refine ⟨_, (pss_one (ps_ret (pe_and (pe_callB call_isi (by rfl) B.n_isinstance (by decide +kernel) (pa_cons (pv 1) (pa_cons (pe_bltn (v := .ty "str") (u := .type "str") rfl B.n_str (by decide +kernel) rfl) pa_nil))) (pe_one (pe_cmp (pc_din hr.u1 (pv 1) (pe_fld (pv 0) rfl))))))), ?_⟩
    refine ⟨_, rfl, _, _, _, _, _, rfl, .ty _, ty, kit_b ks, _, rfl, ?_⟩
    cases v with
    | str z =>
      refine iteT ?_
      by_cases hz : z ∈ rs.map (·.name)
      · obtain ⟨u, hu, rfl⟩ := List.mem_map.mp hz
        have gb := (kAt_is has nd hu).1
        have k' : Q (.bl true) H := by
          have e : inBook rs (.str u.name) = true := decide_eq_true hz
          rw [e] at k
          exact k
        exact ⟨_, rfl, _, rfl, a, CB, dx, _, _, rfl, ha, U.cl, U.nt, rfl, d, some (.ref _), rfl, .inl ⟨_, .inr u.name, .inl hd, rfl, gb.symm⟩, k'⟩
      · have k' : Q (.bl false) H := by
          have e : inBook rs (.str z) = false := decide_eq_false hz
          rw [e] at k
          exact k
        exact ⟨_, rfl, _, rfl, a, CB, dx, _, _, rfl, ha, U.cl, U.nt, rfl, d, none, rfl, .inl ⟨_, .inr z, .inl hd, rfl, (tab_none hz).symm⟩, k'⟩
    | _ => exact iteF k
abbrev s_Book_names : Stmt := inClass (top 34) 3
theorem sc_Book_names : FnScope ["self", "kind"] ["self"] (defScope s_Book_names) := ⟨rfl, rfl, rfl, by decide +kernel, rfl, by decide +kernel, by decide +kernel⟩
theorem m_names (U : BookT K mg CB) (T : KindT K mg C Cs) (F : MethAt K CB "names" "Book.names" s_Book_names) (p1 : PK' P w K mg base C "name" fun r => .str r.name) : HasM P w K mg base CB "names" 3 ["self"] (spNames CB C) := by
  refine hasM_of F sc_Book_names (fun _ _ _ _ _ _ us hl => match us, hl with | [_], _ => rfl) (fun vs H Q E h => ?_) (fun f cdv A outer s H vs Q E hr h => ?_)
  · obtain ⟨_, _, _, rfl, _⟩ := h
    rfl
  · obtain ⟨a, rs, qs, rfl, hb, hq, k⟩ := h
    obtain ⟨dx, t, d, as, bs, ha, ht, hbs, hd, has, nd⟩ := id hb
    refine ⟨_, (pss_one (ps_ret (pe_lc (own := [("kind", 1)]) rfl sc_Book_names.nd (pi_tup (pe_fld (pv 0) rfl)) (blkOk_by (own := [("kind", 1)]) (N := ["self", "kind"]) (sc := defScope s_Book_names) (by decide +kernel)) (fun _ _ _ _ _ => by exact (pg_name (i := 1) sc_Book_names.nd rfl (Or.inl rfl))) (fun _ _ _ _ _ => by exact pts_nil) (fun _ _ _ _ _ => by exact (pe_hasP p1 T.cl (hr.mono (by decide)) (pv 1)))))), ?_⟩
    have len := paired_len hbs
    refine ⟨_, rfl, a, CB, dx, _, _, rfl, ha, U.cl, U.nk, rfl, t, rfl, ⟨_, SqT.of ht⟩, fun D nD => lc_map walk_tup (gAt qs fun r => .str r.name) nD (by rw [List.length_map]; omega) (fun H' s' => SqT.of (s' _ _ ht)) ?_ ?_⟩
    · rintro i x H2 H3 hi s2 ⟨rfl, hx⟩ R hR
      obtain ⟨b, hbx, rfl⟩ := map_at hx
      obtain ⟨u, hu, kb⟩ := paired_get hbs hbx
      obtain ⟨db, hb'⟩ := kb.same s2
      have qq := hR H3 (Same.refl _)
      rw [gAt, hu] at qq
      exact ⟨rfl, _, rfl, b, db, _, rfl, hb', b, u, rfl, kb.same s2, qq⟩
    · intro H2 s2 hD
      rw [List.length_map, len, gAt_all] at hD
      exact k D H2 nD hD s2
end
end N

set_option maxHeartbeats 4000000
namespace N
open PySem L2
/-- read backward, with the back or the mirror of each -/
def spBackward (CB C : Addr) (g : Row → Option Str) : Sp := fun vs H Q _ => ∃ (a l : Addr) (rs qs us : List Row), vs = [.ref a, .ref l] ∧ BookAt CB C H a rs qs ∧ TupAt H l (wordV us) ∧ WordOf rs us ∧ (∀ u ∈ us, g u ≠ none) ∧
  ∀ q H', H q = none → H' q = some (.tup (us.reverse.map fun u => ov (g u))) → Same H H' → Q (.ref q) H'
theorem isN_some {o : Option Str} (h : o ≠ none) : decide (ov o = V.non) = false := by
  cases o with
  | none => exact absurd rfl h
  | some s => exact decide_eq_false fun z => by cases z
theorem paired_rev {α β : Type} {F : α → β → Prop} : ∀ {l : List α} {m : List β}, Paired F l m → Paired F l.reverse m.reverse
  | _, _, .nil => .nil
  | _, _, .cons a x => by
    rw [List.reverse_cons, List.reverse_cons]
    exact paired_app (paired_rev x) (.cons a .nil)
section
variable {P : Program} {w : World} {K : PySem.W.Frag} {mg : Str → Option Value} {base : Heap} {C CB : Addr} {Cs : Nat → Addr}
abbrev s_Book_mirrored : Stmt := inClass (top 34) 10
theorem sc_Book_mirrored : FnScope ["self", "word", "kinds", "kind"] ["self", "word"] (defScope s_Book_mirrored) := ⟨rfl, rfl, rfl, by decide +kernel, rfl, by decide +kernel, by decide +kernel⟩
theorem m_mirrored (B : Blts mg) (U : BookT K mg CB) (T : KindT K mg C Cs) (F : MethAt K CB "mirrored" "Book.mirrored" s_Book_mirrored) (p5 : PK' P w K mg base C "mirror" fun r => ov r.mirror) (m_kinds_of : HasM P w K mg base CB "_kinds_of" 2 ["self", "word"] (spKindsOf CB C)) : HasMK P w K mg base CB "mirrored" 3 "self" "word" (spBackward CB C Row.mirror) := by
  refine hasMK_of F sc_Book_mirrored (fun _ _ _ _ _ _ us hl => match us, hl with | [_, _], _ => rfl) (fun vs H Q E h => ?_) (fun f cdv A outer s H vs Q E hr h => ?_)
  · obtain ⟨_, _, _, _, _, rfl, _⟩ := h
    rfl
  · obtain ⟨a, l, rs, qs, us, rfl, hb, hl, hw, hg, k⟩ := h
    obtain ⟨dx, _, _, _, _, ha, _⟩ := id hb
    refine ⟨_, (pss_cons (ps_set (i := 2) sc_Book_mirrored.nd rfl (Or.inl rfl) (pe_hasM m_kinds_of U.cl (hr.mono (by decide)) (pv 0) (pa_cons (pv 1) pa_nil)))
      (pss_cons (ps_for PassesOwn.never rfl (pi_list (pv 2)) (pg_name (i := 3) sc_Book_mirrored.nd rfl (Or.inl rfl))
        (pss_one (ps_if (pt_cmpR op_isN (pe_hasP p5 T.cl (hr.mono (by decide)) (pv 3)) pe_non (by first | exact nomark _ | rfl)) (pss_one ps_never)
          pss_nil)))
      (pss_one (ps_ret (pe_callTy call_tuple_of (by rfl) B.n_tuple (by decide +kernel) (pa_cons (pe_lc (own := [("kind", 3)]) rfl sc_Book_mirrored.nd (pi_list (pe_revL (pv 2))) (blkOk_by (own := [("kind", 3)]) (N := ["self", "word", "kinds", "kind"]) (sc := defScope s_Book_mirrored) (by decide +kernel)) (fun _ _ _ _ _ => by exact (pg_name (i := 3) sc_Book_mirrored.nd rfl (Or.inl rfl))) (fun _ _ _ _ _ => by exact pts_nil) (fun _ _ _ _ _ => by exact (pe_hasP p5 T.cl (hr.mono (by decide)) (pv 3)))) pa_nil)))))), ?_⟩
    refine ⟨_, rfl, a, dx, _, rfl, ha, rfl, _, rfl, a, l, rs, qs, us, rfl, hb, hl, hw, fun q ps H1 nq hq hp s1 => ?_⟩
    refine next_of ?_
    dsimp only
    have len := paired_len hp
    have h240 := hw.1
    refine ⟨_, rfl, q, rfl, ⟨_, SqL.of hq⟩, for_list (K := K) (a := q) (xs := ps.map V.ref) (fun j σ H' => ∃ v3 : Option V, σ = [some (.ref a), some (.ref l), some (.ref q), v3] ∧ H' = H1) ⟨none, rfl, rfl⟩ (fun j σ H' _ h => ?_) (fun j x σ H' hx h => ?_) (fun σ H' h => ?_)⟩
    · obtain ⟨_, _, rfl⟩ := h
      exact SqL.of hq
    · obtain ⟨v3, rfl, rfl⟩ := h
      obtain ⟨b, hbx, rfl⟩ := map_at hx
      obtain ⟨u, hu, kb⟩ := paired_get hp hbx
      obtain ⟨db, hb'⟩ := id kb
      refine ⟨_, rfl, b, db, _, rfl, hb', b, u, rfl, kb, ?_⟩
      exact ⟨rfl, _, rfl, ite2 (fun c => absurd (c.symm.trans (isN_some (hg u (List.mem_of_getElem? hu)))) (by decide)) (fun _ => ⟨_, rfl, rfl⟩)⟩
    · obtain ⟨v3, rfl, rfl⟩ := h
      refine next_of ?_
      dsimp only
      refine ⟨_, rfl, q, ps.map V.ref, rfl, SqL.of hq, fun r nr => ⟨r, rfl, ⟨_, SqL.of upd_same⟩, fun D nD => lc_map walk_list (gAt us.reverse fun u => ov u.mirror) nD (by rw [List.length_reverse, List.length_map]; omega) (fun H' s' => SqL.of (s' _ _ upd_same)) ?_ ?_⟩⟩
      · rintro i x H2 H3 hi s2 ⟨rfl, hx⟩ R hR
        rw [← List.map_reverse] at hx
        obtain ⟨b, hbx, rfl⟩ := map_at hx
        obtain ⟨u, hu, kb⟩ := paired_get (paired_rev hp) hbx
        have kb2 := (kb.same (Same.new nr)).same s2
        obtain ⟨db, hb'⟩ := id kb2
        have qq := hR H3 (Same.refl _)
        rw [gAt, hu] at qq
        exact ⟨rfl, _, rfl, b, db, _, rfl, hb', b, u, rfl, kb2, qq⟩
      · intro H2 s2 hD
        have lr : (ps.map V.ref).reverse.length = us.reverse.length := by rw [List.length_reverse, List.length_map, List.length_reverse, len]
        rw [lr, gAt_all] at hD
        refine ⟨D, _, rfl, .inl ⟨SqL.of hD, fun z nz => ?_⟩⟩
        have s3 : Same H H2 := (s1.trans (Same.new nr)).trans s2
        have nz0 : H z = none := by
          cases e : H z with
          | none => rfl
          | some o => rw [s3 _ _ e] at nz; cases nz
        exact k z _ nz0 upd_same (s3.trans (Same.new nz))
end
end N

set_option maxHeartbeats 4000000
/-! x in y, x not in y: y an instance whose class tells it by a def -/
namespace L2
open PySem PySem.Spec PyProof.Rows
section
variable {X : Cx} {CX : CXT} {C g : Addr} {n : Nat} {fd : FuncData} {ps : List Str} {sp : Sp} {E : XK}
def rInOwn (yes : Bool) (C : Addr) (sp : Sp) (E : XK) : R2 := fun x y H Q => ∃ a dx fs, y = .ref a ∧ H a = some (.ins C dx fs) ∧ sp [y, x] H (fun z H' => ∃ r, z = .bl r ∧ Q (.bl (r == yes)) H') E
theorem truthy_bl {M : Model} {A : Around} {E : Value → Shared → Prop} {b : Bool} {Q : Bool → Shared → Prop} {s : Shared} (h : Q b s) : wpAny M A (truthy (.bool b)) Q E s := by
  show wpAny M A (pure b) Q E s
  exact wpAny_pure h
theorem op_inOwn (hs : PySem.W.findIn X.K (.ref C) "__contains__" = some (some (.ref g))) (hf : PySem.W.isFn X.K (.ref g) = true)
    (F : FnOk X.prog X.w X.K X.mg X.base CX n g fd ps sp) (hb : Binds X.K fd ps []) (hr : Room n X.A) (hx : Passes CX X E) : OpR X (compareOp .In) (rInOwn true C sp E) := by
  intro pins s σ H x y v u Q I rx ry h
  obtain ⟨a, dx, fs, rfl, ha, q⟩ := h
  cases (show u = Value.ref a from ry)
  obtain ⟨mA, O, _, _, _, _⟩ := ins_get I.hok ha
  obtain ⟨od, J, _⟩ := O.look
  obtain ⟨m, hF⟩ := I.fr
  refine PySem.W.in_K hF I.ok.mod.kin J hs hf ?_
  refine wpAny_mono (run_fn (us := [.ref a, v]) (vs := [.ref a, x]) (dvs := []) F hr hb .nil hx I (.cons rfl (.cons rx .nil)) (by exact q)) (fun w s' z => ?_) fun _ _ x => x
  obtain ⟨z', H', I', rz, r, ez, qz⟩ := z
  subst ez
  cases (show w = Value.bool r from rz)
  have e : (r == true) = r := by cases r <;> rfl
  rw [e] at qz
  exact truthy_bl ⟨.bl r, H', I', rfl, qz⟩
theorem op_notInOwn (hs : PySem.W.findIn X.K (.ref C) "__contains__" = some (some (.ref g))) (hf : PySem.W.isFn X.K (.ref g) = true)
    (F : FnOk X.prog X.w X.K X.mg X.base CX n g fd ps sp) (hb : Binds X.K fd ps []) (hr : Room n X.A) (hx : Passes CX X E) : OpR X (compareOp .NotIn) (rInOwn false C sp E) := by
  intro pins s σ H x y v u Q I rx ry h
  obtain ⟨a, dx, fs, rfl, ha, q⟩ := h
  cases (show u = Value.ref a from ry)
  obtain ⟨mA, O, _, _, _, _⟩ := ins_get I.hok ha
  obtain ⟨od, J, _⟩ := O.look
  obtain ⟨m, hF⟩ := I.fr
  refine PySem.W.notIn_K hF I.ok.mod.kin J hs hf ?_
  refine wpAny_mono (run_fn (us := [.ref a, v]) (vs := [.ref a, x]) (dvs := []) F hr hb .nil hx I (.cons rfl (.cons rx .nil)) (by exact q)) (fun w s' z => ?_) fun _ _ x => x
  obtain ⟨z', H', I', rz, r, ez, qz⟩ := z
  subst ez
  cases (show w = Value.bool r from rz)
  have e : (r == false) = !r := by cases r <;> rfl
  rw [e] at qz
  exact truthy_bl ⟨.bl (!r), H', I', rfl, qz⟩
end
/-- by the bundle of a method -/
theorem op_inM {X : Cx} {C : Addr} {n : Nat} {ps : List Str} {sp : Sp} (h : HasM X.prog X.w X.K X.mg X.base C "__contains__" n ps sp) (hr : Room n X.A) : OpR X (compareOp .In) (rInOwn true C sp E0) := by
  obtain ⟨f, fd, hm, hb, F⟩ := h.ex
  exact op_inOwn hm.at_ hm.fn F hb hr pass0
theorem op_notInM {X : Cx} {C : Addr} {n : Nat} {ps : List Str} {sp : Sp} (h : HasM X.prog X.w X.K X.mg X.base C "__contains__" n ps sp) (hr : Room n X.A) : OpR X (compareOp .NotIn) (rInOwn false C sp E0) := by
  obtain ⟨f, fd, hm, hb, F⟩ := h.ex
  exact op_notInOwn hm.at_ hm.fn F hb hr pass0
end L2

set_option maxHeartbeats 4000000
namespace N
open PySem L2
def spKindNamed (CB C : Addr) : Sp := fun vs H Q _ => ∃ (a : Addr) (rs qs : List Row) (u : Row), vs = [.ref a, .str u.name] ∧ BookAt CB C H a rs qs ∧ u ∈ rs ∧ NameOk u.name ∧ ∀ b, KindAt C H b u → Q (.ref b) H
section
variable {P : Program} {w : World} {K : PySem.W.Frag} {mg : Str → Option Value} {base : Heap} {C CB : Addr} {Cs : Nat → Addr}
abbrev s_Book_kind : Stmt := inClass (top 34) 2
theorem sc_Book_kind : FnScope ["self", "name"] ["self", "name"] (defScope s_Book_kind) := ⟨rfl, rfl, rfl, by decide +kernel, rfl, by decide +kernel, by decide +kernel⟩
theorem m_kind (U : BookT K mg CB) (F : MethAt K CB "kind" "Book.kind" s_Book_kind) (m_contains : HasM P w K mg base CB "__contains__" 1 ["self", "x"] (spIn CB C)) : HasMK P w K mg base CB "kind" 2 "self" "name" (spKindNamed CB C) := by
  refine hasMK_of F sc_Book_kind (fun _ _ _ _ _ _ us hl => match us, hl with | [_, _], _ => rfl) (fun vs H Q E h => ?_) (fun f cdv A outer s H vs Q E hr h => ?_)
  · obtain ⟨_, _, _, _, rfl, _⟩ := h
    rfl
  · obtain ⟨a, rs, qs, u, rfl, hb, hu, hn, k⟩ := h
    obtain ⟨dx, t, d, as, bs, ha, ht, hbs, hd, has, nd⟩ := id hb
    refine ⟨_, (pss_cons (ps_if (pt_cmpR (op_notInM m_contains (hr.mono (by decide))) (pv 1) (pv 0) (by first | exact nomark _ | rfl)) (pss_one ps_never)
        pss_nil)
      (pss_one (ps_ret (pe_dget hr.u1 (pe_fld (pv 0) rfl) (pv 1) (fun _ _ => rfl))))), ?_⟩
    have hin : inBook rs (.str u.name) = true := decide_eq_true (List.mem_map_of_mem hu)
    obtain ⟨gb, kb⟩ := kAt_is has nd hu
    refine ⟨_, rfl, _, rfl, a, dx, _, rfl, ha, a, .str u.name, rs, qs, rfl, hb, .str u.name (by have := hn.2.1; omega) hn.sign, ?_⟩
    refine ⟨_, rfl, _, rfl, ite2 (fun c => absurd c (by rw [hin]; decide)) (fun _ => ?_)⟩
    refine next_of ?_
    dsimp only
    exact ⟨_, rfl, a, CB, dx, _, _, rfl, ha, U.cl, U.nt, rfl, _, rfl, d, _, rfl, .inl ⟨_, .inr u.name, .inl hd, rfl, gb.symm⟩, k _ kb⟩
end
end N

set_option maxHeartbeats 4000000
/-! own errors over any built-in error: their fields, and that they are made -/
namespace ExB
open PySem PySem.W PySem.Calls PyProof.Rows Builtin Builtin.ObjectAttr
section
variable {prog : Program} {w : World} {A : Around} {R : Result → Shared → Prop} {hp : Heap} {g : Array GenState} {d : Drawn} {t : Nat} {os : OsState} {B : String} {bmB : List Value} {K : Frag} {C x : Addr} {name : Str} {tk : Tok} {v : Value}
theorem no_taker (h : findIn K (.ref C) name = some none) : takerIn K C name = some none := by
  unfold takerIn
  rw [h]
  rfl
/-- the first field: a dict is laid for it -/
theorem first_field {fv : Array Value} {cd : ClassData} (SF : StoreFacts B bmB "object.__setattr__" "object") (X : K.In hp) (e : hp.get? x = some { cls := .ref C, data := .fields fv }) (ov : excOver K C bmB = true) (c : clsIn K C = some cd) (hd : cd.hasDict = true) (no : findIn K (.ref C) name = some none)
    (q : ∀ h' tk' dx, (∀ b o, b ≠ x → hp.get? b = some o → h'.get? b = some o) → hp.objs.size ≤ dx → dx ≠ x → h'.get? x = some { cls := .ref C, dict := some dx, data := .fields fv } → h'.Ns1 dx (fun y => if y = name then some v else none) → R (.ok (.ret .none)) ⟨h', g, d, tk', os⟩) :
    codeAny (model prog w) A (.call (.builtin "object.__setattr__") ⟨[.ref x, .str name tk, v], []⟩) R ⟨hp, g, d, t, os⟩ := by
  have nx : x ≠ hp.objs.size := Nat.ne_of_lt (Heap.lt_size e)
  have I : InstAt hp x { cls := .ref C, data := .fields fv } C none := ⟨e, rfl, rfl, trivial⟩
  refine osa_openX SF X I ov (no_taker no) fun b => ?_
  have look : Looks (model prog w) hp (classData C) cd := looks_clsIn X c
  show wpAny _ _ (storeInOwnDict (.ref x) (.ref C) (.str name tk) name v b) _ _ _
  cases cd
  cases (show _ = true from hd)
  unfold storeInOwnDict ownDictForStores
  repeat (first | with_reducible refine PX.store_in_new ?_ ?_ | with_reducible refine wpAny_loadPart_at e ?_ | with_reducible refine look.at ?_ | wp_step)
  · exact ⟨_, #[], _, (Heap.get?_update_ne _ _ _ _ nx.symm).trans (Heap.get?_push_at rfl rfl), rfl, fun p z => absurd z (by simp), fun _ => rfl⟩
  · intro h' tk' hn hs
    have e' := Heap.get?_push_of_some ({ cls := .type "dict", data := .dict #[] } : Obj) e
    have old : ∀ b o, b ≠ x → hp.get? b = some o → h'.get? b = some o := fun b o nb ho => (hs.2 b (Nat.ne_of_lt (Heap.lt_size ho))).trans ((Heap.get?_update_ne _ _ _ _ nb).trans (Heap.get?_push_of_some _ ho))
    exact q h' tk' _ old (Nat.le_refl _) nx.symm ((hs.2 x nx).trans (Heap.get?_update_self _ e' rfl)) hn
/-- a further field -/
theorem next_field {fv : Array Value} {cd : ClassData} {dx : Addr} {m0 : Str → Option Value} {nl : List Str} (SF : StoreFacts B bmB "object.__setattr__" "object") (X : K.In hp) (e : hp.get? x = some { cls := .ref C, dict := some dx, data := .fields fv }) (ns : hp.Ns1 dx m0) (wi : Within m0 nl) (lz : nl.length ≤ 1000)
    (ov : excOver K C bmB = true) (c : clsIn K C = some cd) (hd : cd.hasDict = true) (no : findIn K (.ref C) name = some none)
    (q : ∀ h' tk', (∀ b o, b ≠ dx → hp.get? b = some o → h'.get? b = some o) → h'.Ns1 dx (fun y => if y = name then some v else m0 y) → R (.ok (.ret .none)) ⟨h', g, d, tk', os⟩) :
    codeAny (model prog w) A (.call (.builtin "object.__setattr__") ⟨[.ref x, .str name tk, v], []⟩) R ⟨hp, g, d, t, os⟩ := by
  obtain ⟨od, _, _, eD, eE, _⟩ := ns.count wi
  have I : InstAt hp x { cls := .ref C, dict := some dx, data := .fields fv } C (some od) := ⟨e, rfl, rfl, eD⟩
  refine osa_openX SF X I ov (no_taker no) fun b => ?_
  have look : Looks (model prog w) hp (classData C) cd := looks_clsIn X c
  show wpAny _ _ (storeInOwnDict (.ref x) (.ref C) (.str name tk) name v b) _ _ _
  cases cd
  cases (show _ = true from hd)
  unfold storeInOwnDict ownDictForStores
  repeat (first | with_reducible refine PySem.OEX.store_in_old ns wi lz ?_ | with_reducible refine wpAny_loadPart_at e ?_ | with_reducible refine look.at ?_ | wp_step)
  intro h' tk' hn hs
  exact q h' tk' (fun b o nb ho => (hs.2 b nb).trans ho) hn
end
end ExB

set_option maxHeartbeats 4000000
namespace L2
open PySem PySem.Spec PyProof.Rows
/-- an own error's class over the built-in B, as it stands behind the top -/
structure OexB (K : PySem.W.Frag) (C : Addr) (B newId initId : String) (bmB : List Value) : Prop where
  cls : ∃ nm q N bs bm sn sub ab col dd k0 k1 k2 k3 k5, K.lookup C = some (excClassObj nm q C N bs bm true sn sub ab col dd k0 k1 k2 k3 k5 newId) ∧ PySem.W.excTail bmB bm = true
  sa : PySem.W.findIn K (.ref C) "__setattr__" = some (some (.builtin "object.__setattr__"))
  exC : PySem.W.subIn K (.ref C) (.type "BaseException") = some true
  tyC : PySem.W.typeIn K (.ref C) = some (.type "type")
  kC : PySem.W.keepIn K (.ref C) = true
  sf : StoreFacts B bmB "object.__setattr__" "object"
  fb : ExcBaseFacts B newId initId bmB
theorem OexB.parts {K : PySem.W.Frag} {C : Addr} {B newId initId : String} {bmB : List Value} (T : OexB K C B newId initId bmB) : PySem.W.excOver K C bmB = true ∧ ∃ cd, PySem.W.clsIn K C = some cd ∧ cd.hasDict = true := by
  obtain ⟨nm, q, N, bs, bm, sn, sub, ab, col, dd, k0, k1, k2, k3, k5, hC, tl⟩ := T.cls
  have c : PySem.W.clsIn K C = some { name := nm, bases := bs, mro := .ref C :: bm, ns := N, qualname := q, hasDict := true, slotNames := sn, subclasses := sub, abstract := ab, collection := col, hasDel := false } := by unfold PySem.W.clsIn; rw [hC] <;> rfl
  refine ⟨?_, _, c, rfl⟩
  unfold PySem.W.excOver
  rw [c]
  show ((C == C) && PySem.W.excTail bmB bm) = true
  rw [tl]
  simp
section
variable {X : Cx} {pins : List (Addr × Obj)} {σ : St} {H : Hp} {s : Shared} {a C dx : Addr} {f : Str} {y : V} {u : Value} {fs : List (Str × V)} {Q : Unit → Shared → Prop} {E : Value → Shared → Prop} {A : Around} {B newId initId : String} {bmB : List Value}
theorem put_first (T : OexB X.K C B newId initId bmB) (I : Inv X pins σ H s) (e : H a = some (exo a C none)) (no : PySem.W.findIn X.K (.ref C) f = some none) (ry : RelV y u)
    (h : ∀ dx s', H dx = none → dx ≠ a → Inv X pins σ (upd (upd H dx (exd dx [(f, y)])) a (exo a C (some dx))) s' → Q () s') : wpAny (model X.prog X.w) A (setAttr (.ref a) f u) Q E s := by
  obtain ⟨ov, cd, c, hd⟩ := T.parts
  obtain ⟨t1, o⟩ := exo_at I.hok e
  obtain ⟨hp, g, d, t, os⟩ := s
  refine PySem.W.set_plain I.kIn (ox := { cls := .ref C, dict := none, data := .fields #[.ref t1, .none, .none, .none, .bool false, .none] }) (od := none) ⟨o, rfl, rfl, trivial⟩ T.sa ?_
  refine ExB.first_field T.sf I.kIn o ov c hd no fun h' tk' dx old ge ne o' ns => ?_
  have fresh : H dx = none := I.hok.fresh ge
  -- between the two: the dict is there, the error as it was
  let mid : Heap := h'.update a fun _ => { cls := .ref C, dict := none, data := .fields #[.ref t1, .none, .none, .none, .bool false, .none] }
  have midA : mid.get? a = some { cls := .ref C, dict := none, data := .fields #[.ref t1, .none, .none, .none, .bool false, .none] } := Heap.get?_update_self _ o' rfl
  have midN : ∀ b, b ≠ a → mid.get? b = h'.get? b := fun b n => Heap.get?_update_ne _ _ _ _ n
  have keep : ∀ b o, hp.get? b = some o → mid.get? b = some o := fun b o1 q => by
    by_cases z : b = a
    · subst z
      rw [o] at q
      cases q
      exact midA
    · rw [midN b z]
      exact old b o1 z q
  have nsM := ns.at fun o1 q => (midN dx ne).trans q
  have I1 : Inv X pins σ (upd H dx (exd dx [(f, y)])) ⟨mid, g, d, t, os⟩ := I.laid (t' := t) (a := dx) (o := exd dx [(f, y)]) (h' := mid) keep ge (exd_ok nsM (relO_put (fs := []) ry fun _ => True.intro))
  have eA : (upd H dx (exd dx [(f, y)])) a = some (exo a C none) := (upd_ne ne.symm).trans e
  have I2 := I1.write (t' := tk') (x := a) (e := a) (o := exo a C (some dx)) (by rw [eA]; exact True.intro) (.inl rfl) (fun b o1 n q => (midN b n).symm.trans q) ⟨_, o'⟩ (exo_ok o')
  exact h dx _ fresh ne I2
theorem put_next (T : OexB X.K C B newId initId bmB) (I : Inv X pins σ H s) (e : H a = some (exo a C (some dx))) (ed : H dx = some (exd dx fs)) (lz : fs.length ≤ 900) (no : PySem.W.findIn X.K (.ref C) f = some none) (ry : RelV y u)
    (h : ∀ s', Inv X pins σ (upd H dx (exd dx ((f, y) :: fs))) s' → Q () s') : wpAny (model X.prog X.w) A (setAttr (.ref a) f u) Q E s := by
  obtain ⟨ov, cd, c, hd⟩ := T.parts
  obtain ⟨t1, o⟩ := exo_at I.hok e
  obtain ⟨mA, ns, rel⟩ := exd_at I.hok ed
  have wi := within_of rel
  obtain ⟨hp, g, d, t, os⟩ := s
  obtain ⟨oD, _, _, eD, _, _⟩ := ns.count wi
  refine PySem.W.set_plain I.kIn (ox := { cls := .ref C, dict := some dx, data := .fields #[.ref t1, .none, .none, .none, .bool false, .none] }) (od := some oD) ⟨o, rfl, rfl, eD⟩ T.sa ?_
  refine ExB.next_field T.sf I.kIn o ns wi (by rw [List.length_map]; omega) ov c hd no fun h' tk' old ns' => ?_
  have there : ∃ o, h'.get? dx = some o := let ⟨o, _, _, q, _⟩ := ns'; ⟨o, q⟩
  exact h _ (I.write (t' := tk') (x := dx) (e := dx) (o := exd dx ((f, y) :: fs)) (by rw [ed]; exact True.intro) (.inl rfl) old there (exd_ok ns' (relO_put ry rel)))
end
end L2

set_option maxHeartbeats 4000000
namespace L2
open PySem PySem.Spec PyProof.Rows
/-- self.f = e, self an error of the class at C over B that is being made -/
def tPut (K : PySem.W.Frag) (B newId initId : String) (bmB : List Value) (f : Str) (to te : TE) : TS := fun D σ H => te σ H fun y H1 => to σ H1 fun x H2 => ∃ a C : Addr, x = .ref a ∧ OexB K C B newId initId bmB ∧ PySem.W.findIn K (.ref C) f = some none ∧
  ((H2 a = some (exo a C none) ∧ ∀ dx, H2 dx = none → dx ≠ a → D.nx σ (upd (upd H2 dx (exd dx [(f, y)])) a (exo a C (some dx)))) ∨
    ∃ (dx : Addr) (fs : List (Str × V)), H2 a = some (exo a C (some dx)) ∧ H2 dx = some (exd dx fs) ∧ fs.length ≤ 900 ∧ D.nx σ (upd H2 dx (exd dx ((f, y) :: fs))))
section
variable {X : Cx} {o e : Expr} {es : List Expr} {to te : TE} {ta : TA} {f : Str} {p p' p1 p2 pos : Pos} {B newId initId : String} {bmB : List Value}
theorem ps_put (ho : PE X o to) (he : PE X e te) (hs : swapsWith e (some (.Attribute o f p')) pos.line X.env = pure false := by rfl) : PS X (.Assign [.Attribute o f p'] e pos) (tPut X.K B newId initId bmB f to te) := by
  refine ⟨fun pins s σ H D I h => ?_⟩
  refine plainObj_wpAny_Assign_Attribute (thn (he.run pins s σ H _ I h) fun v s1 ⟨y, H1, I1, r1, q1⟩ => ?_) hs
  refine thn (ho.run pins s1 σ H1 _ I1 q1) fun u s2 ⟨x, H2, I2, r2, a, C, ex, T, no, q⟩ => ?_
  subst ex
  cases (show u = Value.ref a from r2)
  rcases q with ⟨ea, q⟩ | ⟨dx, fs, ea, ed, lz, q⟩
  · exact put_first T I2 ea no r1 fun dx s' n ne J => ⟨σ, _, J, q dx n ne⟩
  · exact put_next T I2 ea ed lz no r1 fun s' J => ⟨σ, _, J, q⟩
/-- C(e, ..) for a raise: C's own __init__ keeps sp -/
theorem pmk_base {CX : CXT} {x : Str} {C fI : Addr} {k : Nat} {fd : FuncData} {ps : List Str} {sp : Sp} {ds : List Value} {dvs : List V} (T : OexB X.K C B newId initId bmB) (ini : PySem.W.findIn X.K (.ref C) "__init__" = some (some (.ref fI))) (ity : PySem.W.typeIn X.K (.ref fI) = some (.type "function"))
    (F1 : FnOk X.prog X.w X.K X.mg X.base CX k fI fd ps sp) (hr : Room (k + 1) X.A) (hb : Binds X.K fd ps ds) (hd : Vals dvs ds) (hx : Passes CX X (fun _ _ _ => False)) (hg : Gl X x) (hm : X.mg x = some (.ref C)) (ha : PA X (e :: es) ta)
    (hdb : (x == ("__debug__" : Str)) = false := by decide) (he : starEach (e :: es) X.env = (false, eval e X.env) :: starEach es X.env := by rfl) (hpl : (backTo pos (starEach es X.env)).any (·.1) = false := by rfl) :
    PMk X (.Call (.Name x p) (e :: es) [] pos) (tMkO C sp dvs ta) := by
  intro pins s σ H Q I h
  obtain ⟨_, _, _, _, bm, _, _, _, _, _, _, _, _, _, _, cC, tl⟩ := T.cls
  refine wpAny_Call_Name_kw (ld_glob I hg hm ?_ hdb)
  refine PySem.W.callWith_K (h₀ := X.base) I.ok.mod.kin T.kC (thn (ha.run pos pins s σ H _ I h) fun us s1 ⟨vs, H1, I1, r1, few, q1⟩ => ⟨I1.kIn, ?_⟩) he hpl
  show wpAny _ _ (call (.ref C) us) _ _ _
  obtain ⟨hp, g, dr, tk, os⟩ := s1
  let at_ : Addr := hp.objs.size + 1
  let laid : Heap := (hp.push (PySem.W.kdv_tup us)).push (PySem.PX.excO C hp.objs.size)
  have up : hp.objs.size ≤ at_ := Nat.le_succ _
  have n1 : H1 at_ = none := I1.hok.fresh up
  have q2 := q1 at_ n1
  have old : ∀ b o, hp.get? b = some o → laid.get? b = some o := fun b o z => Heap.get?_push_of_some _ (Heap.get?_push_of_some _ z)
  have new : laid.get? at_ = some (PySem.PX.excO C hp.objs.size) := by
    show ((hp.push (PySem.W.kdv_tup us)).push (PySem.PX.excO C hp.objs.size)).get? (hp.objs.size + 1) = _
    heap_get
  have I2 : Inv X pins σ (upd H1 at_ (exo at_ C none)) ⟨laid, g, dr, tk, os⟩ := I1.laid (t' := tk) old up (exo_ok new)
  have r2 : Vals (V.ref at_ :: (vs ++ dvs)) (Value.ref at_ :: (us ++ ds)) := .cons rfl (r1.append hd)
  have len : (Value.ref at_ :: us ++ ds).length = ps.length := (r2.length.symm.trans (F1.len _ _ _ _ q2) : _)
  have fits : us.length ≤ sizeLine := by rw [← Paired.length r1, sizeLine_eq]; omega
  refine wpAny_call (PySem.PX.call_own T.fb (fun Y => PySem.W.excTail_contains Y bm tl) (I1.kIn _ _ cC) (PySem.W.looks_findIn I1.kIn ini) (fun self => PySem.W.bind_fn I1.kIn self ity) fits ?_)
  refine codeAny_mono (F1.run _ X.stack _ _ ⟨Value.ref at_ :: us, []⟩ (Value.ref at_ :: (us ++ ds)) _ _ (fun _ _ _ => False) (hr.make C us []) (I2.env0.make C us []) (hb _ (Value.ref at_ :: us) I2.kIn len) r2 q2) fun r s' z => ?_
  match r, z with
  | .error er, z => exact hx pins σ _ _ er s' I2 z
  | .ok (.ret u), ⟨v, H2, os2, bare2, un2, ok2, rv, ev, d, fs, ea, ed, hd1, q3⟩ =>
    subst ev
    obtain ⟨h2, g2, d2, t2, os'⟩ := s'
    exact ⟨rv, mk_end (raises_own T.exC T.tyC) I1 up old un2 ok2 os2 bare2 ea ed hd1 q3⟩
end
end L2

set_option maxHeartbeats 4000000
/-! own errors with one field, or two, over any built-in base: raised -/
namespace L2
open PySem PySem.Spec PyProof.Rows
structure ErrB (K : PySem.W.Frag) (mg : Str → Option Value) (x : Str) (C : Addr) (st : Stmt) (qual : Str) (B newId initId : String) (bmB : List Value) : Prop where
  o : OexB K C B newId initId bmB
  r : XfC K C
  g : mg x = some (.ref C)
  ini : ∃ (fI : Addr) (fd : FuncData), PySem.W.findIn K (.ref C) "__init__" = some (some (.ref fI)) ∧ PySem.W.typeIn K (.ref fI) = some (.type "function") ∧ Fun K "__init__" qual st fI fd
/-- what the __init__ of one with two fields promises -/
def spErr2 (f g : Str) (C : Addr) : Sp := fun vs H Q _ => ∃ (a : Addr) (v u : V), vs = [.ref a, v, u] ∧ H a = some (exo a C none) ∧ ∀ d, H d = none → d ≠ a → Q .non (upd (upd H d (exd d [(g, u), (f, v)])) a (exo a C (some d)))
def tErr2 (f g : Str) (C : Addr) (t : TA) : St → Hp → XK → Prop := fun σ H Q => t σ H fun vs H1 => ∃ v u, vs = [v, u] ∧ ∀ d, H1 d = none → Q (.ref C) (some d) (upd H1 d (.xd [(g, u), (f, v)]))
section
variable {X : Cx} {x f g qual : Str} {C : Addr} {st : Stmt} {p pos pos2 : Pos} {e e2 : Expr} {t : TA} {W : WX} {B newId initId : String} {bmB : List Value}
theorem pmk_errB (T : ErrB X.K X.mg x C st qual B newId initId bmB) (F : ∀ fI fd, Fun X.K "__init__" qual st fI fd → FnOk X.prog X.w X.K X.mg X.base CX0 1 fI fd ["self", f] (spErr f C) ∧ Binds X.K fd ["self", f] []) (hr : Room 2 X.A) (ha : PA X [e] t) (hg : Gl X x := by rfl)
    (hdb : (x == ("__debug__" : Str)) = false := by decide) (he : starEach (e :: []) X.env = (false, eval e X.env) :: starEach [] X.env := by rfl) (hpl : (backTo pos (starEach [] X.env)).any (·.1) = false := by rfl) :
    PMk X (.Call (.Name x p) [e] [] pos) (tErr f C t) := by
  intro pins s σ H Q I h
  obtain ⟨fI, fd, i1, i2, i3⟩ := T.ini
  obtain ⟨f1, f2⟩ := F fI fd i3
  refine pmk_base T.o i1 i2 f1 hr f2 .nil pass0 hg T.g ha.up hdb he hpl pins s σ H Q I ⟨_, h, fun vs H1 q => ?_⟩
  obtain ⟨v, rfl, q⟩ := q
  refine ⟨by show 1 ≤ 1000; decide, fun a na => ⟨a, v, rfl, upd_same, fun d hd ne => ⟨rfl, d, [(f, v)], upd_same, (upd_ne ne).trans upd_same, ?_, ?_⟩⟩⟩
  · rwa [upd_ne ne] at hd
  · rw [upd_ne ne] at hd
    rw [err_heap na ne]
    exact q d hd
theorem ps_raiseB (hc : X.calm = true) (T : ErrB X.K X.mg x C st qual B newId initId bmB) (F : ∀ fI fd, Fun X.K "__init__" qual st fI fd → FnOk X.prog X.w X.K X.mg X.base CX0 1 fI fd ["self", f] (spErr f C) ∧ Binds X.K fd ["self", f] []) (hr : Room 2 X.A) (tk : Takes X W) (ha : PA X [e] t) (hg : Gl X x := by rfl)
    (hdb : (x == ("__debug__" : Str)) = false := by decide) (he : starEach (e :: []) X.env = (false, eval e X.env) :: starEach [] X.env := by rfl) (hpl : (backTo pos (starEach [] X.env)).any (·.1) = false := by rfl) :
    PS X (.Raise (some (.Call (.Name x p) [e] [] pos)) none pos2) (fun _ σ H => tErr f C t σ H fun c d H' => W c d σ H') := ps_raise hc tk (pmk_errB T F hr ha hg hdb he hpl)
theorem pmk_errB2 (T : ErrB X.K X.mg x C st qual B newId initId bmB) (F : ∀ fI fd, Fun X.K "__init__" qual st fI fd → FnOk X.prog X.w X.K X.mg X.base CX0 1 fI fd ["self", f, g] (spErr2 f g C) ∧ Binds X.K fd ["self", f, g] []) (hr : Room 2 X.A) (ha : PA X [e, e2] t) (hg : Gl X x := by rfl)
    (hdb : (x == ("__debug__" : Str)) = false := by decide) (he : starEach (e :: [e2]) X.env = (false, eval e X.env) :: starEach [e2] X.env := by rfl) (hpl : (backTo pos (starEach [e2] X.env)).any (·.1) = false := by rfl) :
    PMk X (.Call (.Name x p) [e, e2] [] pos) (tErr2 f g C t) := by
  intro pins s σ H Q I h
  obtain ⟨fI, fd, i1, i2, i3⟩ := T.ini
  obtain ⟨f1, f2⟩ := F fI fd i3
  refine pmk_base T.o i1 i2 f1 hr f2 .nil pass0 hg T.g ha.up hdb he hpl pins s σ H Q I ⟨_, h, fun vs H1 q => ?_⟩
  obtain ⟨v, u, rfl, q⟩ := q
  refine ⟨by show 2 ≤ 1000; decide, fun a na => ⟨a, v, u, rfl, upd_same, fun d hd ne => ⟨rfl, d, [(g, u), (f, v)], upd_same, (upd_ne ne).trans upd_same, ?_, ?_⟩⟩⟩
  · rwa [upd_ne ne] at hd
  · rw [upd_ne ne] at hd
    rw [err_heap na ne]
    exact q d hd
theorem ps_raiseB2 (hc : X.calm = true) (T : ErrB X.K X.mg x C st qual B newId initId bmB) (F : ∀ fI fd, Fun X.K "__init__" qual st fI fd → FnOk X.prog X.w X.K X.mg X.base CX0 1 fI fd ["self", f, g] (spErr2 f g C) ∧ Binds X.K fd ["self", f, g] []) (hr : Room 2 X.A) (tk : Takes X W) (ha : PA X [e, e2] t) (hg : Gl X x := by rfl)
    (hdb : (x == ("__debug__" : Str)) = false := by decide) (he : starEach (e :: [e2]) X.env = (false, eval e X.env) :: starEach [e2] X.env := by rfl) (hpl : (backTo pos (starEach [e2] X.env)).any (·.1) = false := by rfl) :
    PS X (.Raise (some (.Call (.Name x p) [e, e2] [] pos)) none pos2) (fun _ σ H => tErr2 f g C t σ H fun c d H' => W c d σ H') := ps_raise hc tk (pmk_errB2 T F hr ha hg hdb he hpl)
end
end L2

set_option maxHeartbeats 4000000
/-! sorted(t, key=f), t a tuple -/
namespace SrtT
open PySem PySem.W PySem.Calls PyProof.Rows
section
variable {prog : Program} {w : World} {A : Around} {E : Value → Shared → Prop} {s : Shared} {β : Type} {R : Value → β → Prop}
def TupOf (h : Heap) (l : Addr) (vs : List Value) : Prop := ∃ (o : Obj) (n : Nat), h.get? l = some o ∧ o.cls = .type "tuple" ∧ o.data = .seq vs.toArray n
/-- a tuple's items, gathered -/
theorem gather {l : Addr} {vs : List Value} {Q : List Value → Shared → Prop} (hl : TupOf s.heap l vs) (z : vs.length ≤ sizeLine)
    (h : Q vs { s with heap := (s.heap.push (seqObj "list" #[] 0)).update s.heap.objs.size (Obj.mapSeq (· ++ vs.toArray)) }) : wpAny (model prog w) A (collect (.ref l)) Q E s := by
  obtain ⟨o, n, e1, e2, e3⟩ := hl
  have e1' := Heap.get?_push_of_some (seqObj "list" #[] 0) e1
  have eN : (s.heap.push (seqObj "list" #[] 0)).get? s.heap.objs.size = some (seqObj "list" #[] 0) := Heap.get?_push_size _ rfl
  unfold collect
  refine wpAny_bind (wpAny_runValue (codeAny_builtin F.entry_proto_collect ?_))
  rw [Around.under_plainId F.plain_proto_collect _]
  show wpAny _ A.in1 (newList [] >>= fun y => again (.builtin "list.__iadd__" ⟨[y, .ref l], []⟩)) _ _ s
  refine wpAny_bind (wpAny_newObj_type (wpAny_pure ⟨plainId_quiet F.plain_list_iadd _, codeAny_builtin F.entry_list_iadd ?_⟩))
  rw [Around.under_plainId F.plain_list_iadd _]
  show wpAny _ A.in1 (Builtin.List.listExtendWith (.ref s.heap.objs.size) (.ref l) (.ref s.heap.objs.size)) _ _ _
  have ext := wpAny_extend_seq (prog := prog) (w := w) (A := A) (s := { s with heap := s.heap.push (seqObj "list" #[] 0) }) (R := fun r s' => r = .ok (.ret (.ref s.heap.objs.size)) ∧ s' = { s with heap := (s.heap.push (seqObj "list" #[] 0)).update s.heap.objs.size (Obj.mapSeq (· ++ vs.toArray)) })
    s.heap.objs.size l (.ref s.heap.objs.size) 0 (.inr rfl) eN e1' e2 e3 ⟨rfl, rfl⟩ (by rw [List.size_toArray]; exact z)
  refine wpAny_mono ext (fun fin s' q => ?_) fun e s' q => absurd q.1 (by simp)
  cases fin with
  | done f =>
    obtain ⟨q1, rfl⟩ := q
    cases q1
    have eU := get?_update_seq eN (· ++ vs.toArray)
    refine wpAny_bind (wpAny_load eU ?_)
    show wpAny _ _ (pure ((#[] : Array Value) ++ vs.toArray).toList) _ _ _
    refine wpAny_pure ?_
    rw [show ((#[] : Array Value) ++ vs.toArray).toList = vs by simp]
    exact h
  | again c' =>
    refine ⟨q.1, codeAny_mono q.2 fun r s'' hq => ?_⟩
    obtain ⟨rfl, rfl⟩ := hq
    have eU := get?_update_seq eN (· ++ vs.toArray)
    refine wpAny_bind (wpAny_load eU ?_)
    show wpAny _ _ (pure ((#[] : Array Value) ++ vs.toArray).toList) _ _ _
    refine wpAny_pure ?_
    rw [show ((#[] : Array Value) ++ vs.toArray).toList = vs by simp]
    exact h
/-- sorted(t, ..) over a tuple's items -/
theorem sortedT {l : Addr} {vs : List Value} {kw : List (Str × Value)} {Q : Value → Shared → Prop} (hl : TupOf s.heap l vs) (z : vs.length ≤ sizeLine) (g1 : argsOk "sorted" ⟨[.ref l], kw⟩) (g2 : ∀ x, argsOk "list.sort" ⟨[.ref x], kw⟩)
    (go : ∀ E' : Value → Shared → Prop, wpAny (model prog w) A.in1.in1 (Builtin.«list.sort» ⟨[.ref (s.heap.objs.size + 1)], kw⟩) (fun f s' => f = .done (.ret .none) ∧ Q (.ref (s.heap.objs.size + 1)) s') E' { s with heap := copyHeap s.heap vs }) :
    wpAny (model prog w) A (call (.builtin "sorted") [.ref l] kw) Q E s := by
  refine call_function_entry_kw kind_sorted plain_sorted entry_sorted g1 ?_
  have e : ((s.heap.push (seqObj "list" #[] 0)).update s.heap.objs.size (Obj.mapSeq (· ++ vs.toArray))).objs.size = s.heap.objs.size + 1 := by rw [Heap.size_update, size_push']
  unfold Builtin.«sorted»
  refine wpAny_bind (m := checkCount "sorted" 1 1 _) (wpAny_pure (wpAny_bind (gather hl z (wpAny_bind (wpAny_newList ?_ z)))))
  show wpAny _ _ _ _ _ { s with heap := copyHeap s.heap vs }
  rw [e]
  refine wpAny_bind (wpAny_holding (wpAny_call_entry_kw slot_list_sort ⟨_, copyHeap_at s.heap vs, rfl⟩ entry_list_sort ?_ (g2 _)))
  refine wpAny_mono (go _) (fun f s' q => ?_) fun _ _ q => q
  obtain ⟨rfl, q⟩ := q
  exact ⟨_, rfl, wpAny_pure ⟨_, rfl, q⟩⟩
/-- sorted(t, key=f): f keeps all that stands and tells each item's key -/
theorem sortedT_key {l : Addr} {vs : List Value} {bs : List β} {f : Value} {kw : List (Str × Value)} {b : Bool} {Q : Value → Shared → Prop} (k : β → PyData) (hl : TupOf s.heap l vs) (each : EachIs R vs bs) (al : AllAlike (bs.map k)) (so : Sortable (bs.map k)) (z : bs.length ≤ sizeLine)
    (dp : ∀ x, x ∈ bs → A.units + 2 + (k x).depth < cLine) (g1 : argsOk "sorted" ⟨[.ref l], kw⟩) (g2 : ∀ x, argsOk "list.sort" ⟨[.ref x], kw⟩) (tr : ∀ x, Builtin.«list.sort» ⟨[.ref x], kw⟩ = ksk_tree x f b)
    (one : ∀ (v : Value) (x : β), R v x → x ∈ bs → ∀ (g : Heap) (tk : Nat), (∀ c o, s.heap.get? c = some o → g.get? c = some o) →
      wpAny (model prog w) A.in1.in1 (call f [v]) (KeyPure (k x) { s with heap := g, toks := tk }) (fun _ _ => False) { s with heap := g, toks := tk })
    (fin : ∀ out c g tk, (∀ c o, s.heap.get? c = some o → g.get? c = some o) → s.heap.get? (s.heap.objs.size + 1) = none → g.get? (s.heap.objs.size + 1) = some (seqObj "list" (List.toArray out) c) → out.length = bs.length → EachIs R out (bs.mergeSort (dataLe b k)) →
      Q (.ref (s.heap.objs.size + 1)) { s with heap := g, toks := tk }) : wpAny (model prog w) A (call (.builtin "sorted") [.ref l] kw) Q E s := by
  have nw : s.heap.get? (s.heap.objs.size + 1) = none := Heap.get?_none_of_le (Nat.le_succ _)
  have vz : vs.length ≤ sizeLine := by rw [each.length]; exact z
  have ml : (bs.map k).length = vs.length := (List.length_map _).trans each.length.symm
  have old : ∀ {g : Heap}, KeepsBut (s.heap.objs.size + 1) (copyHeap s.heap vs) g → ∀ c o, s.heap.get? c = some o → g.get? c = some o := fun {g} kp c o q => kp c o (Nat.ne_of_lt (Nat.lt_succ_of_lt (Heap.lt_size q))) (copyHeap_old q)
  refine sortedT hl vz g1 g2 fun E' => ?_
  rw [tr]
  have turns := keyH_turns (prog := prog) (w := w) (A := A.in1.in1) (s := { s with heap := copyHeap s.heap vs }) (a := s.heap.objs.size + 1) (f := f) (k := k) (h₁ := copyHeap s.heap vs) each fun v x r hx g tk kp => one v x r hx g tk (old kp)
  exact keyH_tree (s := { s with heap := copyHeap s.heap vs }) (copyHeap_at s.heap vs) ml vz al so (bound_map (A := A.in1.in1) dp) turns fun g tk out c kp hD ko => ⟨rfl, fin out c g tk (old kp) nw hD ((ko.length ml).trans each.length) (keyedOut_each k ko each)⟩
end
end SrtT

set_option maxHeartbeats 4000000
/-! sorted(t, key=lambda x: x.m), m a property of own objects: the turn -/
namespace L2
open PySem PySem.Spec PyProof.Rows
theorem ObjM.keeps {h h' : Heap} {x dx C : Addr} {mA : Str → Option Value} (I : ObjM h x dx C mA) (k : ∀ b o, h.get? b = some o → h'.get? b = some o) : ObjM h' x dx C mA := ⟨k _ _ I.obj, I.ns.keeps k, I.ne⟩
section
variable {P : Program} {w : World} {A : Around} {E : Value → Shared → Prop} {R : Result → Shared → Prop} {s : Shared} {K : PySem.W.Frag} {a dx C : Addr} {mA : Str → Option Value}
/-- the getter `return self.fld`, called -/
theorem turn_getter {g : Addr} {name qual fld : Str} {gp : Arguments} {gsc : Scope} {dV kV doc pm cdv ct oc : Value} {an od : Option Addr} {osl : Array (Option Value)} {q1 q2 q3 : Pos} {nm : Str} {t : Tok}
    (hroom : A.depth < recursionLimit) (X : K.In s.heap) (nl : s.heap.NoLimit) (c : Cls K C) (O : ObjM s.heap a dx C mA)
    (lk : K.lookup g = some ⟨oc, od, .func (PySem.W.fnOf name qual gp [.Return (some (.Attribute (.Name "self" q1) fld q2)) q3] gsc dV kV doc pm an cdv ct), osl⟩) (hcd : PySem.W.codeIn K cdv qual = true) (S : FnScope ["self"] ["self"] gsc)
    (hl : gsc.names.lookup ("self" : Str) = some NameKind.local) (hc : ∀ x ∈ gsc.names, x.2 ≠ .cell)
    (hb : bindArgs (PySem.W.fnOf name qual gp [.Return (some (.Attribute (.Name "self" q1) fld q2)) q3] gsc dV kV doc pm an cdv ct) ⟨[Value.ref a], []⟩ = pure [(("self" : Str), Value.ref a)])
    (nf : NoAttr K C fld) (hv : mA fld = some (.str nm t))
    (h : ∀ h' tk, (∀ b o, s.heap.get? b = some o → h'.get? b = some o) → R (.ok (.ret (.str nm t))) { s with heap := h', toks := tk }) :
    codeAny (model P w) A (.call (.ref g) ⟨[.ref a], []⟩) R s := by
  refine codeAny_call_function hroom (X _ _ lk) rfl S.co S.gen rfl (PySem.W.codeRec_of X hcd) ?_
  rw [hb]
  refine wpAny_pure (wpAny_newFunctionEnv hc (fun y hy => ?_) (fun h₁ hns hsb => ⟨nl.fresh _ hsb, codeAny_func (wpAny_execs_cons (wpAny_Return_some ?_))⟩) S.kind)
  · cases hy with
    | head => exact hl
    | tail _ z => cases z
  · have kp : ∀ b o, s.heap.get? b = some o → h₁.get? b = some o := fun b o e => hsb.extBut b o (Nat.ne_of_lt (Heap.lt_size e)) (Heap.get?_push_of_some _ e)
    refine attr_of rfl (wpAny_Name (wpAny_loadName_local S.kind (by exact hl) hns (v := .ref a) rfl ?_))
    exact get_map (s := { s with heap := h₁, toks := _ }) (X.keeps kp) (O.keeps kp) (c.get fld) c.hd nf hv rfl (h h₁ _ kp)

/-- the lambda `x: x.m` called, m a property with such a getter -/
theorem turn_lam {Q : Value → Shared → Prop} {f c' p g : Addr} {q : Str} {x m name qual fld : Str} {lp gp : Arguments} {lsc gsc : Scope} {cl : List (Str × Addr)} {pm ctv dV kV doc gpm cdv ct oc : Value} {an od : Option Addr} {osl : Array (Option Value)} {p1 p2 q1 q2 q3 : Pos} {nm : Str} {t : Tok}
    (hroom : A.depth + 1 < recursionLimit) (X : K.In s.heap) (nl : s.heap.NoLimit) (c : Cls K C) (O : ObjM s.heap a dx C mA)
    (hf : s.heap.get? f = some (PySem.W.kla_obj "<lambda>" q lp (.Attribute (.Name x p1) m p2) lsc cl pm c' ctv)) (hcr : s.heap.CodeRec (.ref c') q)
    (hco : lsc.isCoroutine = false) (hge : lsc.isGenerator = false) (hk : lsc.kind = .function) (hxl : lsc.names.lookup x = some NameKind.local) (hlc : ∀ y ∈ lsc.names, y.2 ≠ .cell)
    (hlb : bindArgs (PySem.W.kla_fn "<lambda>" q lp (.Attribute (.Name x p1) m p2) lsc cl pm (.ref c') ctv) ⟨[Value.ref a], []⟩ = pure [(x, Value.ref a)]) (hdb : (x == ("__debug__" : Str)) = false)
    (hp : PropOf K C m p g)
    (lk : K.lookup g = some ⟨oc, od, .func (PySem.W.fnOf name qual gp [.Return (some (.Attribute (.Name "self" q1) fld q2)) q3] gsc dV kV doc gpm an cdv ct), osl⟩) (hcd : PySem.W.codeIn K cdv qual = true) (S : FnScope ["self"] ["self"] gsc)
    (hl : gsc.names.lookup ("self" : Str) = some NameKind.local) (hc : ∀ x ∈ gsc.names, x.2 ≠ .cell)
    (hb : bindArgs (PySem.W.fnOf name qual gp [.Return (some (.Attribute (.Name "self" q1) fld q2)) q3] gsc dV kV doc gpm an cdv ct) ⟨[Value.ref a], []⟩ = pure [(("self" : Str), Value.ref a)])
    (nf : NoAttr K C fld) (hv : mA fld = some (.str nm t))
    (h : ∀ h' tk, (∀ b o, s.heap.get? b = some o → h'.get? b = some o) → Q (.str nm t) { s with heap := h', toks := tk }) :
    wpAny (model P w) A (call (.ref f) [.ref a]) Q E s := by
  refine wpAny_call (PySem.W.kla_callFunE (by omega) hf rfl hco hge rfl hcr ?_)
  rw [hlb]
  refine wpAny_pure (wpAny_newFunctionEnv hlc (fun y hy => ?_) (fun h₁ hns hsb => ⟨nl.fresh _ hsb, PySem.W.kla_codeExpr ?_⟩) hk)
  · cases hy with
    | head => exact hxl
    | tail _ z => cases z
  · have kp : ∀ b o, s.heap.get? b = some o → h₁.get? b = some o := fun b o e => hsb.extBut b o (Nat.ne_of_lt (Heap.lt_size e)) (Heap.get?_push_of_some _ e)
    refine attr_of rfl (wpAny_Name (wpAny_loadName_local hk (by exact hxl) hns (v := .ref a) (by simp) ?_) hdb)
    obtain ⟨od', J, _⟩ := (O.keeps kp).look
    obtain ⟨rest, hrec⟩ := hp.rec_
    have hcl : (PySem.W.clsIn K C).isSome = true := by
      obtain ⟨cd, hc, _⟩ := PySem.W.any_some c.hd
      rw [hc]
      rfl
    have X1 := X.keeps kp
    refine PySem.W.get_bind (s := { s with heap := h₁, toks := _ }) X1 J (PySem.W.plainGet_of (c.get m)).1 (PySem.W.findObj_data hcl hp.at_ hp.get hp.tak) (PySem.W.plainGet_of (c.get m)).2 (wpAny_call (PySem.W.prop_get (s := { s with heap := h₁, toks := _ }) X1 hrec ?_))
    refine turn_getter (s := { s with heap := h₁, toks := _ }) (by exact hroom) X1 (nl.fresh _ hsb) c (O.keeps kp) lk hcd S hl hc hb nf hv fun h' tk k2 => ?_
    show wpAny _ _ (handedOut _) _ _ _
    rw [PySem.W.handedOut_of rfl]
    exact wpAny_pure (h h' tk fun b o e => k2 b o (kp b o e))
end
end L2

set_option maxHeartbeats 4000000
namespace L2
open PySem PySem.Spec PyProof.Rows
/-- by the names -/
def leName (a b : Addr × Str) : Bool := decide (a.2.cps.toList ≤ b.2.cps.toList)
/-- sorted(t, key=lambda x: x.m): the own objects of the tuple at t, each with its name -/
def tSrtLam (C : Addr) (fld : Str) (T : List (Addr × Str)) (ta : TE) : TE := fun σ H Q => ta σ H fun v H1 => ∃ (t : Addr) (bs : List (Addr × Str)), v = .ref t ∧ H1 t = some (.tup (bs.map fun b => V.ref b.1)) ∧ bs.length ≤ 1000 ∧ LamX.Tabs T H1 ∧
  (∀ b ∈ bs, ∃ dx fs, H1 b.1 = some (.ins C dx fs) ∧ fs.lookup fld = some (.str b.2)) ∧
  ∀ H2 D, LamX.ExtN H1 H2 → LamX.Tabs T H2 → H2 D = none → Q (.ref D) (upd H2 D (.lst ((bs.mergeSort leName).map fun b => V.ref b.1)))
theorem each_refs : ∀ {bs : List (Addr × Str)} {us : List Value}, Vals (bs.map fun b => V.ref b.1) us → PySem.W.EachIs (fun (v : Value) (b : Addr × Str) => v = .ref b.1) us bs
  | [], _, .nil => .nil
  | _ :: _, _, .cons r rs => .cons r (each_refs rs)
theorem refs_each : ∀ {bs : List (Addr × Str)} {us : List Value}, PySem.W.EachIs (fun (v : Value) (b : Addr × Str) => v = .ref b.1) us bs → Vals (bs.map fun b => V.ref b.1) us
  | [], _, .nil => .nil
  | _ :: _, _, .cons r rs => .cons r (refs_each rs)
theorem pe_sortedLam {X : Cx} {e : Expr} {ta : TE} {T : List (Addr × Str)} {C P0 c p g : Addr} {k : Nat} {x m name qual fld : Str} {lp gp : Arguments} {lsc gsc : Scope} {dV kV doc gpm cdv ct oc : Value} {an od : Option Addr} {osl : Array (Option Value)} {cp np p1 p2 q1 q2 q3 lpos kpos : Pos}
    (hg : Gl X "sorted") (hm : X.mg "sorted" = none) (ha : PE X e ta)
    (TB : LamX.TabB X.base X.mg c P0) (hcode : X.env.code = .ref c) (hmT : (P0, X.env.qual ++ "<lambda>") ∈ T) (hu : ∀ p ∈ T, p.1 = P0 → p.2 = X.env.qual ++ "<lambda>") (hdef : defaultsOf lp X.env = ([], [])) (hr : Room (k + 2) X.A)
    (hco : lsc.isCoroutine = false) (hge : lsc.isGenerator = false) (hk : lsc.kind = .function) (hxl : lsc.names.lookup x = some NameKind.local) (hlc : ∀ y ∈ lsc.names, y.2 ≠ .cell) (hlf : ∀ y ∈ lsc.names, y.2 ≠ .free)
    (hlb : ∀ (a : Addr) (q : Str) (cl : List (Str × Addr)) (pm cv ctv : Value), bindArgs (PySem.W.kla_fn "<lambda>" q lp (.Attribute (.Name x p1) m p2) lsc cl pm cv ctv) ⟨[Value.ref a], []⟩ = pure [(x, Value.ref a)]) (hdb : (x == ("__debug__" : Str)) = false)
    (cl : Cls X.K C) (hp : PropOf X.K C m p g)
    (lk : X.K.lookup g = some ⟨oc, od, .func (PySem.W.fnOf name qual gp [.Return (some (.Attribute (.Name "self" q1) fld q2)) q3] gsc dV kV doc gpm an cdv ct), osl⟩) (hcd : PySem.W.codeIn X.K cdv qual = true) (S : FnScope ["self"] ["self"] gsc)
    (hl : gsc.names.lookup ("self" : Str) = some NameKind.local) (hc : ∀ x ∈ gsc.names, x.2 ≠ .cell)
    (hb : ∀ a : Addr, bindArgs (PySem.W.fnOf name qual gp [.Return (some (.Attribute (.Name "self" q1) fld q2)) q3] gsc dV kV doc gpm an cdv ct) ⟨[Value.ref a], []⟩ = pure [(("self" : Str), Value.ref a)])
    (nf : NoAttr X.K C fld)
    (he : backTo cp (starEach [e] X.env) = (false, eval e X.env) :: backTo cp (starEach [] X.env) := by rfl) (hpl : (backTo cp (starEach [e] X.env)).any (·.1) = false := by rfl) :
    PE X (.Call (.Name "sorted" np) [e] [⟨some "key", .Lambda lp (.Attribute (.Name x p1) m p2) lsc lpos, kpos⟩] cp) (tSrtLam C fld T ta) := by
  have hbs : bootBuiltins ("sorted" : Str) = some (.builtin "sorted") := by decide +kernel
  refine ⟨fun pins s σ H Q I h => ?_⟩
  refine wpAny_Call_Name_kw (ld_blt I hg hm hbs ?_ (by decide) (by decide))
  refine PyProof.Rows.callWith_kw ?_ he hpl rfl rfl
  rw [he]
  refine Calls.spliced_cons (thn (ha.run pins s σ H _ I h) fun u s1 ⟨v, H1, I1, rv, t, bs, ev, ht, hn, hT, hbs2, q1⟩ => Calls.spliced_nil ?_)
  subst ev
  obtain rfl : u = Value.ref t := rv
  refine kwAll_cons (LamX.lam_make2 I1 TB hcode hmT hu hT hdef (fun y hy e => absurd e (hlf y hy)) fun f c' pm ctv H2 s2 I2 eN T2 hf hfn hfr hco2 => kwAll_nil ?_)
  show wpAny (model X.prog X.w) X.A (call (.builtin "sorted") [.ref t] [(Str.ofString "key", .ref f)]) _ _ s2
  have ht2 : H2 t = some (.tup (bs.map fun b => V.ref b.1)) := eN _ _ ht (fun ps z => by cases z)
  obtain ⟨hz, its, rvs, hT3⟩ := I2.hok t _ ht2
  have eL : its.toArray.toList = its := by simp
  obtain ⟨⟨oc', vs', tq', hoc, hdc, hvc⟩, _, _⟩ := I2.hok c' _ hco2
  have hd := hr.dp
  have hu2 := hr.un
  refine SrtT.sortedT_key (b := false) (R := fun v b => v = .ref b.1) (fun b : Addr × Str => PyData.str b.2) (vs := its) ?tt (each_refs rvs) (PySem.W.AllAlike.of fun _ _ => by simp [PySem.W.alike]) (PySem.W.Sortable.others fun _ => ⟨by simp, by simp⟩) (by rw [sizeLine_eq]; omega)
    (fun b _ => by show X.A.units + 2 + 0 < _; omega) (PyProof.Rows.ksk_s1 _ _) (fun _ => PyProof.Rows.ksk_l1 _ _) (fun _ => PyProof.Rows.ksk_t1 _ _) (fun v b ev hb3 g0 tk kp => ?turn) (fun out c0 g0 tk kp nw hD hlen hE => ?fin)
  case tt =>
    obtain ⟨o, ho, hcl, n, hdt⟩ := hT3
    exact ⟨o, n, ho, hcl, hdt⟩
  case turn =>
    subst ev
    obtain ⟨dx, fs, ei, el⟩ := hbs2 b hb3
    obtain ⟨mA, O, r, _, _, _⟩ := ins_get I2.hok (eN _ _ ei (fun ps z => by cases z))
    obtain ⟨u, hu3, ru⟩ := RelO.some_of (v := .str b.2) (o := mA fld) (by rw [← el]; exact r fld)
    obtain ⟨tu, rfl⟩ : ∃ tu, u = Value.str b.2 tu := ru
    refine turn_lam (s := { s2 with heap := g0, toks := tk }) (by show X.A.depth + 1 < _; omega) (I2.kIn.keeps kp) (I2.nolimit.keeps kp) cl (O.keeps kp) (kp _ _ hf) ⟨c', oc', vs', tq', rfl, kp _ _ hoc, hdc, hvc⟩ hco hge hk hxl hlc (hlb _ _ _ _ _ _) hdb hp lk hcd S hl hc (hb _) nf hu3 fun h' tk2 k2 => ?_
    exact ⟨h', tk2, rfl, k2, .str _ _⟩
  case fin =>
    rw [PySem.W.dataLe_str] at hE
    have rv2 := refs_each hE
    refine ⟨.ref _, upd H2 (s2.heap.objs.size + 1) (.lst ((bs.mergeSort leName).map fun b => V.ref b.1)), I2.laid (t' := tk) kp (Nat.le_succ _) ⟨by rw [List.length_map, List.length_mergeSort, sizeLine_eq]; omega, out, c0, rv2, hD⟩, rfl, q1 H2 _ eN T2 (I2.hok.fresh (Nat.le_succ _))⟩
end L2

set_option maxHeartbeats 4000000
namespace N
open PySem L2
/-! ### Book(k1, k2, ..) -/
structure InitAtC (K : PySem.W.Frag) (CB : Addr) (qual : Str) (st : Stmt) (c : Addr) : Prop where
  ex : ∃ (f : Addr) (oc : Value) (od : Option Addr) (kV doc pm : Value) (an : Option Addr) (ct : Value) (osl : Array (Option Value)), Mk K CB f ∧
    K.lookup f = some ⟨oc, od, .func (PySem.W.fnOf "__init__" qual (defArgs st) (defBody st) (defScope st) .none kV doc pm an (.ref c) ct), osl⟩ ∧ PySem.W.codeIn K (.ref c) qual = true
/-- all but the tables and b's object stay -/
def Nb (b : Addr) (H H' : Hp) : Prop := ∀ a o, a ≠ b → H a = some o → (∀ ps, o ≠ .tbl ps) → H' a = some o
def rowsSorted (rs : List Row) : List Row := rs.mergeSort fun x y => decide (x.name.cps.toList ≤ y.name.cps.toList)
def spBInit (CB C : Addr) (T : List (Addr × Str)) : Sp := fun vs H Q _ => ∃ (b dx t : Addr) (as : List Addr) (rs : List Row), vs = [.ref b, .ref t] ∧ H b = some (.ins CB dx []) ∧ H t = some (.tup (as.map V.ref)) ∧ Paired (KindAt C H) as rs ∧ FitOk rs ∧ (rs.map (·.name)).Nodup ∧
  as ≠ [] ∧ as.length ≤ 24 ∧ LamX.Tabs T H ∧ ∀ H', Nb b H H' → LamX.Tabs T H' → BookAt CB C H' b rs (rowsSorted rs) → Q .non H'
def nmOf (p : Addr × Row) : Addr × Str := (p.1, p.2.name)
def srt (zs : List (Addr × Row)) : List (Addr × Row) := zs.mergeSort fun x y => leName (nmOf x) (nmOf y)
theorem zip_fst {α β : Type} : ∀ {as : List α} {bs : List β}, as.length = bs.length → (as.zip bs).map Prod.fst = as
  | [], [], _ => rfl
  | a :: as, b :: bs, h => congrArg (List.cons a) (zip_fst (Nat.succ.inj h))
theorem zip_snd {α β : Type} : ∀ {as : List α} {bs : List β}, as.length = bs.length → (as.zip bs).map Prod.snd = bs
  | [], [], _ => rfl
  | a :: as, b :: bs, h => congrArg (List.cons b) (zip_snd (Nat.succ.inj h))
theorem zip_all {α β : Type} {F : α → β → Prop} : ∀ {as : List α} {bs : List β}, Paired F as bs → ∀ p ∈ as.zip bs, F p.1 p.2
  | _, _, .nil, _, h => nomatch h
  | _, _, .cons x y, p, h => by
    rcases List.mem_cons.mp h with e | h
    · subst e
      exact x
    · exact zip_all y p h
theorem paired_fs {α β : Type} {F : α → β → Prop} : ∀ {ls : List (α × β)}, (∀ p ∈ ls, F p.1 p.2) → Paired F (ls.map Prod.fst) (ls.map Prod.snd)
  | [], _ => .nil
  | _ :: _, h => .cons (h _ (.head _)) (paired_fs fun u hu => h u (.tail _ hu))
theorem zs_refs {as : List Addr} {rs : List Row} (h : as.length = rs.length) : ((as.zip rs).map nmOf).map (fun b => V.ref b.1) = as.map V.ref := by
  rw [List.map_map, show ((fun b : Addr × Str => V.ref b.1) ∘ nmOf) = V.ref ∘ (Prod.fst : Addr × Row → Addr) from rfl, ← List.map_map, zip_fst h]
theorem srt_refs (zs : List (Addr × Row)) : ((zs.map nmOf).mergeSort leName).map (fun b => V.ref b.1) = ((srt zs).map Prod.fst).map V.ref := by
  rw [srt, ← List.map_mergeSort (r := fun x y => leName (nmOf x) (nmOf y)) (s := leName) (f := nmOf) (fun _ _ _ _ => rfl), List.map_map, List.map_map]
  rfl
theorem srt_rows {as : List Addr} {rs : List Row} (h : as.length = rs.length) : (srt (as.zip rs)).map Prod.snd = rowsSorted rs := by
  rw [srt, List.map_mergeSort (r := fun x y => leName (nmOf x) (nmOf y)) (s := fun x y : Row => decide (x.name.cps.toList ≤ y.name.cps.toList)) (f := Prod.snd) (fun _ _ _ _ => rfl), zip_snd h]
  rfl
theorem KindAt.nb {C : Addr} {H H' : Hp} {a b : Addr} {r : Row} (h : KindAt C H a r) (hab : a ≠ b) (e : Nb b H H') : KindAt C H' a r := let ⟨dx, h⟩ := h; ⟨dx, e _ _ hab h (fun ps z => by cases z)⟩
theorem tabs_nb {T : List (Addr × Str)} {H H' : Hp} {b C dx : Addr} {fs : List (Str × V)} (h : LamX.Tabs T H) (hb : H b = some (.ins C dx fs)) (e : ∀ a o, a ≠ b → H a = some o → H' a = some o) : LamX.Tabs T H' := fun p hp => by
  obtain ⟨ps, h1, h2, h3⟩ := h p hp
  refine ⟨ps, e _ _ (fun z => ?_) h1, h2, fun pos cv hc => ?_⟩
  · rw [z, hb] at h1
    cases h1
  · obtain ⟨c, e1, e2⟩ := h3 pos cv hc
    refine ⟨c, e1, e _ _ (fun z => ?_) e2⟩
    rw [z, hb] at e2
    unfold LamX.CodeO at e2
    cases e2
section
variable {P : Program} {w : World} {K : PySem.W.Frag} {mg : Str → Option Value} {base : Heap} {C CB : Addr} {Cs : Nat → Addr}
abbrev s_Book___init__ : Stmt := inClass (top 34) 0
theorem sc_BookD_initD : FnScope ["self", "kinds", "kind"] ["self", "kinds"] (defScope s_Book___init__) := ⟨rfl, rfl, rfl, by decide +kernel, rfl, by decide +kernel, by decide +kernel⟩
theorem b_init {c P0 : Addr} {T : List (Addr × Str)} (B : Blts mg) (KT : KindT K mg C Cs) (U : BookT K mg CB) (g_MK : ∃ t, mg "_MOST_KINDS" = some (.int 24 t)) (FI : InitAtC K CB "Book.__init__" s_Book___init__ c) (FN : PropAt K C "name" "Kind.name" s_Kind_name)
    (p1 : PK' P w K mg base C "name" fun r => .str r.name) (TB : LamX.TabB base mg c P0) (hmT : (P0, ("Book.__init__" : Str) ++ ".<locals>." ++ "<lambda>") ∈ T) (hu : ∀ p ∈ T, p.1 = P0 → p.2 = ("Book.__init__" : Str) ++ ".<locals>." ++ "<lambda>")
    (h_check_kinds : Has P w K mg base "_check_kinds" 5 ["kinds"] (spCheck K C)) :
    ∃ f, Mk K CB f ∧ FnR P w K mg base CX0 6 f (fun vs H Q E => ∃ ws rest, vs = ws ++ rest ∧ ws.length = (["self"] : List Str).length ∧ rest.length ≤ sizeLine ∧ ∀ p, H p = Option.none → spBInit CB C T (ws ++ [V.ref p]) (upd H p (.tup rest)) Q E) := by
  obtain ⟨f, oc, od, kV, doc, pm, an, ct, osl, M, lk, hcd⟩ := FI.ex
  obtain ⟨pn, gn, fdn, hpn, Fn⟩ := FN.ex
  obtain ⟨ocn, odn, kVn, docn, pmn, ann, cdvn, ctn, osln, rfl, lkn, hcdn⟩ := Fn.ex
  obtain ⟨_, g_MOST_KINDS⟩ := g_MK
  refine ⟨f, M, StX.fn_star (ps := ["self"]) (pv := "kinds") (N := ["self", "kinds", "kind"]) lk hcd sc_BookD_initD StX.cxUp_none (StX.bind_star1 (B := fun us => bindArgs (PySem.W.fnOf "__init__" "Book.__init__" (defArgs s_Book___init__) (defBody s_Book___init__) (defScope s_Book___init__) .none kV doc pm an (.ref c) ct) ⟨us, []⟩) (fun a => rfl) (fun a r rs => rfl)) (fun A outer s H vs Q E hr h => ?_)⟩
  obtain ⟨b, dx, t, as, rs, ev, hb, ht, hk, part, nd, hne, h24, hT, k⟩ := h
  have go : ∃ t', PSs (cxOf CX0 P w K mg base ["self", "kinds", "kind"] "Book.__init__" (defScope s_Book___init__) f (.ref c) A outer s H E).nox (defBody s_Book___init__) t' ∧ t' { nx := fun _ H' => Q .non H', rt := Q } (start ["self", "kinds", "kind"] vs) H := by
    subst ev
    refine ⟨_, (pss_cons (ps_for PassesOwn.never rfl (pi_tup (pv 1)) (pg_name (i := 2) sc_BookD_initD.nd rfl (Or.inl rfl))
        (pss_one (ps_if (pt_not (pt_val (pe_callB (call_isiF K) (by rfl) B.n_isinstance (by decide +kernel) (pa_cons (pv 2) (pa_cons (pe_glob (v := .ref C) rfl KT.g rfl) pa_nil))))) (pss_one ps_never)
          pss_nil)))
      (pss_cons (ps_if (pt_cmpR op_gt (pe_callB call_len (by rfl) B.n_len PySem.boot_len (pa_cons (pv 1) pa_nil)) (pe_glob (v := .int 24) rfl g_MOST_KINDS ⟨_, rfl⟩) (by first | exact nomark _ | rfl)) (pss_one ps_never)
        pss_nil)
      (pss_cons (ps_if (pt_not (pt_truth (pv 1) (by intro _; rfl))) (pss_one ps_never)
        pss_nil)
      (pss_cons (ps_expr (pe_has h_check_kinds (hr.mono (by decide)) (pa_cons (pv 1) pa_nil)))
      (pss_cons (ps_fld (pv 0) (pe_callTy call_tuple_of (by rfl) B.n_tuple (by decide +kernel) (pa_cons (pe_sortedLam (k := 0) (T := T) (by rfl) B.n_sorted (pv 1) TB rfl hmT hu rfl (hr.mono (by decide)) rfl rfl rfl rfl (by decide +kernel) (by decide +kernel) (fun _ _ _ _ _ _ => rfl) (by decide) KT.cl hpn lkn hcdn sc_Kind_name rfl (by decide +kernel) (fun _ => rfl) KT.n0) pa_nil)) rfl)
      (pss_one (ps_fld (pv 0) (pe_dc (own := [("kind", 2)]) rfl sc_BookD_initD.nd (pi_tup (pv 1)) (blkOk_by (own := [("kind", 2)]) (N := ["self", "kinds", "kind"]) (sc := defScope s_Book___init__) (by decide +kernel)) (fun _ _ _ _ _ => by exact (pg_name (i := 2) sc_BookD_initD.nd rfl (Or.inl rfl))) (fun _ _ _ _ _ => by exact pts_nil) (fun _ _ _ _ _ => by exact (pe_hasP p1 KT.cl (hr.mono (by decide)) (pv 2))) (fun _ _ _ _ _ => by exact (pv 2))) rfl))))))), ?_⟩
    have KS : SqT K H t (as.map V.ref) := SqT.of ht
    have len := paired_len hk
    refine ⟨_, rfl, t, rfl, ⟨as.map V.ref, KS⟩, for_tup (K := K) (a := t) (xs := as.map V.ref) (fun i σ H' => ∃ v : Option V, σ = [some (.ref b), some (.ref t), v] ∧ Same H H') ⟨none, rfl, Same.refl _⟩ (fun i σ H' _ ⟨_, _, e⟩ => e.st KS) ?_ ?_⟩
    · rintro i x σ H' hx ⟨v, rfl, e⟩
      obtain ⟨a, ha, rfl⟩ := map_at hx
      obtain ⟨r, hr', ka⟩ := paired_get hk ha
      obtain ⟨da, ka'⟩ := ka.same e
      exact ⟨_, rfl, _, _, _, _, true, rfl, .own C, KT.own.ty ka', kit_self, true, rfl, iteF ⟨_, rfl, e⟩⟩
    · rintro σ H1 ⟨v, rfl, e1⟩
      refine ⟨_, rfl, _, as.length, rfl, .inr ⟨_, e1.st KS, (List.length_map _).symm⟩, _, _, rfl, rfl, _, rfl, ite2 (fun c => absurd (of_decide_eq_true c) (by omega)) (fun _ => ?_)⟩
      refine next_of ?_
      dsimp only
      refine ⟨_, rfl, true, .inr (.inl ⟨_, e1.st KS, ?_⟩), iteF ?_⟩
      · cases as with
        | nil => exact absurd rfl hne
        | cons _ _ => rfl
      refine next_of ?_
      dsimp only
      refine ⟨_, rfl, t, as, rs, rfl, e1.st KS, L2.Paired.mapP hk fun _ _ q => q.same e1, part, nd, by omega, fun H2 e2 => ?_⟩
      dsimp only
      have e12 := e1.trans e2
      have hb2 := e12 _ _ hb
      have kne : ∀ p ∈ as.zip rs, p.1 ≠ b := fun p hp z => by
        obtain ⟨d', q⟩ := zip_all hk p hp
        rw [z, hb] at q
        have z := congrArg (fun o => match o with | some (HO.ins _ _ fs) => fs.length | _ => 0) q
        cases (z : (0 : Nat) = 6)
      have aux : ∀ {H3 : Hp} {D l : Addr} {o : HO}, LamX.ExtN H2 H3 → H3 D = none → (upd H3 D o) l = none → H3 b = some (.ins CB dx []) ∧ b ≠ D ∧ l ≠ D ∧ H3 l = none ∧ b ≠ l := fun {H3 D l o} eN3 nD nl => by
        have hb3 : H3 b = some (.ins CB dx []) := eN3 _ _ hb2 (fun ps z => by cases z)
        have lD : l ≠ D := fun z => by
          rw [z, upd_same] at nl
          cases nl
        have nl3 : H3 l = none := by
          rw [upd_ne lD] at nl
          exact nl
        exact ⟨hb3, ne_of_none hb3 nD, lD, nl3, ne_of_none hb3 nl3⟩
      refine ⟨_, rfl, t, (as.zip rs).map nmOf, rfl, ?tup, ?len, ?tabs, ?own, fun H3 D eN3 hT3 nD => ⟨D, _, rfl, .inl ⟨SqL.of upd_same, fun l nl => ⟨_, rfl, b, CB, dx, [], rfl, ?hb4, U.cl, U.nk, by decide, ?_⟩⟩⟩⟩
      case tup =>
        rw [zs_refs len]
        exact e12 _ _ ht
      case len =>
        rw [List.length_map, List.length_zip]
        omega
      case tabs => exact fun p hp => (hT p hp).ext e12
      case own =>
        intro y hy
        obtain ⟨p, hp, rfl⟩ := List.mem_map.mp hy
        obtain ⟨d', q⟩ := zip_all hk p hp
        exact ⟨d', _, e12 _ _ q, rfl⟩
      case hb4 =>
        obtain ⟨hb3, bD, lD, nl3, bl⟩ := aux eN3 nD nl
        rw [upd_ne bl, upd_ne bD]
        exact hb3
      obtain ⟨hb3, bD, lD, nl3, bl⟩ := aux eN3 nD nl
      refine next_of ?_
      dsimp only
      have bt : t ≠ b := fun z => by
        rw [z, hb] at ht
        cases ht
      have H3t : H3 t = some (.tup (as.map V.ref)) := eN3 _ _ (e12 _ _ ht) (fun ps z => by cases z)
      have tD : t ≠ D := ne_of_none H3t nD
      have tl : t ≠ l := ne_of_none H3t nl3
      -- what of H stands in the heap behind self._kinds
      generalize hH5 : upd (upd (upd H3 D (.lst _)) l (.tup _)) b (.ins CB dx _) = H5
      have old : ∀ a o, a ≠ b → H3 a = some o → H5 a = some o := fun a o hab e => by
        rw [← hH5, upd_ne hab, upd_ne (ne_of_none e nl3), upd_ne (ne_of_none e nD)]
        exact e
      have nb5 : Nb b H H5 := fun a o hab e n => old _ _ hab (eN3 _ _ (e12 _ _ e) n)
      have H5b : H5 b = some (.ins CB dx [("_kinds", .ref l)]) := by
        rw [← hH5, upd_same]
        rfl
      have H5l : H5 l = some (.tup (((srt (as.zip rs)).map Prod.fst).map V.ref)) := by
        rw [← hH5, upd_ne (Ne.symm bl), upd_same, srt_refs]
      have K5 : SqT K H5 t (as.map V.ref) := SqT.of (old _ _ bt H3t)
      have hk5 : Paired (KindAt C H5) as rs := by
        have q := paired_fs (F := KindAt C H5) (ls := as.zip rs) fun p hp => (zip_all hk p hp).nb (kne p hp) nb5
        rw [zip_fst len, zip_snd len] at q
        exact q
      have T5 : LamX.Tabs T H5 := tabs_nb hT3 hb3 old
      refine ⟨_, rfl, t, rfl, ⟨as.map V.ref, K5⟩, fun D2 nD2 => dc_tup (K := K) (a := t) (xs := as.map V.ref) (fun i H' => H' D2 = some (.dK (tab (as.take i) (rs.take i))) ∧ Same H5 H') ⟨by rw [upd_same]; rfl, Same.new nD2⟩ (fun i H' _ ⟨_, e⟩ => e.st K5) ?_ ?_⟩
      · rintro i x H' hx ⟨hd, e⟩
        obtain ⟨a, ha, rfl⟩ := map_at hx
        obtain ⟨r, hr', ka⟩ := paired_get hk5 ha
        obtain ⟨da, ka'⟩ := ka.same e
        refine ⟨rfl, _, rfl, a, da, _, rfl, ka', a, r, rfl, ka.same e, ?_⟩
        refine ⟨_, rfl, _, .inr r.name, rfl, hd, ?_, ?_, fun c o hc => (upd_ne (ne_of_none hc nD2)).trans (e c o hc)⟩
        · refine Nat.lt_of_le_of_lt tab_len ?_
          rw [List.length_take, sizeLine_eq]
          omega
        · rw [upd_same, putK_new _ (tab_no nd hr'), tab_snoc ha hr']
      · rintro H' ⟨hd, e⟩
        refine ⟨_, rfl, b, CB, dx, _, rfl, e _ _ H5b, U.cl, U.nt, by show 1 < 1000; decide, ?_⟩
        rw [List.length_map, List.take_length, len, List.take_length] at hd
        have hb' := e _ _ H5b
        have bD2 : b ≠ D2 := ne_of_none H5b nD2
        have up : ∀ {o : HO} a u, a ≠ b → H' a = some u → (upd H' b o) a = some u := fun {o} a u hab q => by
          rw [upd_ne hab]
          exact q
        refine k _ (fun a o hab q n => up _ _ hab (e _ _ (nb5 a o hab q n))) (tabs_nb (fun p hp => (T5 p hp).ext e) hb' fun a o hab q => up a o hab q) ⟨dx, l, D2, as, (srt (as.zip rs)).map Prod.fst, upd_same, up _ _ (Ne.symm bl) (e _ _ H5l), ?_, up _ _ (Ne.symm bD2) hd, ?_, nd⟩
        · rw [← srt_rows len]
          exact paired_fs fun p hp => by
            have hp' := List.mem_mergeSort.mp hp
            obtain ⟨d', q⟩ := (zip_all hk p hp').nb (kne p hp') nb5
            exact ⟨d', up _ _ (kne p hp') (e _ _ q)⟩
        · have q := paired_fs (F := KindAt C _) (ls := as.zip rs) fun p hp => by
            obtain ⟨d', q⟩ := (zip_all hk p hp).nb (kne p hp) nb5
            exact ⟨d', up (o := .ins CB dx (putF "_table" (.ref D2) [("_kinds", .ref l)])) _ _ (kne p hp) (e _ _ q)⟩
          rw [zip_fst len, zip_snd len] at q
          exact q
  obtain ⟨t', ht', hq'⟩ := go
  exact ⟨t', ht'.nox, hq'⟩
end
end N

set_option maxHeartbeats 4000000
namespace N
open PySem L2
theorem made_same {H H' : Hp} {x dx C : Addr} (hx : H x = none) (hd : H dx = none) (e : But x (upd (upd H dx (.own x)) x (.ins C dx [])) H') : Same H H' := fun b o h => by
  have n1 : b ≠ x := ne_of_none h hx
  have n2 : b ≠ dx := ne_of_none h hd
  exact e b o (by rw [upd_ne n1, upd_ne n2]; exact h) n1
theorem made_odd {H : Hp} {x dx C : Addr} (hx : H x = none) (hd : H dx = none) (ne : dx ≠ x) : Same H (upd (upd H dx (.own x)) x (.ins C dx [])) := (Same.new hd).trans (Same.new (by rw [upd_ne ne.symm]; exact hx))
theorem ten_names : ∀ s ∈ ten, NameOk s := by decide +kernel
theorem shapes_ok : ∀ p ∈ shapes, (0 ≤ p.1 ∧ p.1 ≤ 6) ∧ (0 ≤ p.2 ∧ p.2 ≤ 6) ∧ ¬ (p.1 = 0 ∧ p.2 = 0) := by decide +kernel
theorem BookOk.nameOk {both : Bool} {rs : List Row} (h : BookOk both rs) {r : Row} (hr : r ∈ rs) : NameOk r.name := ten_names _ (h.names.mem_iff.mp (List.mem_map_of_mem hr))
theorem BookOk.kind {both : Bool} {rs : List Row} (h : BookOk both rs) {r : Row} (hr : r ∈ rs) : KindOk r := by
  obtain ⟨a, b, c⟩ := shapes_ok _ (h.part.shape r hr)
  obtain ⟨y0, y1⟩ := h.part.yarn r hr
  refine ⟨h.nameOk hr, fun x e => ?_, fun x e => ?_, a, b, c, y0, by omega⟩
  · obtain ⟨u, hu, en, _⟩ := h.part.back r hr x e
    rw [← en]
    exact h.nameOk hu
  · obtain ⟨u, hu, en, _⟩ := h.part.mirror r hr x e
    rw [← en]
    exact h.nameOk hu
theorem BookOk.nodup {both : Bool} {rs : List Row} (h : BookOk both rs) : (rs.map (·.name)).Nodup := h.names.nodup_iff.mpr (by decide +kernel)
theorem BookOk.len {both : Bool} {rs : List Row} (h : BookOk both rs) : rs.length = 10 := by
  have e := h.names.length_eq
  rw [List.length_map] at e
  exact e
theorem ten_of {α : Type} : ∀ {l : List α}, l.length = 10 → ∃ a0 a1 a2 a3 a4 a5 a6 a7 a8 a9, l = [a0, a1, a2, a3, a4, a5, a6, a7, a8, a9]
  | [a0, a1, a2, a3, a4, a5, a6, a7, a8, a9], _ => ⟨a0, a1, a2, a3, a4, a5, a6, a7, a8, a9, rfl⟩
/-- a book of the law, told as a dict -/
def ShopAt (H : Hp) (d : Addr) (rs : List Row) : Prop := ∃ kvs, H d = some (.dK kvs) ∧ Paired (KvAt H) kvs rs
/-- ten kinds that make a book -/
structure ShelfOk (rs : List Row) : Prop where
  kind : ∀ r ∈ rs, KindOk r
  part : FitOk rs
  nodup : (rs.map (·.name)).Nodup
  len : rs.length = 10
theorem BookOk.shelf {both : Bool} {rs : List Row} (h : BookOk both rs) : ShelfOk rs := ⟨fun _ hr => h.kind hr, h.part.fit, h.nodup, h.len⟩
def spRealBook (CB C : Addr) (T : List (Addr × Str)) : Sp := fun vs H Q _ => ∃ (d : Addr) (rs : List Row), vs = [.ref d] ∧ ShopAt H d rs ∧ ShelfOk rs ∧ LamX.Tabs T H ∧
  ∀ b H', H b = none → LamX.ExtN H H' → LamX.Tabs T H' → BookAt CB C H' b rs (rowsSorted rs) → Q (.ref b) H'
section
variable {P : Program} {w : World} {K : PySem.W.Frag} {mg : Str → Option Value} {base : Heap} {C CB : Addr} {Cs : Nat → Addr}
end
end N

set_option maxHeartbeats 4000000
/-! == of two tuples, item by item, either way it ends -/
namespace GQ
open PySem PySem.SeqAt
open AutoSeq1 (wpAny_loadPart')
open MeetsSeq MeetsSeq2 MeetsSeq3 SeqRoads2
section
variable {prog : Program} {w : World} {A : Around} {R : Result → Shared → Prop}
/-- the answer: g i is what == of the two i-th items gives -/
def TupAns (g : Nat → Bool) (m n : Nat) (res : Bool) : Prop := ((∀ i, i < m → i < n → g i = true) → res = (m == n)) ∧ ∀ i, i < m → i < n → g i = false → res = false
theorem tuple_eqB (l b : Addr) (xs ys : Array Value) (n n2 : Nat) (dd dd2 : Option Addr) (sl sl2 : Array (Option Value)) (g : Nat → Bool) (res : Bool) (ans : TupAns g xs.size ys.size res) (I : Nat → Shared → Prop)
    (step : ∀ i (p1 : i < xs.size) (p2 : i < ys.size) s, I i s → wpAny (model prog w) A.in1 (eqBool xs[i] ys[i]) (fun r s' => r = g i ∧ I (i + 1) s') (fun e s' => R (.error e) s') s)
    (stop : ∀ i s, I i s → R (.ok (.ret (.bool res))) s) {s : Shared} (hx : s.heap.get? l = some { cls := .type "tuple", dict := dd, data := .seq xs n, slots := sl }) (hy : s.heap.get? b = some { cls := .type "tuple", dict := dd2, data := .seq ys n2, slots := sl2 }) (h : I 0 s) :
    wpAny (model prog w) A.in1 (Builtin.«tuple.__eq__» ⟨[.ref l, .ref b], []⟩) (FinOf prog w A R) (fun e s' => R (.error e) s') s := by
  have f2 := AutoSeq1.sub_tuple_tuple
  have start := h
  obtain ⟨hp, gg, d, tk, os⟩ := s
  wp_walk using wpAny_loadPart' hx, wpAny_loadPart' hy, wpAny_forIn_list _ (fun rest z s' => z.1 = none ∧ ∃ i, rest = (xs.toList.zip ys.toList).drop i ∧ I i s' ∧ ∀ j, j < i → j < xs.size → j < ys.size → g j = true) _
  case turn =>
    rintro ⟨u, v⟩ rest z s' ⟨hz, i, er, hI, all⟩
    have il : i < (xs.toList.zip ys.toList).length := Nat.lt_of_not_le fun c => by
      rw [List.drop_of_length_le c] at er
      cases er
    have p1 : i < xs.size := by
      have q := il
      rw [List.length_zip] at q
      exact Nat.lt_of_lt_of_le q (Nat.min_le_left _ _)
    have p2 : i < ys.size := by
      have q := il
      rw [List.length_zip] at q
      exact Nat.lt_of_lt_of_le q (Nat.min_le_right _ _)
    rw [List.drop_eq_getElem_cons il, List.cons.injEq] at er
    obtain ⟨e1, e2⟩ := er
    have eu : u = xs[i] := by simpa using congrArg Prod.fst e1
    have ev : v = ys[i] := by simpa using congrArg Prod.snd e1
    subst eu ev
    refine wpAny_bind (wpAny_mono (step i p1 p2 s' hI) (fun r s2 q => ?_) fun _ _ x => x)
    obtain ⟨er, q⟩ := q
    subst er
    cases hg : g i with
    | true =>
      wp_walk
      refine ⟨rfl, i + 1, e2, q, fun j hj k1 k2 => ?_⟩
      by_cases z : j = i
      · rw [z]
        exact hg
      · exact all j (by omega) k1 k2
    | false =>
      have er := ans.2 i p1 p2 hg
      subst er
      have fin := stop _ _ q
      wp_walk
      exact fin
  case fin =>
    rintro ⟨z1, z2⟩ s' ⟨hz, i, er, hI, all⟩
    simp only at hz
    subst hz
    have il : (xs.toList.zip ys.toList).length ≤ i := Nat.le_of_not_lt fun c => by
      rw [List.drop_eq_getElem_cons c] at er
      cases er
    have er : res = (xs.size == ys.size) := ans.1 fun j k1 k2 => all j (by simp at il; omega) k1 k2
    have fin := stop _ _ hI
    rw [er] at fin
    wp_walk
    simpa [Builtin.Tuple.tupleCompareSizes] using fin
  case h =>
    exact ⟨rfl, 0, rfl, start, fun j hj => by omega⟩
end
section
variable {prog : Program} {w : World} {A : Around} {E : Value → Shared → Prop} {s : Shared}
theorem rc_tupB {l b : Addr} {xs ys : Array Value} {Q : Value → Shared → Prop} (hu : A.units < cLine) (g : Nat → Bool) (res : Bool) (ans : TupAns g xs.size ys.size res) (I : Nat → Shared → Prop)
    (hl : s.heap.IsTuple l xs) (hb : s.heap.IsTuple b ys)
    (step : ∀ i (p1 : i < xs.size) (p2 : i < ys.size) s, I i s → wpAny (model prog w) A.in1 (eqBool xs[i] ys[i]) (fun r s' => r = g i ∧ I (i + 1) s') E s)
    (stop : ∀ i s, I i s → Q (.bool res) s) (h : I 0 s) : wpAny (model prog w) A (richCompare .Eq (.ref l) (.ref b)) Q E s := by
  obtain ⟨⟨c1, d1, a1, s1⟩, o1, k1, n1, e1⟩ := id hl
  obtain ⟨⟨c2, d2, a2, s2⟩, o2, k2, n2, e2⟩ := id hb
  simp only at k1 e1 k2 e2
  subst k1 e1 k2 e2
  refine wpAny_richCompare_same_room (op := .Eq) ⟨_, o1, rfl⟩ ⟨_, o2, rfl⟩ F.slot_tuple_eq (call_here F.slot_tuple_eq ⟨_, o1, rfl⟩ F.entry_tuple_eq (F.args_tuple_eq_2 _ _) ?_) hu
  exact tuple_eqB (R := wants (fun v s' => v ≠ .notImplemented ∧ Q v s') E) l b xs ys n1 n2 d1 d2 s1 s2 g res ans I step (fun i s' q => ⟨(fun x => nomatch x), stop i s' q⟩) o1 o2 h
end
end GQ
namespace L2
open PySem PySem.Spec PyProof.Rows
/-- what == of two values gives, as a bool that is known -/
abbrev EqvB := V → V → Hp → Bool → Prop
def EqB (X : Cx) (n : Nat) (D : EqvB) : Prop :=
  ∀ (A : Around) (pins : List (Addr × Obj)) (s : Shared) (σ : St) (H : Hp) (x y : V) (u v : Value) (r : Bool), Sub X n A → Inv X pins σ H s → RelV x u → RelV y v → D x y H r →
    wpAny (model X.prog X.w) A (eqBool u v) (fun z s' => z = r ∧ ∃ H', Inv X pins σ H' s' ∧ Same H H') X.xe s
/-- two tuples whose items D tells of -/
def DTupB (K : PySem.W.Frag) (D : EqvB) : V → V → Hp → Bool → Prop := fun x y H r => ∃ a b xs ys g, x = .ref a ∧ y = .ref b ∧ SqT K H a xs ∧ SqT K H b ys ∧ GQ.TupAns g xs.length ys.length r ∧ ∀ (i : Nat) x y, xs[i]? = some x → ys[i]? = some y → D x y H (g i)
def MonB (D : EqvB) : Prop := ∀ x y H H' r, Same H H' → D x y H r → D x y H' r
section
variable {X : Cx} {n : Nat} {D : EqvB}
/-- x == y, two tuples -/
def rEqT (K : PySem.W.Frag) (D : EqvB) : R2 := fun x y H Q => ∃ r, DTupB K D x y H r ∧ ∀ H', Same H H' → Q (.bl r) H'
theorem op_eqT (mon : MonB D) (h : EqB X n D) (hr : Room (n + 1) X.A) : OpR X (compareOp .Eq) (rEqT X.K D) := by
  intro pins s σ H x y v u Q I rx ry hq
  obtain ⟨r, ⟨a, b, xs, ys, g, rfl, rfl, ha, hb, ans, hD⟩, q⟩ := hq
  cases rx
  cases ry
  obtain ⟨its, r1, e, z⟩ := I.tuple ha
  obtain ⟨its2, r2, e2, z2⟩ := I.tuple hb
  have l1 : its.toArray.size = xs.length := by rw [List.size_toArray, ← r1.length]
  have l2 : its2.toArray.size = ys.length := by rw [List.size_toArray, ← r2.length]
  show wpAny (model X.prog X.w) X.A (richCompare .Eq (.ref a) (.ref b)) (EP X pins σ Q) X.xe s
  refine GQ.rc_tupB hr.units0 g r (by rw [l1, l2]; exact ans) (fun _ s' => ∃ H', Inv X pins σ H' s' ∧ Same H H') e e2 (fun i p1 p2 s' z => ?_) (fun i s' z => ?_) ⟨H, I, Same.refl _⟩
  · obtain ⟨H1, I1, e1⟩ := z
    have k1 : i < xs.length := by omega
    have k2 : i < ys.length := by omega
    obtain ⟨u, hu, ru⟩ := r1.get (List.getElem?_eq_getElem k1)
    obtain ⟨v, hv, rv⟩ := r2.get (List.getElem?_eq_getElem k2)
    have g1 : its.toArray[i] = u := by
      have q1 : i < its.length := by simpa using p1
      rw [List.getElem?_eq_getElem q1] at hu
      simpa using hu
    have g2 : its2.toArray[i] = v := by
      have q1 : i < its2.length := by simpa using p2
      rw [List.getElem?_eq_getElem q1] at hv
      simpa using hv
    rw [g1, g2]
    refine wpAny_mono (h X.A.in1 pins s' σ H1 _ _ u v (g i) ⟨hr.in1, rfl⟩ I1 ru rv (mon _ _ _ _ _ e1 (hD i _ _ (List.getElem?_eq_getElem k1) (List.getElem?_eq_getElem k2)))) (fun z s2 q => ?_) fun _ _ x => x
    obtain ⟨ez, H2, I2, e2⟩ := q
    exact ⟨ez, H2, I2, e1.trans e2⟩
  · obtain ⟨H1, I1, e1⟩ := z
    exact ⟨.bl r, H1, I1, rfl, q H1 e1⟩
/-- instances of the class at C with a def for == -/
def DInsB (C : Addr) (T : Addr → Addr → Hp → Bool → Prop) : EqvB := fun x y H r => ∃ a b dx dy fs gs, x = .ref a ∧ y = .ref b ∧ H a = some (.ins C dx fs) ∧ H b = some (.ins C dy gs) ∧ T a b H r
theorem eqB_ins {C : Addr} {ps : List Str} {sp : Sp} {T : Addr → Addr → Hp → Bool → Prop} (hm : HasM X.prog X.w X.K X.mg X.base C "__eq__" n ps sp)
    (self : ∀ a H r, T a a H r → r = true) (tell : ∀ a b H r, T a b H r → ∀ Q, (∀ H', Same H H' → Q (.bl r) H') → sp [.ref a, .ref b] H Q E0) : EqB X n (DInsB C T) := by
  obtain ⟨f, fd, hM, hb, F⟩ := hm.ex
  intro A pins s σ H x y u v r sb I rx ry d
  obtain ⟨a, b, dx, dy, fs, gs, rfl, rfl, ha, hb', t⟩ := d
  cases rx
  cases ry
  by_cases hab : a = b
  · subst hab
    have e := self _ _ _ t
    subst e
    exact SeqAt.EqAt.same (A := A) (s := s) (.ref a) X.prog X.w X.xe _ ⟨rfl, H, I, Same.refl _⟩
  · refine GQ.eqBool_refG hab ?_
    obtain ⟨mA, J, _⟩ := ins_get I.hok ha
    obtain ⟨mB, J', _⟩ := ins_get I.hok hb'
    obtain ⟨od, J, _⟩ := J.look
    obtain ⟨od', J', _⟩ := J'.look
    obtain ⟨m, hF⟩ := I.fr
    refine PySem.W.cmp_K (op := .Eq) (tb := .ref C) sb.room.units0 hF I.ok.mod.kin J J'.type (by simp [PySem.W.notFirst]) hM.at_ hM.fn ?_
    have hsp := tell _ _ _ _ t (fun z H' => z = .bl r ∧ Same H H') fun H' e => ⟨rfl, e⟩
    have e0 : Env0 X.prog X.w X.K X.mg X.base A X.stack s H := by
      have e := I.env0
      exact ⟨by rw [sb.fr]; exact e.frames, e.mod, e.bs, e.bsz, e.funs, e.frf, e.hok, e.bare⟩
    refine wpAny_mono (run_under (us := [.ref a, .ref b]) (ws := [.ref a, .ref b]) F hb sb.room e0 pass0 I (.cons rfl (.cons rfl .nil)) hsp) (fun w s' z => ?_) fun _ _ x => x
    obtain ⟨z', H', I', rz, ez, ex⟩ := z
    subst ez
    cases rz
    exact ⟨r, rfl, rfl, H', I', ex⟩
theorem op_eqKind {C : Addr} {ps : List Str} {sp : Sp} (h : HasM X.prog X.w X.K X.mg X.base C "__eq__" n ps sp) (hr : Room n X.A) : OpR X (compareOp .Eq) (rCmpOwn X.K C sp E0) := by
  obtain ⟨f, fd, hm, hb, F⟩ := h.ex
  exact op_eqOwn hm.at_ hm.fn F hb hr pass0
theorem op_neKind {C : Addr} {ps : List Str} {sp : Sp} (mo : PySem.W.mroIn X.K C (.type "object") = some true) (ne : PySem.W.findIn X.K (.ref C) "__ne__" = some (some (.builtin "object.__ne__"))) (h : HasM X.prog X.w X.K X.mg X.base C "__eq__" n ps sp) (hr : Room (n + 1) X.A) : OpR X (compareOp .NotEq) (rNeOwn X.K C sp E0) := by
  obtain ⟨f, fd, hm, hb, F⟩ := h.ex
  exact op_neOwn mo ne hm.at_ hm.fn F hb hr pass0
end
end L2

set_option maxHeartbeats 4000000
namespace N
open PySem L2
instance row_dec : DecidableEq Row := fun a b => decidable_of_iff (a.name = b.name ∧ a.takes = b.takes ∧ a.makes = b.makes ∧ a.back = b.back ∧ a.mirror = b.mirror ∧ a.yarn = b.yarn) (by
  cases a; cases b
  simp)
theorem eqv_od (a b : Option Str) : PyData.eqv (od a) (od b) = decide (a = b) := by
  rw [Bool.eq_iff_iff]
  cases a <;> cases b <;> simp [od, PyData.eqv]
theorem eqv_rowD (r u : Row) : PyData.eqv (.tuple (rowD r)) (.tuple (rowD u)) = decide (r = u) := by
  rw [Bool.eq_iff_iff]
  cases r; cases u
  simp [rowD, PyData.eqv, PyData.eqvAll, eqv_od, and_assoc]
theorem ov_inj {a b : Option Str} (h : ov a = ov b) : a = b := by
  cases a <;> cases b <;> simp_all [ov]
theorem kindAt_inj {C : Addr} {H : Hp} {a : Addr} {r u : Row} (h : KindAt C H a r) (h2 : KindAt C H a u) : r = u := by
  obtain ⟨d1, e1⟩ := h
  obtain ⟨d2, e2⟩ := h2
  rw [e1] at e2
  have e := Option.some.inj e2
  cases r; cases u
  simp only [HO.ins.injEq, kf, Row.six, List.cons.injEq, Prod.mk.injEq, V.str.injEq, V.int.injEq, true_and, and_true] at e
  obtain ⟨_, e1, e2, e3, e4, e5, e6⟩ := e
  rw [e1, e2, e3, ov_inj e4, ov_inj e5, e6]
def TwoK (C : Addr) : Addr → Addr → Hp → Bool → Prop := fun a b H r => ∃ x y : Row, KindAt C H a x ∧ KindAt C H b y ∧ KindOk x ∧ KindOk y ∧ r = decide (x = y)
def sameAt (qs ws : List Row) (i : Nat) : Bool := match qs[i]?, ws[i]? with
  | some r, some u => decide (r = u)
  | _, _ => true
theorem ans_rows (qs ws : List Row) : GQ.TupAns (sameAt qs ws) qs.length ws.length (decide (qs = ws)) := by
  refine ⟨fun h => ?_, fun i h1 h2 h => ?_⟩
  · rw [Bool.eq_iff_iff]
    simp only [decide_eq_true_eq, beq_iff_eq]
    refine ⟨fun e => by rw [e], fun e => List.ext_getElem e fun i h1 h2 => ?_⟩
    have z := h i h1 h2
    simpa [sameAt, List.getElem?_eq_getElem h1, List.getElem?_eq_getElem h2] using z
  · refine decide_eq_false fun e => ?_
    subst e
    simp [sameAt, List.getElem?_eq_getElem h1] at h
def spEqB (K : PySem.W.Frag) (CB C : Addr) : Sp := fun vs H Q _ => ∃ (a : Addr) (o : V) (rs qs : List Row), vs = [.ref a, o] ∧ BookAt CB C H a rs qs ∧ (∀ r ∈ qs, KindOk r) ∧
  ((∃ b us ws, o = .ref b ∧ BookAt CB C H b us ws ∧ (∀ u ∈ ws, KindOk u) ∧ ∀ H', Same H H' → Q (.bl (decide (qs = ws))) H') ∨ ∃ T, TyX K H o (.type T) ∧ PySem.W.subIn K (.type T) (.ref CB) = some false ∧ Q (.bl false) H)
section
variable {P : Program} {w : World} {K : PySem.W.Frag} {mg : Str → Option Value} {base : Heap} {C CB : Addr} {Cs : Nat → Addr}
theorem mon_two : MonB (DInsB C (TwoK C)) := fun x y H H' r e d => by
  obtain ⟨a, b, dx, dy, fs, gs, hx, hy, h1, h2, x, y, k1, k2, z⟩ := d
  exact ⟨a, b, dx, dy, fs, gs, hx, hy, e _ _ h1, e _ _ h2, x, y, k1.same e, k2.same e, z⟩
theorem eqB_kind {X : Cx} (h : HasM X.prog X.w X.K X.mg X.base C "__eq__" 4 ["self", "other"] (spEqK X.K C)) : EqB X 4 (DInsB C (TwoK C)) := by
  refine eqB_ins h (fun a H r t => ?_) (fun a b H r t Q q => ?_)
  · obtain ⟨x, y, k1, k2, _, _, e⟩ := t
    rw [e, kindAt_inj k1 k2]
    exact decide_eq_true rfl
  · obtain ⟨x, y, k1, k2, o1, o2, rfl⟩ := t
    exact ⟨a, .ref b, x, rfl, k1, o1, .inl ⟨b, y, rfl, k2, o2, fun H' s => by rw [eqv_rowD]; exact q H' s⟩⟩
abbrev s_Book___eq__ : Stmt := inClass (top 34) 15
theorem sc_BookD_eqD : FnScope ["self", "other"] ["self", "other"] (defScope s_Book___eq__) := ⟨rfl, rfl, rfl, by decide +kernel, rfl, by decide +kernel, by decide +kernel⟩
theorem m_eqB (B : Blts mg) (U : BookT K mg CB) (F : MethAt K CB "__eq__" "Book.__eq__" s_Book___eq__) (m_eqK : HasM P w K mg base C "__eq__" 4 ["self", "other"] (spEqK K C)) : HasM P w K mg base CB "__eq__" 6 ["self", "other"] (spEqB K CB C) := by
  refine hasM_of F sc_BookD_eqD (fun _ _ _ _ _ _ us hl => match us, hl with | [_, _], _ => rfl) (fun vs H Q E h => ?_) (fun f cdv A outer s H vs Q E hr h => ?_)
  · obtain ⟨_, _, _, _, rfl, _⟩ := h
    rfl
  · obtain ⟨a, o, rs, qs, rfl, hb, ok, ho⟩ := h
    refine ⟨_, (pss_one (ps_ret (pe_and (pe_callB call_isi (by rfl) B.n_isinstance (by decide +kernel) (pa_cons (pv 1) (pa_cons (pe_glob (v := .ref CB) rfl U.g rfl) pa_nil))) (pe_one (pe_cmpR (op_eqT (D := DInsB C (TwoK C)) mon_two (eqB_kind m_eqK) (hr.mono (by decide))) (pe_fld (pv 0) rfl) (pe_fld (pv 1) rfl) (by first | exact nomark _ | rfl)))))), ?_⟩
    rcases ho with ⟨b, us, ws, rfl, hb2, ok2, k⟩ | ⟨T', hT, hs, q⟩
    · obtain ⟨d1, t1, e1, as1, bs1, ha1, ht1, hp1, _⟩ := id hb
      obtain ⟨d2, t2, e2, as2, bs2, ha2, ht2, hp2, _⟩ := id hb2
      refine ⟨_, rfl, _, _, _, _, true, rfl, .own CB, U.own.ty ha2, kit_self, true, rfl, ?_⟩
      refine iteT ?_
      have l1 := paired_len hp1
      have l2 := paired_len hp2
      refine ⟨_, rfl, a, CB, d1, _, _, rfl, ha1, U.cl, U.nk, rfl, _, rfl, b, CB, d2, _, _, rfl, ha2, U.cl, U.nk, rfl, decide (qs = ws), ⟨t1, t2, _, _, sameAt qs ws, rfl, rfl, SqT.of ht1, SqT.of ht2, ?_, fun i x y hx hy => ?_⟩, k⟩
      · rw [List.length_map, List.length_map, l1, l2]
        exact ans_rows qs ws
      · obtain ⟨x', hx', rfl⟩ := map_at hx
        obtain ⟨y', hy', rfl⟩ := map_at hy
        obtain ⟨r, hr', k1⟩ := paired_get hp1 hx'
        obtain ⟨u, hu', k2⟩ := paired_get hp2 hy'
        obtain ⟨dx, k1'⟩ := id k1
        obtain ⟨dy, k2'⟩ := id k2
        refine ⟨x', y', dx, dy, _, _, rfl, rfl, k1', k2', r, u, k1, k2, ok r (List.mem_of_getElem? hr'), ok2 u (List.mem_of_getElem? hu'), ?_⟩
        rw [sameAt, hr', hu']
    · refine ⟨_, rfl, _, _, _, _, false, rfl, .own CB, hT, U.own.kit hs, false, rfl, ?_⟩
      refine iteF ?_
      exact q
end
end N

set_option maxHeartbeats 4000000
/-! tuple * int where the int may be 1, tuple.count of texts, list.extend by a tuple -/
namespace L2
open PySem PySem.Spec PyProof.Rows
theorem tuple_mul1 (l : Addr) (items : Array Value) (n : Nat) (dd : Option Addr) (sl : Array (Option Value)) (u : Tok) :
    Meets (Builtin.«tuple.__mul__» ⟨[.ref l, .int 1 u], []⟩) (fun _ R s => s.heap.get? l = some { cls := .type "tuple", dict := dd, data := .seq items n, slots := sl } ∧
      R (.ok (.ret (Value.ref l))) { s with heap := s.heap, toks := s.toks }) :=
  .of_wp fun prog w A R s h => by
    obtain ⟨hp, g, d, tk, os⟩ := s
    obtain ⟨hl, h⟩ := h
    have f1 := AutoSeq1.idx_int
    wp_walk using wpAny_loadPart' hl
    repeat (first
      | (refine wpAny_ite_false (by decide) ?_; wp_walk using wpAny_loadPart' hl)
      | (refine wpAny_ite_true (by simp) ?_; wp_walk using wpAny_loadPart' hl))
    exact ⟨_, rfl, h⟩
theorem list_extend_tupA (l : Addr) (items : Array Value) (n : Nat) (b : Addr) (items2 : Array Value) (n2 : Nat) (dd : Option Addr) (sl : Array (Option Value)) (hs0 : ¬(!items.isEmpty && Builtin.List.listTooLong (items.size + items2.size)) = true) (hs1 : items.size ≤ sizeLine) (hs2 : items.size + items2.size ≤ sizeLine + 1) :
    Meets (Builtin.«list.extend» ⟨[.ref l, .ref b], []⟩) (fun _ R s => s.heap.get? l = some { cls := .type "list", dict := none, data := .seq items n, slots := #[] } ∧ s.heap.get? b = some { cls := .type "tuple", dict := dd, data := .seq items2 n2, slots := sl } ∧ R (.ok (.ret Value.none)) { s with heap := s.heap.update l (Obj.mapSeq fun x => x ++ items2), toks := s.toks }) :=
  .of_wp fun prog w A R s h => by
    obtain ⟨hp, g, d, tk, os⟩ := s
    obtain ⟨hl, hb, h⟩ := h
    have f1 := AutoSeq1.idx_int
    have f2 := AutoSeq1.sub_tuple_tuple
    have f3 := AutoSeq1.sub_list_list
    have f4 := AutoSeq1.sub_tuple_list
    have f5 := AutoSeq1.sub_list_tuple
    have hz' : (items ++ items2).size ≤ sizeLine + 1 := by rw [Array.size_append]; exact hs2
    wp_walk using (wpAny_updateSeq hl rfl (hz := hs1) (_hz' := hz')), wpAny_loadPart' hl, wpAny_loadPart' hb
    exact ⟨_, rfl, h⟩
def eqs (k : Str) (v : Value) : Bool := match v with
  | .str n _ => n == k
  | _ => false
theorem eqs_gives {k : Str} {t : Tok} : ∀ {ns : List Str} {us : List Value}, Vals (ns.map V.str) us → ∀ y ∈ us, MeetsSeq.EqGives y (.str k t) (eqs k y)
  | [], us, h => by
    cases h
    exact fun y hy => by cases hy
  | n :: ns, us, h => by
    rw [List.map_cons] at h
    cases h with
    | cons r1 r2 =>
      obtain ⟨t', e⟩ := r1
      subst e
      intro y hy
      rcases List.mem_cons.mp hy with e | e
      · rw [e]
        exact PyProof.Rows.eqGives_str n k t' t
      · exact eqs_gives r2 y e
theorem eqs_count {k : Str} : ∀ {ns : List Str} {us : List Value}, Vals (ns.map V.str) us → us.countP (eqs k) = ns.count k
  | [], us, h => by
    cases h
    rfl
  | n :: ns, us, h => by
    rw [List.map_cons] at h
    cases h with
    | cons r1 r2 =>
      obtain ⟨t', e⟩ := r1
      subst e
      have ih := eqs_count (k := k) r2
      rw [List.countP_cons, List.count_cons, ih] <;> rfl
def rRepA (K : PySem.W.Frag) : R2 := fun x y H Q => ∃ l k xs, x = .ref l ∧ y = .int k ∧ SqT K H l xs ∧ xs ≠ [] ∧ 1 ≤ k ∧ k ≤ 1000 ∧ xs.length ≤ 1000 ∧
  (k = 1 → Q (.ref l) H) ∧ (k ≠ 1 → ∀ p, H p = none → Q (.ref p) (upd H p (.tup (List.replicate k.toNat xs).flatten)))
def rCntS (K : PySem.W.Frag) : V → List V → Hp → VK → Prop := fun x xs H Q => ∃ (p : Addr) (ns : List Str) (k : Str), x = .ref p ∧ xs = [.str k] ∧ SqT K H p (ns.map V.str) ∧ Q (.int (ns.count k : Nat)) H
def rExtT (K : PySem.W.Frag) : V → List V → Hp → VK → Prop := fun x vs H Q => ∃ l b xs zs, x = .ref l ∧ vs = [.ref b] ∧ H l = some (.lst xs) ∧ SqT K H b zs ∧ xs.length + zs.length ≤ sizeLine ∧ Q .non (upd H l (.lst (xs ++ zs)))
section
variable {X : Cx}
theorem op_repA : OpR X (binaryOp .Mult) (rRepA X.K) := by
  intro pins s σ H x y v u Q I rx ry h
  obtain ⟨l, k, xs, rfl, rfl, hT, hne, h1, h2, hz, q1, q⟩ := h
  by_cases hk : k = 1
  · subst hk
    cases rx
    obtain ⟨t, rfl⟩ := ry
    obtain ⟨its, r, ⟨⟨cls, dd, data, sl⟩, ho, hc, n, hd⟩, hs⟩ := I.tuple hT
    simp only at hc hd
    subst hc hd
    refine wpAny_binaryOp_repeat_ref (T := "tuple") (U := "int") (by decide) ⟨_, ho, rfl⟩ (fun s' => typeIs_int s' 1 t) noFill_tuple_mul F.fills_int_mul F.slot_int_rmul repeat_tuple F.slot_int_index.lookup
      (call_meets F.slot_int_rmul (typeIs_int s 1 t) F.entry_int_rmul (F.args_int_rmul_2 _ _) (int_rmul_tuple 1 t l its.toArray n dd sl)
        ⟨ho, rfl, ⟨_, ho, rfl⟩, call_meets F.slot_tuple_mul ⟨_, ho, rfl⟩ F.entry_tuple_mul (F.args_tuple_mul_2 _ _) (tuple_mul1 l its.toArray n dd sl t) ⟨ho, ?_⟩⟩)
    exact ⟨.ref l, H, I, rfl, q1 rfl⟩
  · exact op_repT pins s σ H _ _ v u Q I rx ry ⟨l, k, xs, rfl, rfl, hT, hne, by omega, h2, hz, q hk⟩
theorem mt_tcount : MtR X "tuple.count" (rCntS X.K) := by
  intro pins s σ H x xs v us Q I rx rxs h
  obtain ⟨p, ns, k, rfl, rfl, hs, q⟩ := h
  cases rx
  obtain ⟨u, rfl, ru⟩ := rxs.one
  obtain ⟨t, rfl⟩ := ru
  obtain ⟨its, rv, ⟨⟨cls, dd, data, sl⟩, ho, hc, n, hd⟩, hlen⟩ := I.tuple hs
  simp only at hc hd
  subst hc hd
  refine call_meets PySem.F.slot_tuple_count ⟨_, ho, rfl⟩ PySem.F.entry_tuple_count (PySem.F.args_tuple_count_2 _ _)
    (SeqAt.tuple_countAt p its.toArray n dd sl (.str k t) (eqs k)) ⟨ho, fun y hy => (eqs_gives rv y (by simpa using hy)).at _ _, ?_⟩
  have ec : its.toArray.toList.countP (eqs k) = ns.count k := eqs_count rv
  refine ⟨.int (ns.count k : Nat), H, I.tok _, ⟨s.toks, ?_⟩, q⟩
  show Value.int ((its.toArray.toList.countP (eqs k) : Nat) : Int) s.toks = Value.int ((ns.count k : Nat) : Int) s.toks
  rw [ec]
theorem mt_extendT : MtM X "list.extend" (rExtT X.K) := by
  intro pins s σ H x vs v us Q I rx rv h
  obtain ⟨l, b, xs, zs, rfl, rfl, hH, hB, hz, q⟩ := h
  cases rx
  obtain ⟨u, rfl, ru⟩ := rv.one
  cases ru
  obtain ⟨z, its, n, r, hl, e⟩ := I.lstM hH
  obtain ⟨its2, r2, ⟨⟨cls, dd, data, sl⟩, ho, hc, n2, hd⟩, z2⟩ := I.tuple hB
  simp only at hc hd
  subst hc hd
  have hl2 := r2.length
  have hsz : its.toArray.size + its2.toArray.size ≤ sizeLine := by rw [List.size_toArray, List.size_toArray]; omega
  have hlong : ¬ (!its.toArray.isEmpty && Builtin.List.listTooLong (its.toArray.size + its2.toArray.size)) = true := by
    rw [notLongL hsz, Bool.and_false]
    exact Bool.false_ne_true
  refine call_meets F.slot_list_extend ⟨_, e, rfl⟩ F.entry_list_extend (F.args_list_extend_2 _ _)
    (list_extend_tupA l its.toArray n b its2.toArray n2 dd sl hlong (by rw [List.size_toArray]; omega) (by omega)) ⟨e, ho, ?_⟩
  refine ⟨.non, _, I.lset (its' := its ++ its2) hH e (by simp) (r.append r2) ?_, rfl, q⟩
  rw [List.length_append]
  omega
theorem call_lenK (K : PySem.W.Frag) (hK : X.K = K := by rfl) : CallR X (.builtin "len") (fun xs H Q => ∃ x n, xs = [x] ∧ LenV K x H n ∧ Q (.int n) H) := by
  subst hK
  exact call_len
theorem mt_tcountK (K : PySem.W.Frag) (hK : X.K = K := by rfl) : MtR X "tuple.count" (rCntS K) := by
  subst hK
  exact mt_tcount
theorem sl_tupAK (K : PySem.W.Frag) (hK : X.K = K := by rfl) : SlR X (rSlA K) := by
  subst hK
  exact sl_tupA
theorem pe_bmK (K : PySem.W.Frag) (hK : X.K = K := by rfl) {o e : Expr} {es : List Expr} {to : TE} {t : TA} {name : Str} {apos cpos : Pos} {T id : String} {r : V → List V → Hp → VK → Prop} (pa : PlainAttrs T) (slot : Slot T name id) (hty : typeOf (.builtin id) = pure (.type "method_descriptor")) (hm : MtR X id r) (ho : PE X o to) (ha : PA X (e :: es) t)
    (hbase : attributeBase o name X.env (eval o X.env) = eval o X.env := by rfl)
    (hfew : ((backTo cpos (starEach (e :: es) X.env)).all (fun x => !x.1) && (backToKw cpos (keywordEach [] X.env)).all (fun x => x.1.isSome)
      && decide ((e :: es).length + ([] : List Keyword).length + (if ([] : List Keyword).isEmpty then 0 else 1) < 30)) = true := by rfl)
    (hline : (apos.endLine == cpos.line) = true := by rfl) (hs : starEach (e :: es) X.env = (false, eval e X.env) :: starEach es X.env := by rfl) (hplain : (backTo cpos (starEach es X.env)).any (·.1) = false := by rfl) :
    PE X (.Call (.Attribute o name apos) (e :: es) [] cpos) (tBM K T r to t) := by
  subst hK
  exact pe_bm pa slot hty hm ho ha hbase hfew hline hs hplain
/-- what a method is asked of that is known to stand without a dict of its own -/
def tBMF (T : String) (r : V → List V → Hp → VK → Prop) (to : TE) (t : TA) : TE := fun σ H Q => to σ H fun x H1 => (∃ p o u, x = .ref p ∧ H1 p = some (.frz o u) ∧ o.cls = .type T ∧ o.dict = none) ∧ t σ H1 fun xs H2 => r x xs H2 Q
theorem pe_bmF {o e : Expr} {es : List Expr} {to : TE} {t : TA} {name : Str} {apos cpos : Pos} {T id : String} {r : V → List V → Hp → VK → Prop} (pa : PlainAttrs T) (slot : Slot T name id) (hty : typeOf (.builtin id) = pure (.type "method_descriptor")) (hm : MtR X id r) (ho : PE X o to) (ha : PA X (e :: es) t)
    (hbase : attributeBase o name X.env (eval o X.env) = eval o X.env := by rfl)
    (hfew : ((backTo cpos (starEach (e :: es) X.env)).all (fun x => !x.1) && (backToKw cpos (keywordEach [] X.env)).all (fun x => x.1.isSome)
      && decide ((e :: es).length + ([] : List Keyword).length + (if ([] : List Keyword).isEmpty then 0 else 1) < 30)) = true := by rfl)
    (hline : (apos.endLine == cpos.line) = true := by rfl) (hs : starEach (e :: es) X.env = (false, eval e X.env) :: starEach es X.env := by rfl) (hplain : (backTo cpos (starEach es X.env)).any (·.1) = false := by rfl) :
    PE X (.Call (.Attribute o name apos) (e :: es) [] cpos) (tBMF T r to t) := by
  refine ⟨fun pins s σ H Q I h => ?_⟩
  refine wpAny_Call_method_late hbase hfew hline rfl (thn (ho.run pins s σ H _ I h) fun v s1 ⟨x, H1, I1, r1, ty, q1⟩ => ?_)
  obtain ⟨p, ob, u, rfl, hp, hc, hd⟩ := ty
  cases r1
  have hob : s1.heap.get? p = some ob := (I1.hok p _ hp).1
  refine ⟨T, id, pa, slot, hty, ⟨ob, hob, hc⟩, (fun a e => by cases e; exact ⟨ob, hob, hd⟩), ?_⟩
  have hA := ha.run cpos pins s1 σ H1 _ I1 q1
  rw [hs] at hA ⊢
  refine Calls.callWith_builtin (by show (false || (backTo cpos (starEach es X.env)).any (·.1)) = false; rw [hplain] <;> rfl) (Calls.evalArgs_plain ?_)
  exact thn hA fun us s2 ⟨vs, H2, I2, r2, q2⟩ => hm pins s2 σ H2 (.ref p) vs (.ref p) us Q I2 rfl r2 q2
theorem call_tuple_ofF : CallR X (.type "tuple") (fun xs H Q => ∃ p ys, xs = [.ref p] ∧ ((SqL X.K H p ys ∧ ∀ l o, o.cls = .type "tuple" → o.dict = none → H l = none → Q (.ref l) (upd H l (.frz o (.tup ys)))) ∨ (SqT X.K H p ys ∧ Q (.ref p) H))) := by
  intro pins s σ H xs us Q I r h
  obtain ⟨p, ys, rfl, h⟩ := h
  obtain ⟨u, rfl, rx⟩ := vals1 r
  cases rx
  rcases h with ⟨hq, q⟩ | ⟨hq, q⟩
  · obtain ⟨its, r', pl, hz⟩ := I.list hq
    have hlen := r'.length
    refine call_tuple_list pl.isList (fun h' kp => ?_) (by simp only [List.size_toArray] <;> omega)
    have I1 : Inv X pins σ H { s with heap := h' } := I.kept (t' := s.toks) kp
    have I2 : Inv X pins σ (upd H h'.objs.size (.frz { cls := .type "tuple", data := .seq its.toArray } (.tup ys))) { s with heap := h'.push { cls := .type "tuple", data := .seq its.toArray } } :=
      I1.laid (t' := s.toks) (fun b o e => Heap.get?_push_of_some _ e) (Nat.le_refl _) (show ObjOk X.prog X.w _ _ _ (.frz _ (.tup ys)) from ⟨Heap.get?_push_size _ rfl, hz, its, r', IsTup.new _ _⟩)
    exact ⟨.ref h'.objs.size, _, I2, rfl, q _ _ rfl rfl (I1.hok.fresh (Nat.le_refl _))⟩
  · obtain ⟨its, r', pl, hz⟩ := I.tuple hq
    exact call_tuple_same pl ⟨.ref p, H, I, rfl, q⟩
end
end L2

set_option maxHeartbeats 4000000
namespace N
open PySem L2
/-! ### words drawn from names -/
def spWord (K : PySem.W.Frag) : Sp := fun vs H Q _ => ∃ (p l : Addr) (names : List Str) (n : Int), vs = [.ref p, .ref l, .int n] ∧ Pot H p ∧ SqL K H l (names.map V.str) ∧ l ≠ p ∧ names ≠ [] ∧ names.length < 1000000 ∧ 0 ≤ n ∧ n < 1000 ∧
  ∀ (t : Addr) (ws : List Str) (H' : Hp), H t = none → FrzT H' t (ws.map V.str) → (∀ x ∈ ws, x ∈ names) → (ws.length : Int) ≤ n → Pot H' p → But p H H' → Q (.ref t) H'
def selOf (f : Row → Int) (rs : List Row) (x : Str) : Int := (rs.find? fun r => decide (r.name = x)).elim 0 f
theorem kv_find {H : Hp} {x : Str} : ∀ {kvs : List (Key × V)} {rs : List Row}, Paired (KvAt H) kvs rs → x ∈ rs.map (·.name) → ∃ a r, valV kvs (.inr x) = some (.ref a) ∧ RowAt H a r ∧ rs.find? (fun r => decide (r.name = x)) = some r
  | _, _, .nil, h => nomatch h
  | _, _, .cons (b := r) ⟨a, e, ra⟩ y, h => by
    subst e
    by_cases c : r.name = x
    · exact ⟨a, r, valV_pos (congrArg Sum.inr c), ra, by rw [List.find?_cons, decide_eq_true c]⟩
    · rw [List.map_cons] at h
      rcases List.mem_cons.mp h with e | h
      · exact absurd e.symm c
      · obtain ⟨a', r', g, k, z⟩ := kv_find y h
        exact ⟨a', r', (valV_neg fun e => c (Sum.inr.inj e)).trans g, k, by rw [List.find?_cons, decide_eq_false c]; exact z⟩
theorem range_get {α β : Type} {f : α → β} {l : List α} {d : α} : (List.range l.length).map (fun i => f (l.getD i d)) = l.map f := by
  apply List.ext_getElem
  · simp
  · intro i h1 h2
    have h3 : i < l.length := by simpa using h2
    simp [List.getElem?_eq_getElem h3]
theorem strs_in {S : Str → Prop} : ∀ {ys : List V}, (∀ y ∈ ys, ∃ z, S z ∧ y = .str z) → ∃ zs : List Str, ys = zs.map V.str ∧ ∀ z ∈ zs, S z
  | [], _ => ⟨[], rfl, fun _ h => nomatch h⟩
  | y :: ys, h => by
    obtain ⟨z, hz, rfl⟩ := h y (.head _)
    obtain ⟨zs, rfl, hzs⟩ := strs_in fun y hy => h y (.tail _ hy)
    exact ⟨z :: zs, rfl, fun x hx => by
      rcases List.mem_cons.mp hx with e | hx
      · rw [e]; exact hz
      · exact hzs x hx⟩
def spSums (K : PySem.W.Frag) (f : Row → Int) : Sp := fun vs H Q _ => ∃ (d t : Addr) (kvs : List (Key × V)) (rs : List Row) (ws : List Str), vs = [.ref d, .ref t] ∧ H d = some (.dK kvs) ∧ Paired (KvAt H) kvs rs ∧ SqT K H t (ws.map V.str) ∧ ws.length < 1000000 ∧
  (∀ x ∈ ws, x ∈ rs.map (·.name)) ∧ ∀ H', Same H H' → Q (.int (ws.map (selOf f rs)).sum) H'
theorem same_keep {H H' : Hp} (s : Same H H') : KeepT H H' := fun c _ h => s c _ h
section
variable {P : Program} {w : World} {K : PySem.W.Frag} {mg : Str → Option Value} {base : Heap}
end
end N

set_option maxHeartbeats 4000000
namespace N
open PySem L2
/-! ### runs: what is pure -/
abbrev Run := List Row × Nat
/-- a stretch of a word said over and over -/
def stR (us : List Row) (first many : Nat) : List Row := (((List.replicate ((first % us.length + many) / us.length + 1) us).flatten).drop (first % us.length)).take many
theorem rep_len {α : Type} (us : List α) : ∀ n : Nat, ((List.replicate n us).flatten).length = n * us.length
  | 0 => by simp
  | n + 1 => by
    rw [List.replicate_succ, List.flatten_cons, List.length_append, rep_len us n, Nat.succ_mul, Nat.add_comm]
theorem st_fit {k s m : Nat} (hk : 0 < k) : s + m < ((s + m) / k + 1) * k := by
  have h := Nat.lt_div_mul_add (a := s + m) hk
  rw [Nat.succ_mul]
  exact h
theorem stR_len {us : List Row} (h : us ≠ []) (first many : Nat) : (stR us first many).length = many := by
  have hk : 0 < us.length := List.length_pos_iff.mpr h
  have e := st_fit (s := first % us.length) (m := many) hk
  rw [stR, List.length_take, List.length_drop, rep_len]
  omega
theorem stR_mem {us : List Row} {first many : Nat} {u : Row} (h : u ∈ stR us first many) : u ∈ us := by
  have h1 := List.mem_of_mem_drop (List.mem_of_mem_take h)
  obtain ⟨l, hl, hu⟩ := List.mem_flatten.mp h1
  rw [List.eq_of_mem_replicate hl] at hu
  exact hu
theorem wordV_rep (us : List Row) (n : Nat) : (List.replicate n (wordV us)).flatten = wordV (List.replicate n us).flatten := by
  unfold wordV
  rw [List.map_flatten, List.map_replicate]
theorem wordV_len (us : List Row) : (wordV us).length = us.length := List.length_map _
def nmS (us : List Row) : List Str := us.map (·.name)
theorem wordV_nm (us : List Row) : wordV us = (nmS us).map V.str := by
  unfold wordV nmS
  rw [List.map_map]
  rfl
theorem nmS_len (us : List Row) : (nmS us).length = us.length := List.length_map _
theorem wordV_inj {us ws : List Row} (h : wordV us = wordV ws) : nmS us = nmS ws := by
  rw [wordV_nm, wordV_nm] at h
  exact List.map_inj_right (fun _ _ e => by cases e; rfl) |>.mp h
def rlen (r : Run) : Nat := r.1.length * r.2
def lenR (rs : List Run) : Nat := (rs.map rlen).sum
def cntR (rs : List Run) (n : Str) : Nat := (rs.map fun r => (nmS r.1).count n * r.2).sum
def GoodW (us : List Row) : Prop := us ≠ [] ∧ us.length ≤ 240 ∧ ∀ u ∈ us, PyData.strOk u.name = true
def GoodR (r : Run) : Prop := GoodW r.1 ∧ 0 < r.2
theorem GoodR.pos {r : Run} (h : GoodR r) : 0 < rlen r := Nat.mul_pos (List.length_pos_iff.mpr h.1.1) h.2
/-- the place at which two stretches first differ -/
def uwR (a : List Row) (i : Nat) (b : List Row) (j : Nat) (many : Nat) : Option Nat :=
  (List.range (min many (a.length + b.length))).find? fun p => (nmS (stR a i (min many (a.length + b.length))))[p]? != (nmS (stR b j (min many (a.length + b.length))))[p]?
def opI : Option Nat → V
  | none => .non
  | some n => .int (n : Nat)
/-- a word on the heap; if b, one that methods may be asked of -/
def WdAt : Bool → Hp → Addr → List V → Prop
  | true => FrzT
  | false => TupAt
theorem WdAt.at : ∀ {b : Bool} {H : Hp} {l : Addr} {xs : List V}, WdAt b H l xs → TupAt H l xs
  | true, _, _, _, h => FrzT.at h
  | false, _, _, _, h => h
/-- all but lists stay -/
def KeepF (H H' : Hp) : Prop := ∀ c o, H c = some o → (∀ xs, o ≠ .lst xs) → H' c = some o
theorem KeepF.refl {H : Hp} : KeepF H H := fun _ _ h _ => h
theorem KeepF.trans {H H1 H2 : Hp} (a : KeepF H H1) (b : KeepF H1 H2) : KeepF H H2 := fun c o h n => b c o (a c o h n) n
theorem KeepF.same {H H' : Hp} (e : Same H H') : KeepF H H' := fun c o h _ => e _ _ h
theorem KeepF.mut {H : Hp} {p : Addr} {xs : List V} {o : HO} (h : H p = some (.lst xs)) : KeepF H (L2.upd H p o) := fun c u hc n => (upd_ne fun z => by subst z; rw [h] at hc; exact n xs (Option.some.inj hc).symm).trans hc
theorem KeepF.but {H H' : Hp} {p : Addr} {xs : List V} (h : H p = some (.lst xs)) (e : But p H H') : KeepF H H' := fun c u hc n => e c u hc fun z => by subst z; rw [h] at hc; exact n xs (Option.some.inj hc).symm
theorem TupAt.keep {H H' : Hp} {l : Addr} {xs : List V} (k : KeepF H H') (h : TupAt H l xs) : TupAt H' l xs := h.elim (fun h => .inl (k _ _ h fun _ z => by cases z)) fun ⟨o, h⟩ => .inr ⟨o, k _ _ h fun _ z => by cases z⟩
theorem FrzT.keep {H H' : Hp} {l : Addr} {xs : List V} (k : KeepF H H') (h : FrzT H l xs) : FrzT H' l xs := let ⟨o, a, b, c⟩ := h; ⟨o, a, b, k _ _ c fun _ z => by cases z⟩
theorem WdAt.keep : ∀ {b : Bool} {H H' : Hp} {l : Addr} {xs : List V}, KeepF H H' → WdAt b H l xs → WdAt b H' l xs
  | true, _, _, _, _, k, h => FrzT.keep k h
  | false, _, _, _, _, k, h => TupAt.keep k h
/-- a run on the heap -/
def RunV (b : Bool) (H : Hp) (v : V) (r : Run) : Prop := ∃ a l, v = .ref a ∧ TupAt H a [.ref l, .int (r.2 : Nat)] ∧ WdAt b H l (wordV r.1)
theorem RunV.keep {b : Bool} {H H' : Hp} {v : V} {r : Run} (k : KeepF H H') (h : RunV b H v r) : RunV b H' v r := let ⟨a, l, e, h1, h2⟩ := h; ⟨a, l, e, h1.keep k, h2.keep k⟩
theorem RunV.same {b : Bool} {H H' : Hp} {v : V} {r : Run} (h : RunV b H v r) (e : Same H H') : RunV b H' v r := h.keep (KeepF.same e)
theorem RunV.low {b : Bool} {H : Hp} {v : V} {r : Run} (h : RunV b H v r) : RunV false H v r := let ⟨a, l, e, h1, h2⟩ := h; ⟨a, l, e, h1, h2.at⟩
/-- runs on the heap, in a tuple -/
def RunsS (b : Bool) (K : PySem.W.Frag) (H : Hp) (p : Addr) (vs : List V) (rs : List Run) : Prop := SqT K H p vs ∧ Paired (RunV b H) vs rs
theorem RunsS.same {b : Bool} {K : PySem.W.Frag} {H H' : Hp} {p : Addr} {vs : List V} {rs : List Run} (h : RunsS b K H p vs rs) (e : Same H H') : RunsS b K H' p vs rs := ⟨e.st h.1, L2.Paired.mapP h.2 fun _ _ k => k.same e⟩
theorem RunsS.low {b : Bool} {K : PySem.W.Frag} {H : Hp} {p : Addr} {vs : List V} {rs : List Run} (h : RunsS b K H p vs rs) : RunsS false K H p vs rs := ⟨h.1, L2.Paired.mapP h.2 fun _ _ k => k.low⟩
def spStretch : Sp := fun vs H Q _ => ∃ (l : Addr) (us : List Row) (first many : Nat), vs = [.ref l, .int (first : Nat), .int (many : Nat)] ∧ TupAt H l (wordV us) ∧ us ≠ [] ∧ us.length ≤ 240 ∧ many ≤ 480 ∧
  ∀ q H', H q = none → H' q = some (.tup (wordV (stR us first many))) → Same H H' → Q (.ref q) H'
def spLen (K : PySem.W.Frag) : Sp := fun vs H Q _ => ∃ (p : Addr) (xs : List V) (rs : List Run), vs = [.ref p] ∧ RunsS false K H p xs rs ∧ rs.length ≤ 4000 ∧ (∀ r ∈ rs, GoodR r) ∧ ∀ H', Same H H' → Q (.int (lenR rs : Nat)) H'
def spCnt (K : PySem.W.Frag) : Sp := fun vs H Q _ => ∃ (p : Addr) (xs : List V) (rs : List Run) (n : Str), vs = [.ref p, .str n] ∧ RunsS true K H p xs rs ∧ rs.length ≤ 4000 ∧ (∀ r ∈ rs, GoodR r) ∧ ∀ H', Same H H' → Q (.int (cntR rs n : Nat)) H'
def spWithin : Sp := fun vs H Q _ => ∃ (l m : Addr) (a b : List Row) (i j many : Nat), vs = [.ref l, .int (i : Nat), .ref m, .int (j : Nat), .int (many : Nat)] ∧ TupAt H l (wordV a) ∧ TupAt H m (wordV b) ∧ GoodW a ∧ GoodW b ∧
  ∀ H', Same H H' → Q (opI (uwR a i b j many)) H'
def rAtI (rs : List Run) (f : Run → Nat) (i : Nat) : V := match rs[i]? with
  | some r => .int (f r : Nat)
  | none => .non
theorem rAt_all (rs : List Run) (f : Run → Nat) : (List.range rs.length).map (rAtI rs f) = (rs.map fun r => ((f r : Nat) : Int)).map V.int := by
  refine List.ext_getElem (by simp) fun i h1 h2 => ?_
  have hi : i < rs.length := by simpa using h1
  simp [rAtI, List.getElem?_eq_getElem hi]
theorem sum_cast : ∀ (l : List Nat), (l.map fun n : Nat => (n : Int)).sum = ((l.sum : Nat) : Int)
  | [] => rfl
  | n :: l => by
    rw [List.map_cons, List.sum_cons, List.sum_cons, sum_cast l]
    omega
theorem mul_ok (a b : Nat) (h : a < 1000) : CMul (a : Int) (b : Int) := by
  have h1 : (1000 : Int) < 2 ^ 64 := by decide
  have h2 : (-(2 ^ 64) : Int) < 0 := by decide
  have h3 : (a : Int) < 1000 := by omega
  have h4 : (0 : Int) ≤ a := Int.natCast_nonneg a
  exact .inl ⟨Int.lt_of_lt_of_le h2 h4, Int.lt_trans h3 h1⟩
section
variable {P : Program} {w : World} {K : PySem.W.Frag} {mg : Str → Option Value} {base : Heap}
abbrev s__stretch : Stmt := top 48
theorem sc__stretch : FnScope ["word", "first", "many", "start", "times"] ["word", "first", "many"] (defScope s__stretch) := ⟨rfl, rfl, rfl, by decide +kernel, rfl, by decide +kernel, by decide +kernel⟩
theorem h_stretch (B : Blts mg) (F : FunAt K mg "_stretch" "_stretch" s__stretch) : Has P w K mg base "_stretch" 1 ["word", "first", "many"] spStretch := by
  refine has_of F sc__stretch (fun _ _ _ _ _ _ us hl => match us, hl with | [_, _, _], _ => rfl) (fun vs H Q E h => ?_) (fun f cdv A outer s H vs Q E hr h => ?_)
  · obtain ⟨_, _, _, _, rfl, _⟩ := h
    rfl
  · obtain ⟨l, us, first, many, rfl, hl, hne, h240, h480, k⟩ := h
    refine ⟨_, (pss_cons (ps_set (i := 3) sc__stretch.nd rfl (Or.inl rfl) (pe_op op_mod (pv 1) (pe_callB call_len (by rfl) B.n_len PySem.boot_len (pa_cons (pv 0) pa_nil))))
      (pss_cons (ps_set (i := 4) sc__stretch.nd rfl (Or.inl rfl) (pe_op op_add (pe_op op_fdiv (pe_op op_add (pv 3) (pv 2)) (pe_callB call_len (by rfl) B.n_len PySem.boot_len (pa_cons (pv 0) pa_nil))) pe_int))
      (pss_one (ps_ret (pe_slice sl_tup (pe_op op_repA (pv 0) (pv 4)) (po_some (pv 3)) (po_some (pe_op op_add (pv 3) (pv 2)))))))), ?_⟩
    have hk : 0 < us.length := List.length_pos_iff.mpr hne
    have hT : SqT K H l (wordV us) := hl.st
    have wl := wordV_len us
    have fit := st_fit (s := first % us.length) (m := many) hk
    have e1 : ((first : Nat) : Int) % (us.length : Nat) = ((first % us.length : Nat) : Int) := (Int.natCast_emod _ _).symm
    have e2 : (((first % us.length : Nat) : Int) + (many : Nat)) / ((us.length : Nat) : Int) + 1 = (((first % us.length + many) / us.length + 1 : Nat) : Int) := by
      rw [← Int.natCast_add, ← Int.natCast_ediv]
      rfl
    have e3 : ((first % us.length : Nat) : Int) + (many : Nat) = ((first % us.length + many : Nat) : Int) := rfl
    have sm : first % us.length < us.length := Nat.mod_lt _ hk
    have dv : (first % us.length + many) / us.length ≤ first % us.length + many := Nat.div_le_self _ _
    have t1 : 1 ≤ (((first % us.length + many) / us.length + 1 : Nat) : Int) := by
      generalize (first % us.length + many) / us.length = T
      omega
    have t2 : (((first % us.length + many) / us.length + 1 : Nat) : Int) ≤ 1000 := by
      generalize (first % us.length + many) / us.length = T at dv
      generalize first % us.length = S at *
      omega
    have t3 : (((first % us.length + many) / us.length + 1 : Nat) : Int) = 1 → (first % us.length + many) / us.length = 0 := by
      generalize (first % us.length + many) / us.length = T
      omega
    refine ⟨_, rfl, _, rfl, _, us.length, rfl, .inr ⟨_, hT, wl.symm⟩, _, _, rfl, rfl, by omega, ?_⟩
    refine next_of ?_
    dsimp only
    rw [e1]
    refine ⟨_, rfl, _, rfl, _, _, rfl, rfl, _, rfl, _, us.length, rfl, .inr ⟨_, hT, wl.symm⟩, _, _, rfl, rfl, ⟨by omega, by omega⟩, _, _, rfl, rfl, ?_⟩
    refine next_of ?_
    dsimp only
    rw [e2]
    have fin : ∀ q H1, (q = l ∨ H q = none) → Same H H1 → TupAt H1 q (wordV (List.replicate ((first % us.length + many) / us.length + 1) us).flatten) → ∀ (Z : VK), (∀ q H', H q = none → H' q = some (.tup (wordV (stR us first many))) → Same H H' → Z (.ref q) H') →
        rSlT K (.ref q) (some ((first % us.length : Nat) : Int)) (some ((first % us.length + many : Nat) : Int)) H1 Z := fun q H1 hq s1 h1 Z z => by
      refine ⟨q, _, rfl, h1.st, ?_, fun p np => ?_⟩
      · rw [HT.sIx_nat, HT.sIx_nat, wordV_len, rep_len]
        omega
      · have e4 : cutV (wordV (List.replicate ((first % us.length + many) / us.length + 1) us).flatten) (some ((first % us.length : Nat) : Int)) (some ((first % us.length + many : Nat) : Int)) = wordV (stR us first many) := by
          unfold cutV stR
          rw [HT.sIx_nat, HT.sIx_nat, wordV_len, rep_len, Nat.min_eq_left (by omega), Nat.min_eq_left (by omega), Nat.add_sub_cancel_left]
          unfold wordV
          rw [List.map_take, List.map_drop]
        rw [e4]
        have np0 : H p = none := by
          cases e : H p with
          | none => rfl
          | some o => rw [s1 _ _ e] at np; cases np
        exact z p _ np0 upd_same (s1.trans (Same.new np))
    refine ⟨_, rfl, _, rfl, l, _, _, rfl, rfl, hT, fun z => hne (by unfold wordV at z; exact List.map_eq_nil_iff.mp z), t1, t2, by omega, fun c => ?_, fun c q nq => ?_⟩
    · refine ⟨_, rfl, _, rfl, _, rfl, _, rfl, _, _, rfl, rfl, _, rfl, ?_⟩
      have c' := t3 c
      rw [e3]
      refine fin l H (.inl rfl) (Same.refl _) (by rw [c']; simpa using hl) _ k
    · refine ⟨_, rfl, _, rfl, _, rfl, _, rfl, _, _, rfl, rfl, _, rfl, ?_⟩
      rw [e3]
      refine fin q _ (.inr nq) (Same.new nq) (.inl (by rw [upd_same, ← wordV_rep]; rfl)) _ k
end
end N

set_option maxHeartbeats 4000000
namespace N
open PySem L2
section
variable {P : Program} {w : World} {K : PySem.W.Frag} {mg : Str → Option Value} {base : Heap}
abbrev s_run_length : Stmt := top 43
theorem sc_run_length : FnScope ["runs", "word", "number"] ["runs"] (defScope s_run_length) := ⟨rfl, rfl, rfl, by decide +kernel, rfl, by decide +kernel, by decide +kernel⟩
theorem h_run_length (B : Blts mg) (F : FunAt K mg "run_length" "run_length" s_run_length) : Has P w K mg base "run_length" 1 ["runs"] (spLen K) := by
  refine has_of F sc_run_length (fun _ _ _ _ _ _ us hl => match us, hl with | [_], _ => rfl) (fun vs H Q E h => ?_) (fun f cdv A outer s H vs Q E hr h => ?_)
  · obtain ⟨_, _, _, rfl, _⟩ := h
    rfl
  · obtain ⟨p, xs, rs, rfl, hR, h400, good, k⟩ := h
    refine ⟨_, (pss_one (ps_ret (pe_callB (cr_sum rfl) (by rfl) B.n_sum (by decide +kernel) (pa_cons (pe_lc (own := [("word", 1), ("number", 2)]) rfl sc_run_length.nd (pi_tup (pv 0)) (blkOk_by (own := [("word", 1), ("number", 2)]) (N := ["runs", "word", "number"]) (sc := defScope s_run_length) (by decide +kernel)) (fun _ _ _ _ _ => by exact (pg_tupK K 2 rfl rfl (pgs_cons (pg_name (i := 1) sc_run_length.nd rfl (Or.inl rfl)) (pgs_cons (pg_name (i := 2) sc_run_length.nd rfl (Or.inl rfl)) pgs_nil)))) (fun _ _ _ _ _ => by exact pts_nil) (fun _ _ _ _ _ => by exact (pe_op op_mul (pe_callB (call_lenK K) (by rfl) B.n_len PySem.boot_len (pa_cons (pv 1) pa_nil)) (pv 2)))) pa_nil)))), ?_⟩
    have hp := hR.2
    have len := paired_len hp
    refine ⟨_, rfl, p, rfl, ⟨_, hR.1⟩, fun D nD => lc_map walk_tup (rAtI rs rlen) nD (by omega) (fun H' s' => s'.st hR.1) ?_ ?_⟩
    · rintro i x H2 H3 hi s2 ⟨rfl, hx⟩ R hR
      obtain ⟨r, hr', a, l, rfl, h1, h2⟩ := paired_get hp hx
      have qq := hR H3 (Same.refl _)
      rw [rAtI, hr'] at qq
      have g := good r (List.mem_of_getElem? hr')
      refine ⟨a, _, rfl, (h1.same s2).st, rfl, _, _, rfl, _, _, rfl, rfl, rfl, _, rfl, _, r.1.length, rfl, .inr ⟨_, (h2.at.same s2).st, (wordV_len _).symm⟩, _, rfl, _, _, rfl, rfl, mul_ok _ _ (by have := g.1.2.1; omega), qq⟩
    · intro H2 s2 hD
      rw [len, rAt_all] at hD
      have e := k H2 s2
      rw [show (lenR rs : Int) = (rs.map fun r => ((rlen r : Nat) : Int)).sum by rw [lenR, ← sum_cast, List.map_map]; rfl] at e
      exact ⟨D, _, rfl, SqL.of hD, e⟩
abbrev s_letter_count : Stmt := top 44
theorem sc_letter_count : FnScope ["runs", "name", "word", "number"] ["runs", "name"] (defScope s_letter_count) := ⟨rfl, rfl, rfl, by decide +kernel, rfl, by decide +kernel, by decide +kernel⟩
theorem h_letter_count (B : Blts mg) (F : FunAt K mg "letter_count" "letter_count" s_letter_count) : Has P w K mg base "letter_count" 1 ["runs", "name"] (spCnt K) := by
  refine has_of F sc_letter_count (fun _ _ _ _ _ _ us hl => match us, hl with | [_, _], _ => rfl) (fun vs H Q E h => ?_) (fun f cdv A outer s H vs Q E hr h => ?_)
  · obtain ⟨_, _, _, _, rfl, _⟩ := h
    rfl
  · obtain ⟨p, xs, rs, n, rfl, hR, h400, good, k⟩ := h
    refine ⟨_, (pss_one (ps_ret (pe_callB (cr_sum rfl) (by rfl) B.n_sum (by decide +kernel) (pa_cons (pe_lc (own := [("word", 2), ("number", 3)]) rfl sc_letter_count.nd (pi_tup (pv 0)) (blkOk_by (own := [("word", 2), ("number", 3)]) (N := ["runs", "name", "word", "number"]) (sc := defScope s_letter_count) (by decide +kernel)) (fun _ _ _ _ _ => by exact (pg_tupK K 2 rfl rfl (pgs_cons (pg_name (i := 2) sc_letter_count.nd rfl (Or.inl rfl)) (pgs_cons (pg_name (i := 3) sc_letter_count.nd rfl (Or.inl rfl)) pgs_nil)))) (fun _ _ _ _ _ => by exact pts_nil) (fun _ _ _ _ _ => by exact (pe_op op_mul (pe_bmF PySem.F.plainAttrs_tuple PySem.F.slot_tuple_count PySem.F.type_tuple_count (mt_tcountK K) (pv 2) (pa_cons (pv 1) pa_nil)) (pv 3)))) pa_nil)))), ?_⟩
    have hp := hR.2
    have len := paired_len hp
    refine ⟨_, rfl, p, rfl, ⟨_, hR.1⟩, fun D nD => lc_map walk_tup (rAtI rs fun r => (nmS r.1).count n * r.2) nD (by omega) (fun H' s' => s'.st hR.1) ?_ ?_⟩
    · rintro i x H2 H3 hi s2 ⟨rfl, hx⟩ R hR
      obtain ⟨r, hr', a, l, rfl, h1, h2⟩ := paired_get hp hx
      have qq := hR H3 (Same.refl _)
      rw [rAtI, hr'] at qq
      have g := good r (List.mem_of_getElem? hr')
      have cl := List.count_le_length (a := n) (l := nmS r.1)
      rw [nmS_len] at cl
      have ht : SqT K H3 l (wordV r.1) := (h2.at.same s2).st
      have ht2 := ht
      rw [wordV_nm] at ht2
      obtain ⟨o, oc, od, ho⟩ : FrzT H3 l (wordV r.1) := FrzT.same h2 s2
      refine ⟨a, _, rfl, (h1.same s2).st, rfl, _, _, rfl, _, _, rfl, rfl, rfl, _, rfl, ⟨l, o, _, rfl, ho, oc, od⟩, _, rfl, l, nmS r.1, n, rfl, rfl, ht2, _, rfl, _, _, rfl, rfl, mul_ok _ _ (by have := g.1.2.1; omega), qq⟩
    · intro H2 s2 hD
      rw [len, rAt_all] at hD
      have e := k H2 s2
      rw [show (cntR rs n : Int) = (rs.map fun r => (((nmS r.1).count n * r.2 : Nat) : Int)).sum by rw [cntR, ← sum_cast, List.map_map]; rfl] at e
      exact ⟨D, _, rfl, SqL.of hD, e⟩
end
end N

set_option maxHeartbeats 4000000
namespace N
open PySem L2
theorem shaped_strsT {ss : List Str} (h : ∀ s ∈ ss, PyData.strOk s = true) : SeqAt.shaped (.tuple (ss.map PyData.str)) = true := by
  obtain ⟨a, b⟩ := lay_strs h
  simp [SeqAt.shaped, PyData.canLay0, PyData.depth, a, b]
theorem eqv_strsA : ∀ a b : List Str, PyData.eqvAll (a.map PyData.str) (b.map PyData.str) = decide (a = b)
  | [], [] => by simp [PyData.eqvAll]
  | [], _ :: _ => by simp [PyData.eqvAll]
  | _ :: _, [] => by simp [PyData.eqvAll]
  | x :: a, y :: b => by
    rw [Bool.eq_iff_iff]
    simp [PyData.eqvAll, PyData.eqv, eqv_strsA a b]
theorem eqv_strsT (a b : List Str) : PyData.eqv (.tuple (a.map PyData.str)) (.tuple (b.map PyData.str)) = decide (a = b) := by
  simp only [PyData.eqv]
  exact eqv_strsA a b
theorem dp_word {K : PySem.W.Frag} {H : Hp} {l : Addr} {us : List Row} (h : SqT K H l (wordV us)) : Dp K H (.ref l) (.tuple ((nmS us).map PyData.str)) := .tup h (by rw [wordV_nm]; exact dp_strs _)
theorem nmS_ok {us : List Row} (h : ∀ u ∈ us, PyData.strOk u.name = true) : ∀ s ∈ nmS us, PyData.strOk s = true := fun s hs => by
  obtain ⟨u, hu, rfl⟩ := List.mem_map.mp hs
  exact h u hu
theorem stR_ok {us : List Row} {i m : Nat} (h : ∀ u ∈ us, PyData.strOk u.name = true) : ∀ u ∈ stR us i m, PyData.strOk u.name = true := fun u hu => h u (stR_mem hu)
/-- the first place -/
theorem find_all {n : Nat} {f : Nat → Bool} (h : ∀ i, i < n → f i = false) : (List.range n).find? f = none := by
  rw [List.find?_eq_none]
  intro x hx
  rw [h x (List.mem_range.mp hx)]
  simp
theorem find_at {n i : Nat} {f : Nat → Bool} (hi : i < n) (h : ∀ j, j < i → f j = false) (t : f i = true) : (List.range n).find? f = some i := by
  have e : List.range n = List.range i ++ i :: (List.range (n - i - 1)).map (· + (i + 1)) := by
    refine List.ext_getElem (by simp; omega) fun j h1 h2 => ?_
    rw [List.getElem_range]
    rcases Nat.lt_trichotomy j i with c | c | c
    · rw [List.getElem_append_left (by simpa using c)]
      simp
    · subst c
      rw [List.getElem_append_right (by simp)]
      simp
    · rw [List.getElem_append_right (by simp; omega)]
      obtain ⟨m, hm⟩ : ∃ m, j = i + (m + 1) := ⟨j - i - 1, by omega⟩
      subst hm
      simp
      omega
  rw [e, List.find?_append, find_all h]
  simp [t]
theorem wordV_at {us : List Row} {i : Nat} (h : i < us.length) : (wordV us)[i]? = some (.str (us[i]'h).name) := by
  rw [wordV, List.getElem?_map, List.getElem?_eq_getElem h]
  rfl
theorem atI_nat {xs : List V} {i : Nat} {v : V} (h : xs[i]? = some v) : atI xs (i : Nat) = some v := by
  have hi := (List.getElem?_eq_some_iff.mp h).1
  unfold atI ixN
  rw [if_pos (Int.natCast_nonneg i), if_pos (by omega)]
  simpa using h
section
variable {P : Program} {w : World} {K : PySem.W.Frag} {mg : Str → Option Value} {base : Heap}
abbrev s__unlike_within : Stmt := top 47
theorem sc__unlike_within : FnScope ["word", "used", "other", "spent", "many", "few", "one", "two", "place"] ["word", "used", "other", "spent", "many"] (defScope s__unlike_within) := ⟨rfl, rfl, rfl, by decide +kernel, rfl, by decide +kernel, by decide +kernel⟩
theorem h_unlike_within (B : Blts mg) (F : FunAt K mg "_unlike_within" "_unlike_within" s__unlike_within) (h_stretch : Has P w K mg base "_stretch" 1 ["word", "first", "many"] spStretch) : Has P w K mg base "_unlike_within" 2 ["word", "used", "other", "spent", "many"] spWithin := by
  refine has_of F sc__unlike_within (fun _ _ _ _ _ _ us hl => match us, hl with | [_, _, _, _, _], _ => rfl) (fun vs H Q E h => ?_) (fun f cdv A outer s H vs Q E hr h => ?_)
  · obtain ⟨_, _, _, _, _, _, _, rfl, _⟩ := h
    rfl
  · obtain ⟨l, m, a, b, i, j, many, rfl, hl, hm, ga, gb, k⟩ := h
    refine ⟨_, (pss_cons (ps_set (i := 5) sc__unlike_within.nd rfl (Or.inl rfl) (pe_callB (call_min2 rfl) (by rfl) B.n_min (by decide +kernel) (pa_cons (pv 4) (pa_cons (pe_op op_add (pe_callB call_len (by rfl) B.n_len PySem.boot_len (pa_cons (pv 0) pa_nil)) (pe_callB call_len (by rfl) B.n_len PySem.boot_len (pa_cons (pv 2) pa_nil))) pa_nil))))
      (pss_cons (ps_set (i := 6) sc__unlike_within.nd rfl (Or.inl rfl) (pe_has h_stretch (hr.mono (by decide)) (pa_cons (pv 0) (pa_cons (pv 1) (pa_cons (pv 5) pa_nil)))))
      (pss_cons (ps_set (i := 7) sc__unlike_within.nd rfl (Or.inl rfl) (pe_has h_stretch (hr.mono (by decide)) (pa_cons (pv 2) (pa_cons (pv 3) (pa_cons (pv 5) pa_nil)))))
      (pss_cons (ps_if (pt_cmpR (op_eqD hr.units) (pv 6) (pv 7) (by first | exact nomark _ | rfl)) (pss_one (ps_ret pe_non))
        pss_nil)
      (pss_cons (ps_for PassesOwn.never rfl (pi_range1 (by rfl) B.n_range (pa_cons (pv 5) pa_nil)) (pg_name (i := 8) sc__unlike_within.nd rfl (Or.inl rfl))
        (pss_one (ps_if (pt_cmpR op_ne (pe_ix ix_tup (pv 6) (pv 8) (fun _ _ => rfl)) (pe_ix ix_tup (pv 7) (pv 8) (fun _ _ => rfl)) (by first | exact nomark _ | rfl)) (pss_one (ps_ret (pv 8)))
          pss_nil)))
      (pss_one (ps_ret pe_non))))))), ?_⟩
    obtain ⟨na, la, oka⟩ := ga
    obtain ⟨nb, lb, okb⟩ := gb
    refine ⟨_, rfl, _, rfl, _, a.length, rfl, .inr ⟨_, hl.st, (wordV_len a).symm⟩, _, rfl, _, b.length, rfl, .inr ⟨_, hm.st, (wordV_len b).symm⟩, _, _, rfl, rfl, _, _, rfl, ?_⟩
    refine next_of ?_
    dsimp only
    have ef : (if ((a.length : Nat) : Int) + (b.length : Nat) < (many : Nat) then ((a.length : Nat) : Int) + (b.length : Nat) else ((many : Nat) : Int)) = ((min many (a.length + b.length) : Nat) : Int) := by
      split <;> omega
    rw [ef]
    have few480 : min many (a.length + b.length) ≤ 480 := by omega
    obtain ⟨few, hfew⟩ : ∃ few, min many (a.length + b.length) = few := ⟨_, rfl⟩
    unfold uwR at k
    rw [hfew] at few480 k ⊢
    refine ⟨_, rfl, _, rfl, _, rfl, l, a, i, few, rfl, hl, na, la, few480, fun q1 H1 nq1 hq1 s1 => ?_⟩
    refine next_of ?_
    dsimp only
    refine ⟨_, rfl, _, rfl, _, rfl, m, b, j, few, rfl, hm.same s1, nb, lb, few480, fun q2 H2 nq2 hq2 s2 => ?_⟩
    refine next_of ?_
    dsimp only
    have hq1' := s2 _ _ hq1
    have l1 := stR_len na i few
    have l2 := stR_len nb j few
    refine ⟨_, rfl, _, rfl, _, _, dp_word (SqT.of hq1'), dp_word (SqT.of hq2), shaped_strsT (nmS_ok (stR_ok oka)), shaped_strsT (nmS_ok (stR_ok okb)), _, rfl, ?_⟩
    rw [eqv_strsT]
    refine ite2 (fun c => ?_) (fun c => ?_)
    · have e := of_decide_eq_true c
      have q := k H2 (s1.trans s2)
      rw [e, find_all (fun _ _ => by simp)] at q
      exact q
    · refine next_of ?_
      dsimp only
      refine ⟨_, rfl, _, rfl, by omega, by omega, for_range (n := few) (fun c σ H' => ∃ v8 : Option V, σ = [some (.ref l), some (.int (i : Nat)), some (.ref m), some (.int (j : Nat)), some (.int (many : Nat)), some (.int (few : Nat)), some (.ref q1), some (.ref q2), v8] ∧ H' = H2 ∧
        ∀ z, z < c → ((nmS (stR a i few))[z]? != (nmS (stR b j few))[z]?) = false) ⟨none, rfl, rfl, fun z h => absurd h (Nat.not_lt_zero _)⟩ (fun c σ H' hc h => ?_) (fun σ H' h => ?_)⟩
      · obtain ⟨v8, rfl, rfl, sofar⟩ := h
        have i1 : c < (stR a i few).length := by omega
        have i2 : c < (stR b j few).length := by omega
        have g1 : (nmS (stR a i few))[c]? = some ((stR a i few)[c]'i1).name := by rw [nmS, List.getElem?_map, List.getElem?_eq_getElem i1]; rfl
        have g2 : (nmS (stR b j few))[c]? = some ((stR b j few)[c]'i2).name := by rw [nmS, List.getElem?_map, List.getElem?_eq_getElem i2]; rfl
        have e0 : ((0 : Int) + (c : Nat)) = ((c : Nat) : Int) := Int.zero_add _
        rw [e0]
        refine ⟨_, rfl, _, rfl, q1, _, _, _, rfl, rfl, SqT.of hq1', atI_nat (wordV_at i1), _, rfl, _, rfl, q2, _, _, _, rfl, rfl, SqT.of hq2, atI_nat (wordV_at i2), rfl, _, rfl, ite2 (fun d => ?_) (fun d => ?_)⟩
        · have q := k H' (s1.trans s2)
          rw [find_at (i := c) hc sofar (by
            rw [g1, g2]
            simpa using d)] at q
          exact ⟨_, rfl, q⟩
        · refine ⟨_, rfl, rfl, fun z hz => ?_⟩
          rcases Nat.lt_succ_iff_lt_or_eq.mp hz with y | y
          · exact sofar z y
          · subst y
            rw [g1, g2]
            simpa using d
      · obtain ⟨v8, rfl, rfl, sofar⟩ := h
        have q := k H' (s1.trans s2)
        rw [find_all sofar] at q
        exact q
end
end N

set_option maxHeartbeats 4000000
namespace N
open PySem L2
/-- the letters from a place on, as the runs are walked -/
def lfR : List Run → Nat → Nat → List Row → List Row
  | [], _, _, found => found
  | r :: rs, first, many, found =>
    if rlen r ≤ first then (if found.length = many then found else lfR rs (first - rlen r) many found)
    else (if (found ++ stR r.1 first (min (rlen r - first) (many - found.length))).length = many then found ++ stR r.1 first (min (rlen r - first) (many - found.length))
      else lfR rs 0 many (found ++ stR r.1 first (min (rlen r - first) (many - found.length))))
theorem lfR_nonempty : ∀ {rs : List Run} {first many : Nat} {found : List Row}, (∀ r ∈ rs, GoodR r) → 0 < many → found.length ≤ many → (found ≠ [] ∨ first < lenR rs) → lfR rs first many found ≠ []
  | [], first, many, found, _, _, _, h => by
    rcases h with h | h
    · exact h
    · exact absurd h (Nat.not_lt_zero _)
  | r :: rs, first, many, found, g, hm, hf, h => by
    have gr := g r (.head _)
    unfold lfR
    split
    · rename_i c
      split
      · rename_i d
        exact fun z => by rw [z] at d; simp at d; omega
      · refine lfR_nonempty (fun x hx => g x (.tail _ hx)) hm hf ?_
        rcases h with h | h
        · exact .inl h
        · refine .inr ?_
          unfold lenR at h ⊢
          rw [List.map_cons, List.sum_cons] at h
          omega
    · rename_i c
      have sl := stR_len gr.1.1 first (min (rlen r - first) (many - found.length))
      have ne : found ++ stR r.1 first (min (rlen r - first) (many - found.length)) ≠ [] := fun z => by
        have := congrArg List.length z
        rw [List.length_append, sl, List.length_nil] at this
        omega
      split
      · exact ne
      · refine lfR_nonempty (fun x hx => g x (.tail _ hx)) hm ?_ (.inl ne)
        rw [List.length_append, sl]
        omega
def spLetters (K : PySem.W.Frag) : Sp := fun vs H Q _ => ∃ (p : Addr) (xs : List V) (rs : List Run) (first many : Nat), vs = [.ref p, .int (first : Nat), .int (many : Nat)] ∧ RunsS false K H p xs rs ∧ rs.length ≤ 4000 ∧ (∀ r ∈ rs, GoodR r) ∧ many ≤ 400 ∧
  ∀ q H', H q = none → H' q = some (.lst (wordV (lfR rs first many []))) → Same H H' → Q (.ref q) H'
theorem wordV_app (a b : List Row) : wordV a ++ wordV b = wordV (a ++ b) := (List.map_append ..).symm
section
variable {P : Program} {w : World} {K : PySem.W.Frag} {mg : Str → Option Value} {base : Heap}
abbrev s_letters_from : Stmt := top 45
theorem sc_letters_from : FnScope ["runs", "first", "many", "found", "word", "number", "length"] ["runs", "first", "many"] (defScope s_letters_from) := ⟨rfl, rfl, rfl, by decide +kernel, rfl, by decide +kernel, by decide +kernel⟩
theorem h_letters_from (B : Blts mg) (F : FunAt K mg "letters_from" "letters_from" s_letters_from) (h_stretch : Has P w K mg base "_stretch" 1 ["word", "first", "many"] spStretch) : Has P w K mg base "letters_from" 2 ["runs", "first", "many"] (spLetters K) := by
  refine has_of F sc_letters_from (fun _ _ _ _ _ _ us hl => match us, hl with | [_, _, _], _ => rfl) (fun vs H Q E h => ?_) (fun f cdv A outer s H vs Q E hr h => ?_)
  · obtain ⟨_, _, _, _, _, rfl, _⟩ := h
    rfl
  · obtain ⟨p, xs, rs, first, many, rfl, hR, h400, good, m400, k⟩ := h
    refine ⟨_, (pss_cons (ps_set (i := 3) sc_letters_from.nd rfl (Or.inl rfl) (pe_lst pa_nil))
      (pss_cons (ps_for PassesOwn.never rfl (pi_tup (pv 0)) (pg_tup rfl (pgs_cons (pg_name (i := 4) sc_letters_from.nd rfl (Or.inl rfl)) (pgs_cons (pg_name (i := 5) sc_letters_from.nd rfl (Or.inl rfl)) pgs_nil)))
        (pss_cons (ps_set (i := 6) sc_letters_from.nd rfl (Or.inl rfl) (pe_op op_mul (pe_callB call_len (by rfl) B.n_len PySem.boot_len (pa_cons (pv 4) pa_nil)) (pv 5)))
        (pss_cons (ps_if (pt_cmpR op_ge (pv 1) (pv 6) (by first | exact nomark _ | rfl)) (pss_one (ps_set (i := 1) sc_letters_from.nd rfl (Or.inl rfl) (pe_op op_sub (pv 1) (pv 6))))
          (pss_cons (ps_expr (pe_bm PySem.F.plainAttrs_list PySem.F.slot_list_extend PySem.F.type_list_extend mt_extendT (pv 3) (pa_cons (pe_has h_stretch (hr.mono (by decide)) (pa_cons (pv 4) (pa_cons (pv 1) (pa_cons (pe_callB (call_min2 rfl) (by rfl) B.n_min (by decide +kernel) (pa_cons (pe_op op_sub (pv 6) (pv 1)) (pa_cons (pe_op op_sub (pv 2) (pe_callB call_len (by rfl) B.n_len PySem.boot_len (pa_cons (pv 3) pa_nil))) pa_nil))) pa_nil)))) pa_nil)))
          (pss_one (ps_set (i := 1) sc_letters_from.nd rfl (Or.inl rfl) pe_int))))
        (pss_one (ps_if (pt_cmpR op_eq (pe_callB call_len (by rfl) B.n_len PySem.boot_len (pa_cons (pv 3) pa_nil)) (pv 2) (by first | exact nomark _ | rfl)) (pss_one ps_break)
          pss_nil)))))
      (pss_one (ps_ret (pv 3))))), ?_⟩
    have hp := hR.2
    have len := paired_len hp
    refine ⟨by decide, fun q nq => ?_⟩
    refine next_of ?_
    dsimp only
    refine ⟨_, rfl, p, rfl, ⟨_, (Same.new nq).st hR.1⟩, for_tup (K := K) (a := p) (xs := xs) (fun i σ H' => ∃ (fst : Nat) (fnd : List Row) (v4 v5 v6 : Option V), σ = [some (.ref p), some (.int (fst : Nat)), some (.int (many : Nat)), some (.ref q), v4, v5, v6] ∧
      Same H H' ∧ H' q = some (.lst (wordV fnd)) ∧ fnd.length ≤ many ∧ lfR (rs.drop i) fst many fnd = lfR rs first many []) ⟨first, [], none, none, none, rfl, Same.new nq, upd_same, Nat.zero_le _, rfl⟩ (fun i σ H' _ h => ?_) (fun i x σ H' hx h => ?_) (fun σ H' h => ?_)⟩
    · obtain ⟨_, _, _, _, _, _, e, _⟩ := h
      exact e.st hR.1
    · obtain ⟨fst, fnd, v4, v5, v6, rfl, e, hq, lf, val⟩ := h
      obtain ⟨r, hr', a, l, rfl, h1, h2⟩ := paired_get hp hx
      have g := good r (List.mem_of_getElem? hr')
      have hi := (List.getElem?_eq_some_iff.mp hr').1
      have dr : rs.drop i = r :: rs.drop (i + 1) := by
        rw [List.drop_eq_getElem_cons hi, (List.getElem?_eq_some_iff.mp hr').2]
      rw [dr] at val
      have el : ((r.1.length : Nat) : Int) * (r.2 : Nat) = ((rlen r : Nat) : Int) := by rw [rlen, Int.natCast_mul]
      have wl := wordV_len fnd
      refine ⟨a, _, rfl, (h1.same e).st, rfl, _, _, rfl, _, _, rfl, rfl, ?_⟩
      refine ⟨_, rfl, _, r.1.length, rfl, .inr ⟨_, (h2.at.same e).st, (wordV_len _).symm⟩, _, rfl, _, _, rfl, rfl, mul_ok _ _ (by have := g.1.2.1; omega), ?_⟩
      refine next_of ?_
      dsimp only
      rw [el]
      refine seq_cut (fun σ H2 => ∃ (fst' : Nat) (fnd' : List Row), σ = [some (.ref p), some (.int (fst' : Nat)), some (.int (many : Nat)), some (.ref q), some (.ref l), some (.int (r.2 : Nat)), some (.int (rlen r : Nat))] ∧
        Same H H2 ∧ H2 q = some (.lst (wordV fnd')) ∧ fnd'.length ≤ many ∧ (if fnd'.length = many then fnd' else lfR (rs.drop (i + 1)) fst' many fnd') = lfR rs first many []) (fun Z hZ => ?_) (fun σ H2 h => ?_)
      · refine ⟨_, rfl, _, rfl, _, _, rfl, rfl, _, rfl, ite2 (fun c => ?_) (fun c => ?_)⟩
        · have c' : rlen r ≤ fst := by
            have := of_decide_eq_true c
            omega
          refine ⟨_, rfl, _, rfl, _, _, rfl, rfl, ?_⟩
          refine hZ _ _ ⟨fst - rlen r, fnd, ?_, e, hq, lf, ?_⟩
          · have ez : ((fst : Nat) : Int) - (rlen r : Nat) = ((fst - rlen r : Nat) : Int) := by omega
            exact congrArg (fun z : Int => [some (V.ref p), some (V.int z), some (V.int (many : Nat)), some (V.ref q), some (V.ref l), some (V.int (r.2 : Nat)), some (V.int (rlen r : Nat))]) ez
          · rw [← val, lfR, if_pos c']
        · have c' : ¬ rlen r ≤ fst := fun z => c (decide_eq_true (by omega))
          obtain ⟨m, hm⟩ : ∃ m, min (rlen r - fst) (many - fnd.length) = m := ⟨_, rfl⟩
          have em : (if ((many : Nat) : Int) - (fnd.length : Nat) < ((rlen r : Nat) : Int) - (fst : Nat) then ((many : Nat) : Int) - (fnd.length : Nat) else ((rlen r : Nat) : Int) - (fst : Nat)) = ((m : Nat) : Int) := by
            rw [← hm]
            split <;> omega
          have sl := stR_len g.1.1 fst m
          refine ⟨_, rfl, .inl ⟨rfl, _, SqL.of hq⟩, _, rfl, _, rfl, _, rfl, _, rfl, _, _, rfl, rfl, _, rfl, _, rfl, _, fnd.length, rfl, .inl ⟨_, SqL.of hq, wl.symm⟩, _, _, rfl, rfl, _, _, rfl, ?_⟩
          rw [em]
          refine ⟨l, r.1, fst, m, rfl, h2.at.same e, g.1.1, g.1.2.1, by omega, fun t H3 nt ht s3 => ?_⟩
          have hq3 := s3 _ _ hq
          refine ⟨q, t, _, _, rfl, rfl, hq3, SqT.of ht, ?_, ?_⟩
          · rw [wordV_len, wordV_len, sl]
            exact Nat.le_trans (by omega : _ ≤ 1000000) (by decide)
          · refine next_of ?_
            dsimp only
            refine hZ _ _ ⟨0, fnd ++ stR r.1 fst m, rfl, fun b o h => ?_, ?_, ?_, ?_⟩
            · have nb : b ≠ q := fun z => by subst z; rw [nq] at h; cases h
              rw [upd_ne nb]
              exact s3 _ _ (e _ _ h)
            · rw [upd_same, wordV_app]
            · rw [List.length_append, sl]
              omega
            · rw [← val, lfR, if_neg c', hm]
      · obtain ⟨fst', fnd', rfl, e', hq', lf', val'⟩ := h
        refine ⟨_, rfl, _, fnd'.length, rfl, .inl ⟨_, SqL.of hq', (wordV_len _).symm⟩, _, rfl, rfl, _, rfl, ite2 (fun c => ?_) (fun c => ?_)⟩
        · have c' : fnd'.length = many := by
            simp at c
            omega
          rw [if_pos c'] at val'
          rw [val'] at hq'
          exact ⟨_, rfl, k q H2 nq hq' e'⟩
        · have c' : ¬ fnd'.length = many := fun z => c (by simp [z])
          rw [if_neg c'] at val'
          exact ⟨fst', fnd', _, _, _, rfl, e', hq', lf', val'⟩
    · obtain ⟨fst, fnd, v4, v5, v6, rfl, e, hq, lf, val⟩ := h
      rw [List.drop_of_length_le (by omega), lfR] at val
      rw [val] at hq
      exact ⟨_, rfl, k q H' nq hq e⟩
end
end N

set_option maxHeartbeats 4000000
/-! enumerate(tuple); a walk of a list or a tuple -/
namespace L2
open PySem PySem.Spec PyProof.Rows
open AutoSeq1 (wpAny_loadPart')
theorem meets_enumerate_newT (l : Addr) (items : Array Value) (n : Nat) (dct : Option Addr) (sl : Array (Option Value)) :
    Meets (Builtin.«enumerate.__new__» ⟨[.type "enumerate", .ref l], []⟩) (fun _ R s => s.heap.get? l = some { cls := .type "tuple", dict := dct, data := .seq items n, slots := sl } ∧
      R (.ok (.ret (.ref (s.heap.push { cls := .type "tuple_iterator", data := .fields #[.ref l, .int 0 0] }).objs.size)))
        { s with heap := (s.heap.push { cls := .type "tuple_iterator", data := .fields #[.ref l, .int 0 0] }).push { cls := .type "enumerate", data := .fields #[.none, .bool false, .ref s.heap.objs.size, rawInt 0, .none, .none] } }) :=
  .of_wp fun prog w A R s h => by
    obtain ⟨hp, g, d, tk, os⟩ := s; obtain ⟨hl, h⟩ := h
    have hsub := sub_enumerate
    have hL : Heap.IsTuple (Shared.heap ⟨hp, g, d, tk, os⟩) l items := ⟨_, hl, rfl, n, rfl⟩
    wp_walk using wpAny_loadPart' hl
    refine wpAny_stack_any fun st => wpAny_pure ?_
    split
    · rename_i c _ _ _ _ _
      cases (c == Value.type "enumerate")
      · wp_walk using wpAny_loadPart' hl, wpAny_pyIter_tuple hL
        exact ⟨_, rfl, h⟩
      · wp_walk using wpAny_loadPart' hl, wpAny_pyIter_tuple hL
        exact ⟨_, rfl, h⟩
    · wp_walk using wpAny_loadPart' hl, wpAny_pyIter_tuple hL
      exact ⟨_, rfl, h⟩
section
variable {prog : Program} {w : World} {A : Around} {E : Value → Shared → Prop} {s : Shared}
theorem call_enumerate_tuple {l : Addr} {items : Array Value} {Q : Value → Shared → Prop} (hL : s.heap.IsTuple l items)
    (h : ∀ h', IsEnum h' (s.heap.objs.size + 1) s.heap.objs.size 0 .none → h'.IsTupleIter s.heap.objs.size l 0 → h'.objs.size = s.heap.objs.size + 2 →
      (∀ b o, s.heap.get? b = some o → h'.get? b = some o) → Q (.ref (s.heap.objs.size + 1)) { s with heap := h' }) :
    wpAny (model prog w) A (call (.type "enumerate") [.ref l]) Q E s := by
  obtain ⟨⟨c, dct, dt, sl⟩, hl, hc, n, hd⟩ := hL
  replace hc : c = .type "tuple" := hc
  replace hd : dt = .seq items n := hd
  subst hc hd
  refine callType_new F.called_enumerate (by decide) (F.typeCall_enumerate_1 _) (F.newCall_enumerate_1 _) (fun obj => F.args_object_init_2 obj _) F.entry_enumerate_new
    (meets_enumerate_newT l items n dct sl) ⟨hl, ?_⟩
  have hz : (s.heap.push { cls := .type "tuple_iterator", data := .fields #[.ref l, .int 0 0] }).objs.size = s.heap.objs.size + 1 := Heap.size_push ..
  show _ ∧ _
  rw [hz]
  have he : IsEnum ((s.heap.push { cls := .type "tuple_iterator", data := .fields #[.ref l, .int 0 0] }).push
      { cls := .type "enumerate", data := .fields #[.none, .bool false, .ref s.heap.objs.size, rawInt 0, .none, .none] }) (s.heap.objs.size + 1) s.heap.objs.size 0 .none := by
    have := Heap.get?_push_size (s.heap.push { cls := .type "tuple_iterator", data := .fields #[.ref l, .int 0 0] })
      (o := { cls := .type "enumerate", data := .fields #[.none, .bool false, .ref s.heap.objs.size, rawInt 0, .none, .none] }) rfl
    rw [hz] at this; exact this
  refine ⟨⟨_, he, rfl⟩, h _ he ⟨_, Heap.get?_push_of_some _ (Heap.get?_push_size _ rfl), rfl, rfl⟩ (by rw [Heap.size_push, hz]) fun b o x => Heap.get?_push_of_some _ (Heap.get?_push_of_some _ x)⟩
end
def IteT (K : PySem.W.Frag) (a : Addr) : It :=
  ⟨fun i H => ∃ (xs : List V) (x : V), SqT K H a xs ∧ xs[i]? = some x, fun i H v H' => ∃ T x, v = .ref T ∧ H T = none ∧ H' = upd H T (.tup [.int (i : Nat), x]) ∧ ∀ xs, SqT K H a xs → xs[i]? = some x, fun i H => ∃ xs : List V, SqT K H a xs ∧ xs.length ≤ i⟩
theorem turn_enumT {P : Program} {w : World} {K : PySem.W.Frag} {elts : List Expr} {kk : Nat} {tpos : Pos} (a e it : Addr) (hae : a ≠ e) (hai : a ≠ it) :
    Turn P w K (.Tuple elts kk tpos) (IteT K a) [e, it] e (fun i h => (∃ old, IsEnum h e it ((i : Nat) : Int) old) ∧ h.IsTupleIter it a i ∧ e ≠ it) where
  mem := by simp
  obj := fun i h st b hb => by
    obtain ⟨⟨old, he⟩, ⟨o, ho, hc, hd⟩, _⟩ := st
    have e' : b = e ∨ b = it := by simpa using hb
    rcases e' with z | z
    · rw [z]; exact ⟨_, he, fun v q => nomatch q⟩
    · rw [z]; exact ⟨o, ho, fun v q => by rw [hd] at q; cases q⟩
  keep := fun i h h' st k => let ⟨⟨old, he⟩, hi, hne⟩ := st; ⟨⟨old, k e (by simp) _ he⟩, hi.at fun o q => k it (by simp) o q, hne⟩
  item := by
    intro X hP hw hK hc i pins s σ H E I hf st hg
    subst hP hw hK
    obtain ⟨⟨old, he⟩, hit, hne⟩ := st
    obtain ⟨xs, x, hq, hx⟩ := hg
    obtain ⟨its, rv, p, hz⟩ := I.tuple hq
    obtain ⟨u, hu, ru⟩ := rv.get hx
    have hel : e < s.heap.objs.size := Heap.lt_size he
    have hil : it < s.heap.objs.size := by obtain ⟨_, q, _⟩ := hit; exact Heap.lt_size q
    have pt : s.heap.IsTuple a its.toArray := p
    have hi : i < its.toArray.size := by
      have := (List.getElem?_eq_some_iff.mp hu).1
      simpa using this
    have hd1 : X.A.in1.handled = none := I.ok.hd hc
    refine wpAny_pyNext_enum_itemD (Draws.tuple (prog := X.prog) (w := X.w) hd1 it a hai its.toArray) he ⟨hit, pt⟩ hi hne (by simp [hne, hae.symm]) fun y h' tk hy ho hst' hT hsz hk => ?_
    obtain ⟨hit', _⟩ := hst'
    have ey : y = u := by
      have e1 : its.toArray[i]? = some u := by simpa using hu
      rw [e1] at hy
      exact (Option.some.inj hy).symm
    subst ey
    refine ⟨_, rfl, wpAny_letOwnedTupleGo_enum (s := { s with heap := h', toks := tk + 1 }) ho fun h'' he' sb => ?_⟩
    have hT2 : h''.get? s.heap.objs.size = some { cls := .type "tuple", data := .seq #[.int i tk, y] } := (sb.2 _ (Nat.ne_of_gt hel)).trans hT
    have new : ObjOk X.prog X.w (upd H s.heap.objs.size (.tup [.int (i : Nat), x])) h'' s.heap.objs.size (.tup [.int (i : Nat), x]) :=
      ⟨by show 2 ≤ sizeLine; decide, [.int i tk, y], .cons ⟨_, rfl⟩ (.cons ru .nil), ⟨_, hT2, rfl, _, rfl⟩⟩
    have I1 : Inv X pins σ (upd H s.heap.objs.size (.tup [.int (i : Nat), x])) { s with heap := h'', toks := tk + 1 } :=
      I.turnedNew (ch := [e, it]) (fun b ob hb q => (sb.2 b (fun z => hb (by simp [z]))).trans (hk b ob (fun z => hb (by simp [z])) (fun z => hb (by simp [z])) q)) hf (Nat.le_refl _) new
    refine ⟨.ref s.heap.objs.size, _, I1, rfl, ⟨_, x, rfl, I.hok.fresh (Nat.le_refl _), rfl, fun ys hy => by rw [I.tuple_inj hy hq]; exact hx⟩, ⟨⟨y, ?_⟩, hit'.at fun o q => (sb.2 it (Ne.symm hne)).trans q, hne⟩, fun b hb => ?_⟩
    · have e1 : ((i + 1 : Nat) : Int) = (i : Int) + 1 := by omega
      rw [e1]; exact he'
    · have hb' : b < s.heap.objs.size := by
        have e' : b = e ∨ b = it := by simpa using hb
        rcases e' with z | z
        · rw [z]; exact hel
        · rw [z]; exact hil
      rw [upd_ne (Nat.ne_of_lt hb')]
      exact (hf b hb).1
  done := by
    intro X hP hw hK hc i pins s σ H E I hf st hg
    subst hP hw hK
    obtain ⟨⟨old, he⟩, hit, hne⟩ := st
    obtain ⟨xs, hq, hx⟩ := hg
    obtain ⟨its, rv, p, hz⟩ := I.tuple hq
    obtain ⟨f0, f1, f2, f3, f4, f5⟩ := hf it (by simp)
    have hl := rv.length
    have pt : s.heap.IsTuple a its.toArray := p
    have hd1 : X.A.in1.handled = none := I.ok.hd hc
    have hT : s.TypeIs (.ref e) "enumerate" := ⟨_, he, rfl⟩
    unfold pyNext
    refine wpAny_bind (wpAny_attempt (wpAny_callSpecial?_slot (name := Str.ofString "__next__") hT F.slot_enumerate_next
      (wpAny_call_entry F.slot_enumerate_next hT F.entry_enumerate_next ?_ (F.args_enumerate_next_1 _))))
    show wpAny _ _ (field (.ref e) 2 >>= _) _ _ _
    refine wpAny_bind (wpAny_field he rfl (x := .ref it) rfl ?_)
    refine wpAny_bind (wpAny_nextOf_tuple_end hd1 hit pt (by simp; omega) fun h' x he' hx' => ?_)
    obtain ⟨o, ho, hc'⟩ := hx'
    refine wpAny_bind (wpAny_isInstance (T := "StopIteration") (b := true) ⟨o, ho, hc'⟩ isSubtype_stop ?_)
    exact wpAny_pure ⟨rfl, I.turned (t' := s.toks) (fun b o hb q => he' b o hb q) f0 f1 f3 f4 f5⟩
  self := fun A i s Q E st h => let ⟨⟨_, he⟩, _⟩ := st; wpAny_pyIter_enum he h
def iEnumT (K : PySem.W.Frag) (ta : TA) : TI := fun σ H R => ta σ H fun vs H1 => ∃ a xs, vs = [.ref a] ∧ SqT K H1 a xs ∧ R (IteT K a) H1
theorem pi_enumT {X : Cx} {e : Expr} {ta : TA} {p pos tpos : Pos} {elts : List Expr} {kk : Nat} (hg : Gl X "enumerate") (hm : X.mg "enumerate" = none) (ha : PA X [e] ta) (hs : starEach [e] X.env = [(false, eval e X.env)] := by rfl) :
    PI X (.Tuple elts kk tpos) (.Call (.Name "enumerate" p) [e] [] pos) (iEnumT X.K ta) := by
  refine ⟨fun pins s σ H R I h => ?_⟩
  refine Call_ (ld_blt I hg hm boot_enumerate (PyProof.Rows.callWith_type1 (thn (ha.run pos pins s σ H _ I h) fun us s1 ⟨vs, H1, I1, r1, q1⟩ => ?_) hs rfl))
  obtain ⟨a, xs, ex, hq, q⟩ := q1
  subst ex
  cases r1 with
  | cons r rr =>
    cases rr
    cases r
    obtain ⟨its, rv, p', hz⟩ := I1.tuple hq
    have pt : s1.heap.IsTuple a its.toArray := p'
    have hal : a < s1.heap.objs.size := by obtain ⟨_, q, _⟩ := id pt; exact Heap.lt_size q
    refine call_enumerate_tuple pt fun h' he hit hsz hk => wpAny_pyIter_enum he ?_
    have I2 : Inv X pins σ H1 { s1 with heap := h' } := I1.kept (t' := s1.toks) hk
    refine ⟨s1.heap.objs.size + 1, [s1.heap.objs.size + 1, s1.heap.objs.size], _, _, H1, rfl, I2, turn_enumT a (s1.heap.objs.size + 1) s1.heap.objs.size (Nat.ne_of_lt (Nat.lt_succ_of_lt hal)) (Nat.ne_of_lt hal), ⟨⟨.none, he⟩, hit, Nat.succ_ne_self _⟩, fun b hb => ?_, q⟩
    have e' : b = s1.heap.objs.size + 1 ∨ b = s1.heap.objs.size := by simpa using hb
    have hle : s1.heap.objs.size ≤ b := by
      rcases e' with z | z
      · rw [z]; exact Nat.le_add_right _ _
      · rw [z]; exact Nat.le_refl _
    exact I1.fpOk hle (I1.hok.fresh hle)
theorem pi_or {X : Cx} {tg e : Expr} {a b : TI} (h : PI X tg e a) (h' : PI X tg e b) : PI X tg e (fun σ H R => a σ H R ∨ b σ H R) :=
  ⟨fun pins s σ H R I q => q.elim (fun q => h.run pins s σ H R I q) fun q => h'.run pins s σ H R I q⟩
section
variable {K : PySem.W.Frag} {a : Addr} {xs : List V}
theorem walk_enumT : Walk (IteT K a) xs.length (fun H => SqT K H a xs) (YPair (fun i => some (.int (i : Nat))) (fun i => xs[i]?)) := by
  refine ⟨fun i _ hi q => ⟨xs, xs[i], q, by simp [hi]⟩, fun _ q => ⟨xs, q, Nat.le_refl _⟩, fun i H v H' _ q y => ?_⟩
  obtain ⟨T, x, h1, h2, h3, h4⟩ := y
  exact ⟨T, .int (i : Nat), x, h1, h2, h3, rfl, h4 xs q⟩
end
end L2

set_option maxHeartbeats 4000000
namespace N
open PySem L2
/-- tidied runs: nothing empty, no word twice in a row -/
def tidyS (acc : List Run) (r : Run) : List Run :=
  if 0 < r.2 ∧ 0 < r.1.length then
    match acc.getLast? with
    | some z => if nmS z.1 = nmS r.1 then acc.dropLast ++ [(r.1, z.2 + r.2)] else acc ++ [r]
    | none => acc ++ [r]
  else acc
def tidyR (rs : List Run) : List Run := rs.foldl tidyS []
def WordR (r : Run) : Prop := r.1.length ≤ 240 ∧ ∀ u ∈ r.1, PyData.strOk u.name = true
theorem tidyS_len (acc : List Run) (r : Run) : (tidyS acc r).length ≤ acc.length + 1 := by
  unfold tidyS
  split
  · split
    · rename_i z hz
      split
      · rw [List.length_append, List.length_dropLast]
        simp
      · simp
    · simp
  · omega
theorem tidyS_mem {P : List Row → Prop} {acc : List Run} {r : Run} (h : ∀ x ∈ acc, P x.1 ∧ 0 < x.2) (hr : r.1 ≠ [] → P r.1) : ∀ x ∈ tidyS acc r, P x.1 ∧ 0 < x.2 := by
  unfold tidyS
  split
  · rename_i c
    have pr := hr (List.length_pos_iff.mp c.2)
    split
    · rename_i z hz
      split
      · intro x hx
        rcases List.mem_append.mp hx with hx | hx
        · exact h x ((List.dropLast_sublist _).subset hx)
        · rw [List.mem_singleton.mp hx]
          exact ⟨pr, by show 0 < z.2 + r.2; omega⟩
      · intro x hx
        rcases List.mem_append.mp hx with hx | hx
        · exact h x hx
        · rw [List.mem_singleton.mp hx]
          exact ⟨pr, c.1⟩
    · intro x hx
      rcases List.mem_append.mp hx with hx | hx
      · exact h x hx
      · rw [List.mem_singleton.mp hx]
        exact ⟨pr, c.1⟩
  · exact h
theorem tidy_mem {P : List Row → Prop} : ∀ {rs acc : List Run}, (∀ x ∈ acc, P x.1 ∧ 0 < x.2) → (∀ r ∈ rs, r.1 ≠ [] → P r.1) → ∀ x ∈ rs.foldl tidyS acc, P x.1 ∧ 0 < x.2
  | [], _, h, _ => h
  | r :: rs, acc, h, hr => tidy_mem (rs := rs) (tidyS_mem h (hr r (.head _))) fun x hx => hr x (.tail _ hx)
theorem tidy_len : ∀ (rs acc : List Run), (rs.foldl tidyS acc).length ≤ acc.length + rs.length
  | [], acc => Nat.le_refl _
  | r :: rs, acc => by
    have h1 := tidy_len rs (tidyS acc r)
    have h2 := tidyS_len acc r
    rw [List.foldl_cons, List.length_cons]
    omega
theorem tidy_good {rs : List Run} (h : ∀ r ∈ rs, WordR r) : ∀ x ∈ tidyR rs, GoodR x := fun x hx => by
  have := tidy_mem (P := GoodW) (rs := rs) (acc := []) (fun _ h => nomatch h) (fun r hr ne => ⟨ne, (h r hr).1, (h r hr).2⟩) x hx
  exact this
theorem paired_snoc {α β : Type} {F : α → β → Prop} {vs : List α} {acc : List β} {z : β} (h : Paired F vs (acc ++ [z])) : ∃ vs' v, vs = vs' ++ [v] ∧ Paired F vs' acc ∧ F v z := by
  have r := paired_rev h
  rw [List.reverse_append, List.reverse_singleton, List.singleton_append] at r
  cases e : vs.reverse with
  | nil => rw [e] at r; cases r
  | cons v ws =>
    rw [e] at r
    cases r with
    | cons h1 h2 =>
      refine ⟨ws.reverse, v, ?_, ?_, h1⟩
      · rw [← List.reverse_reverse vs, e, List.reverse_cons]
      · have := paired_rev h2
        rwa [List.reverse_reverse] at this
theorem atI_last {α : Type} (vs : List α) (v : α) : atI (vs ++ [v]) (-1) = some v := by
  unfold atI ixN
  rw [if_neg (by decide), if_pos (by rw [List.length_append, List.length_singleton]; omega)]
  have e : ((-1 : Int) + ((vs ++ [v]).length : Nat)).toNat = vs.length := by
    rw [List.length_append, List.length_singleton]
    omega
  rw [e]
  simp
theorem ixN_last {α : Type} (vs : List α) (v : α) : ixN (vs ++ [v]).length (-1) = some vs.length := by
  unfold ixN
  rw [if_neg (by decide), if_pos (by rw [List.length_append, List.length_singleton]; omega)]
  congr 1
  rw [List.length_append, List.length_singleton]
  omega
theorem set_last {α : Type} (vs : List α) (v u : α) : (vs ++ [v]).set vs.length u = vs ++ [u] := by
  rw [List.set_append_right _ _ (Nat.le_refl _)]
  simp
theorem take_at {α : Type} {l : List α} {i : Nat} {x : α} (h : l[i]? = some x) : l.take (i + 1) = l.take i ++ [x] := by
  rw [List.take_succ, h]
  rfl
/-- a run put behind runs in a list -/
theorem push_run {b : Bool} {H : Hp} {q t l : Addr} {vs vs2 : List V} {acc : List Run} {us : List Row} {n : Nat} (nt : H t = none) (hq : H q = some (.lst vs)) (hp : Paired (RunV b H) vs2 acc) (hl : WdAt b H l (wordV us)) :
    KeepF H (upd (upd H t (.tup [.ref l, .int (n : Nat)])) q (.lst (vs2 ++ [.ref t]))) ∧ Paired (RunV b (upd (upd H t (.tup [.ref l, .int (n : Nat)])) q (.lst (vs2 ++ [.ref t])))) (vs2 ++ [.ref t]) (acc ++ [(us, n)]) := by
  have qt : t ≠ q := (ne_of_none hq nt).symm
  have kf : KeepF H (upd (upd H t (.tup [.ref l, .int (n : Nat)])) q (.lst (vs2 ++ [.ref t]))) := (KeepF.same (Same.new nt)).trans (KeepF.mut ((upd_ne qt.symm).trans hq))
  refine ⟨kf, paired_app (L2.Paired.mapP hp fun _ _ h => h.keep kf) (.cons ⟨t, l, rfl, .inl ?_, hl.keep kf⟩ .nil)⟩
  rw [upd_ne qt, upd_same]
theorem same_push {H H' : Hp} {q t : Addr} {o u : HO} (e : Same H H') (nq : H q = none) (nt : H' t = none) : Same H (upd (upd H' t o) q u) := fun c w h => by
  rw [upd_ne (ne_of_none h nq), upd_ne (ne_of_none (e _ _ h) nt)]
  exact e _ _ h
def spTidy (b : Bool) (K : PySem.W.Frag) : Sp := fun vs H Q _ => ∃ (p : Addr) (xs : List V) (rs : List Run), vs = [.ref p] ∧ (SqL K H p xs ∨ SqT K H p xs) ∧ Paired (RunV b H) xs rs ∧ rs.length ≤ 4000 ∧ (∀ r ∈ rs, WordR r) ∧
  ∀ q ys H', H q = none → RunsS b K H' q ys (tidyR rs) → Same H H' → Q (.ref q) H'
theorem Same.sl {K : PySem.W.Frag} {H H' : Hp} {a : Addr} {xs : List V} (e : Same H H') (h : SqL K H a xs) : SqL K H' a xs := by
  rcases h with (h | ⟨o, h⟩) | h
  · exact .inl (.inl (e _ _ h))
  · exact .inl (.inr ⟨o, e _ _ h⟩)
  · exact .inr h
section
variable {P : Program} {w : World} {K : PySem.W.Frag} {mg : Str → Option Value} {base : Heap}
/-- a walk of a list or of a tuple -/
theorem either_walk {H : Hp} {p : Addr} {xs : List V} (h : SqL K H p xs ∨ SqT K H p xs) : ∃ J G, Walk J xs.length G (YAt xs) ∧ (∀ H', Same H H' → G H') ∧ ∀ (i : Nat) (σ : St) (H1 : Hp) (R : It → Hp → Prop), σ[i]? = some (some (.ref p)) → Same H H1 → R J H1 → (iList K (tVar i) σ H1 R ∨ iTup K (tVar i) σ H1 R) := by
  rcases h with h | h
  · exact ⟨_, _, walk_list (K := K) (a := p), fun H' e => Same.sl e h, fun i σ H1 R hi e r => .inl ⟨_, hi, p, rfl, ⟨_, Same.sl e h⟩, r⟩⟩
  · exact ⟨_, _, walk_tup (K := K) (a := p), fun H' e => e.st h, fun i σ H1 R hi e r => .inr ⟨_, hi, p, rfl, ⟨_, e.st h⟩, r⟩⟩
abbrev s_tidy : Stmt := top 42
theorem sc_tidy : FnScope ["parts", "runs", "word", "number"] ["parts"] (defScope s_tidy) := ⟨rfl, rfl, rfl, by decide +kernel, rfl, by decide +kernel, by decide +kernel⟩
theorem h_tidy (b : Bool) (B : Blts mg) (F : FunAt K mg "tidy" "tidy" s_tidy) : Has P w K mg base "tidy" 1 ["parts"] (spTidy b K) := by
  refine has_of F sc_tidy (fun _ _ _ _ _ _ us hl => match us, hl with | [_], _ => rfl) (fun vs H Q E h => ?_) (fun f cdv A outer s H vs Q E hr h => ?_)
  · obtain ⟨_, _, _, rfl, _⟩ := h
    rfl
  · obtain ⟨p, xs, rs, rfl, hx, hp, h400, wd, k⟩ := h
    refine ⟨_, (pss_cons (ps_set (i := 1) sc_tidy.nd rfl (Or.inl rfl) (pe_lst pa_nil))
      (pss_cons (ps_for PassesOwn.never rfl (pi_or (pi_list (pv 0)) (pi_tup (pv 0))) (pg_tup rfl (pgs_cons (pg_name (i := 2) sc_tidy.nd rfl (Or.inl rfl)) (pgs_cons (pg_name (i := 3) sc_tidy.nd rfl (Or.inl rfl)) pgs_nil)))
        (pss_one (ps_if (PW.pt (pw_and (pt_cmpR op_gt (pv 3) pe_int (by first | exact nomark _ | rfl)) (pw_and1 (pt_cmpR op_gt (pe_callB call_len (by rfl) B.n_len PySem.boot_len (pa_cons (pv 2) pa_nil)) pe_int (by first | exact nomark _ | rfl))))) (pss_one (ps_if (PW.pt (pw_and (pt_truth (pv 1) (by intro _; rfl)) (pw_and1 (pt_cmpR (op_eqD hr.units) (pe_ix ix_tup (pe_ix ix_list (pv 1) (pe_un un_neg pe_int) (fun _ _ => rfl)) pe_int (fun _ _ => rfl)) (pv 2) (by first | exact nomark _ | rfl))))) (pss_one (ps_asg (pe_tup (pa_cons (pv 2) (pa_cons (pe_op op_add (pe_ix ix_tup (pe_ix ix_list (pv 1) (pe_un un_neg pe_int) (fun _ _ => rfl)) pe_int (fun _ _ => rfl)) (pv 3)) pa_nil))) (pg_sub (pv 1) (pe_un un_neg pe_int) set_list (fun _ => rfl))))
            (pss_one (ps_expr (pe_bm PySem.F.plainAttrs_list PySem.F.slot_list_append PySem.F.type_list_append mt_append (pv 1) (pa_cons (pe_tup (pa_cons (pe_callTy call_tuple_of (by rfl) B.n_tuple (by decide +kernel) (pa_cons (pv 2) pa_nil)) (pa_cons (pv 3) pa_nil))) pa_nil))))))
          pss_nil)))
      (pss_one (ps_ret (pe_callTy call_tuple_of (by rfl) B.n_tuple (by decide +kernel) (pa_cons (pv 1) pa_nil)))))), ?_⟩
    have len := paired_len hp
    obtain ⟨J, G, wk, hG, rd⟩ := either_walk (K := K) hx
    refine ⟨by decide, fun q nq => ?_⟩
    refine next_of ?_
    dsimp only
    refine rd 0 _ _ _ rfl (Same.new nq) (for_it wk (fun i σ H' => ∃ (vs : List V) (v2 v3 : Option V), σ = [some (.ref p), some (.ref q), v2, v3] ∧ Same H H' ∧ H' q = some (.lst vs) ∧ Paired (RunV b H') vs (tidyR (rs.take i)) ∧ vs.length ≤ i) ⟨[], none, none, rfl, Same.new nq, upd_same, .nil, Nat.le_refl _⟩ (fun i σ H' _ h => ?_) (fun i x σ H1 H' hi h y => ?_) (fun σ H' h => ?_))
    · obtain ⟨_, _, _, _, e, _⟩ := h
      exact hG _ e
    · obtain ⟨vs, v2, v3, rfl, e, hq, hvs, lv⟩ := h
      obtain ⟨rfl, hx'⟩ := y
      obtain ⟨r, hr', a, l, rfl, h1, h2⟩ := paired_get hp hx'
      have wr := wd r (List.mem_of_getElem? hr')
      have ht : tidyR (rs.take (i + 1)) = tidyS (tidyR (rs.take i)) r := by
        unfold tidyR
        rw [take_at hr', List.foldl_append]
        rfl
      have h2' := h2.keep (KeepF.same e)
      refine ⟨a, _, rfl, (h1.same e).st, rfl, _, _, rfl, _, _, rfl, rfl, ?_⟩
      refine ⟨_, rfl, _, _, rfl, rfl, _, rfl, ite2 (fun c => ?_) (fun c => ?_)⟩
      · have c1 : 0 < r.2 := by
          have := of_decide_eq_true c
          omega
        refine ⟨_, rfl, _, r.1.length, rfl, .inr ⟨_, h2'.at.st, (wordV_len _).symm⟩, _, _, rfl, rfl, _, rfl, ite2 (fun c => ?_) (fun c => ?_)⟩
        · have c2 : 0 < r.1.length := by
            have := of_decide_eq_true c
            omega
          refine ⟨_, rfl, _, .inl ⟨vs, SqL.of hq, rfl⟩, ite2 (fun d => ?_) (fun d => ?_)⟩
          · have ne : tidyR (rs.take i) ≠ [] := fun z => by
              rw [z] at hvs
              cases hvs
              cases d
            obtain ⟨acc, z, ea⟩ : ∃ acc z, tidyR (rs.take i) = acc ++ [z] := ⟨_, _, (List.dropLast_concat_getLast ne).symm⟩
            rw [ea] at hvs ht
            obtain ⟨vs', v, rfl, hvs', az, lz, rfl, z1, z2⟩ := paired_snoc hvs
            have okz : ∀ u ∈ z.1, PyData.strOk u.name = true := by
              have mz := tidy_mem (P := GoodW) (rs := rs.take i) (acc := []) (fun _ h => nomatch h) (fun r hr ne => ⟨ne, (wd r (List.mem_of_mem_take hr)).1, (wd r (List.mem_of_mem_take hr)).2⟩) z (by
                show z ∈ tidyR (rs.take i)
                rw [ea]
                simp)
              exact mz.1.2.2
            refine ⟨_, rfl, 1, rfl, q, _, -1, .ref az, rfl, rfl, SqL.of hq, atI_last _ _, az, _, 0, .ref lz, rfl, rfl, z1.st, rfl, _, rfl, _, _, dp_word z2.at.st, dp_word h2'.at.st, shaped_strsT (nmS_ok okz), shaped_strsT (nmS_ok wr.2), _, rfl, ?_⟩
            rw [eqv_strsT]
            refine ite2 (fun f => ?_) (fun f => ?_)
            · have same : nmS z.1 = nmS r.1 := of_decide_eq_true f
              refine ⟨_, rfl, _, rfl, 1, rfl, q, _, -1, .ref az, rfl, rfl, SqL.of hq, atI_last _ _, az, _, 1, .int (z.2 : Nat), rfl, rfl, z1.st, rfl, _, rfl, _, _, rfl, rfl, (by show 2 ≤ sizeLine; decide), fun t nt => ?_⟩
              have qt : t ≠ q := (ne_of_none hq nt).symm
              obtain ⟨kf, pr⟩ := push_run (us := r.1) (n := z.2 + r.2) nt hq hvs' h2'
              refine ⟨_, rfl, 1, rfl, q, _, -1, vs'.length, rfl, rfl, (upd_ne qt.symm).trans hq, ixN_last _ _, ?_⟩
              rw [set_last]
              refine next_of ?_
              dsimp only
              refine ⟨_, _, _, rfl, same_push e nq nt, upd_same, ?_, by rw [List.length_append, List.length_singleton] at lv ⊢; omega⟩
              rw [ht]
              have et : tidyS (acc ++ [z]) r = acc ++ [(r.1, z.2 + r.2)] := by
                unfold tidyS
                rw [if_pos ⟨c1, c2⟩, List.getLast?_concat]
                simp only
                rw [if_pos same, List.dropLast_concat]
              rw [et]
              exact pr
            · have other : ¬ nmS z.1 = nmS r.1 := fun y => f (decide_eq_true y)
              have et : tidyS (acc ++ [z]) r = acc ++ [z] ++ [r] := by
                unfold tidyS
                rw [if_pos ⟨c1, c2⟩, List.getLast?_concat]
                simp only
                rw [if_neg other]
              refine ⟨_, rfl, .inl ⟨rfl, _, SqL.of hq⟩, _, rfl, l, _, rfl, .inr ⟨h2'.at.st, _, rfl, (by show 2 ≤ sizeLine; decide), fun t nt => ?_⟩⟩
              have qt : t ≠ q := (ne_of_none hq nt).symm
              obtain ⟨kf, pr⟩ := push_run (us := r.1) (n := r.2) nt hq hvs h2'
              refine ⟨q, vs' ++ [.ref az], .ref t, rfl, rfl, (upd_ne qt.symm).trans hq, Nat.lt_of_lt_of_le (by omega : (vs' ++ [V.ref az]).length < 1000000) (by decide), ?_⟩
              refine next_of ?_
              dsimp only
              refine ⟨_, _, _, rfl, same_push e nq nt, upd_same, ?_, by rw [List.length_append, List.length_singleton]; omega⟩
              rw [ht]
              rw [et]
              exact pr
          · have vn : vs = [] := by
              cases vs with
              | nil => rfl
              | cons _ _ => exact absurd rfl d
            have an : tidyR (rs.take i) = [] := by
              subst vn
              generalize tidyR (rs.take i) = T at hvs
              cases hvs
              rfl
            have et : tidyS (tidyR (rs.take i)) r = tidyR (rs.take i) ++ [r] := by
              rw [an]
              unfold tidyS
              rw [if_pos ⟨c1, c2⟩]
              rfl
            refine iteF ?_
            refine ⟨_, rfl, .inl ⟨rfl, _, SqL.of hq⟩, _, rfl, l, _, rfl, .inr ⟨h2'.at.st, _, rfl, (by show 2 ≤ sizeLine; decide), fun t nt => ?_⟩⟩
            have qt : t ≠ q := (ne_of_none hq nt).symm
            obtain ⟨kf, pr⟩ := push_run (us := r.1) (n := r.2) nt hq hvs h2'
            refine ⟨q, vs, .ref t, rfl, rfl, (upd_ne qt.symm).trans hq, Nat.lt_of_lt_of_le (by omega : vs.length < 1000000) (by decide), ?_⟩
            refine next_of ?_
            dsimp only
            refine ⟨_, _, _, rfl, same_push e nq nt, upd_same, ?_, by rw [List.length_append, List.length_singleton]; omega⟩
            rw [ht]
            rw [et]
            exact pr
        · have c2 : ¬ 0 < r.1.length := fun z => c (decide_eq_true (by omega))
          have et : tidyS (tidyR (rs.take i)) r = tidyR (rs.take i) := by
            unfold tidyS
            rw [if_neg fun z => c2 z.2]
          refine ⟨_, _, _, rfl, e, hq, ?_, by omega⟩
          rw [ht, et]
          exact hvs
      · have c1 : ¬ 0 < r.2 := fun z => c (decide_eq_true (by omega))
        have et : tidyS (tidyR (rs.take i)) r = tidyR (rs.take i) := by
          unfold tidyS
          rw [if_neg fun z => c1 z.1]
        refine iteF ?_
        refine ⟨_, _, _, rfl, e, hq, ?_, by omega⟩
        rw [ht, et]
        exact hvs
    · obtain ⟨vs, v2, v3, rfl, e, hq, hvs, lv⟩ := h
      rw [List.take_of_length_le (by omega)] at hvs
      refine ⟨_, rfl, q, vs, rfl, .inl ⟨SqL.of hq, fun t nt => ?_⟩⟩
      have nt0 : H t = none := by
        cases z : H t with
        | none => rfl
        | some o => rw [e _ _ z] at nt; cases nt
      exact k t vs _ nt0 ⟨SqT.of upd_same, L2.Paired.mapP hvs fun _ _ h => h.same (Same.new nt)⟩ (e.trans (Same.new nt))
end
end N

set_option maxHeartbeats 4000000
namespace N
open PySem L2
/-- what is left of two runs, the shorter of it -/
def leR (r o : Run) (used spent : Nat) : Nat := min (rlen r - used) (rlen o - spent)
/-- the place at which two lists of runs first differ -/
def upR : Nat → List Run → List Run → Nat → Nat → Nat → Option Nat
  | 0, rs, os, place, _, _ => if rs = [] ∧ os = [] then none else some place
  | f + 1, r :: rs, o :: os, place, used, spent =>
    match uwR r.1 used o.1 spent (leR r o used spent) with
    | some u => some (place + u)
    | none => upR f (if rlen r - used = leR r o used spent then rs else r :: rs) (if rlen o - spent = leR r o used spent then os else o :: os) (place + leR r o used spent)
        (if rlen r - used = leR r o used spent then 0 else used + leR r o used spent) (if rlen o - spent = leR r o used spent then 0 else spent + leR r o used spent)
  | _ + 1, rs, os, place, _, _ => if rs = [] ∧ os = [] then none else some place
theorem upR_end {f : Nat} {rs os : List Run} {place used spent : Nat} (h : rs = [] ∨ os = []) : upR f rs os place used spent = if rs = [] ∧ os = [] then none else some place := by
  rcases h with rfl | rfl
  · cases f <;> rfl
  · cases f <;> cases rs <;> rfl
def unR (rs os : List Run) : Option Nat := upR (rs.length + os.length) rs os 0 0 0
theorem uwR_same (a : List Row) (i many : Nat) : uwR a i a i many = none := find_all fun _ _ => by simp
theorem upR_same : ∀ {rs : List Run} {f place : Nat}, rs.length ≤ f → upR f rs rs place 0 0 = none
  | [], f, place, _ => by rw [upR_end (.inl rfl), if_pos ⟨rfl, rfl⟩]
  | r :: rs, 0, place, h => absurd h (Nat.not_succ_le_zero _)
  | r :: rs, f + 1, place, h => by
    have e : leR r r 0 0 = rlen r := by unfold leR; omega
    show (match uwR r.1 0 r.1 0 (leR r r 0 0) with
      | some u => some (place + u)
      | none => upR f (if rlen r - 0 = leR r r 0 0 then rs else r :: rs) (if rlen r - 0 = leR r r 0 0 then rs else r :: rs) (place + leR r r 0 0)
        (if rlen r - 0 = leR r r 0 0 then 0 else 0 + leR r r 0 0) (if rlen r - 0 = leR r r 0 0 then 0 else 0 + leR r r 0 0)) = none
    rw [uwR_same, e, Nat.sub_zero, if_pos rfl, if_pos rfl]
    exact upR_same (by rw [List.length_cons] at h; omega)
theorem unR_same (rs : List Run) : unR rs rs = none := upR_same (by omega)
def spUnlike (K : PySem.W.Frag) : Sp := fun vs H Q _ => ∃ (p p2 : Addr) (xs ys : List V) (rs os : List Run), vs = [.ref p, .ref p2] ∧ RunsS false K H p xs rs ∧ RunsS false K H p2 ys os ∧ rs.length ≤ 4000 ∧ os.length ≤ 4000 ∧ (∀ r ∈ rs, GoodR r) ∧ (∀ r ∈ os, GoodR r) ∧
  ∀ H', Same H H' → Q (opI (unR rs os)) H'
def spSame (K : PySem.W.Frag) : Sp := fun vs H Q _ => ∃ (p p2 : Addr) (xs ys : List V) (rs os : List Run), vs = [.ref p, .ref p2] ∧ RunsS false K H p xs rs ∧ RunsS false K H p2 ys os ∧ rs.length ≤ 4000 ∧ os.length ≤ 4000 ∧ (∀ r ∈ rs, GoodR r) ∧ (∀ r ∈ os, GoodR r) ∧
  ∀ H', Same H H' → Q (.bl (decide (unR rs os = none))) H'
theorem drop_at {α : Type} {l : List α} {i : Nat} {x : α} (h : l[i]? = some x) : l.drop i = x :: l.drop (i + 1) := by
  obtain ⟨hi, e⟩ := List.getElem?_eq_some_iff.mp h
  rw [List.drop_eq_getElem_cons hi, e]
theorem paired_at {α β : Type} {F : α → β → Prop} {l : List α} {m : List β} {i : Nat} (h : Paired F l m) (hi : i < l.length) : ∃ a b, l[i]? = some a ∧ m[i]? = some b ∧ F a b := by
  have e := List.getElem?_eq_getElem hi
  obtain ⟨b, hb, f⟩ := paired_get h e
  exact ⟨_, b, e, hb, f⟩
theorem opI_non (o : Option Nat) : decide (opI o = V.non) = decide (o = none) := by
  cases o <;> simp [opI]
section
variable {P : Program} {w : World} {K : PySem.W.Frag} {mg : Str → Option Value} {base : Heap}
abbrev s_unlike_place : Stmt := top 46
theorem sc_unlike_place : FnScope ["runs", "others", "place", "at", "used", "where", "spent", "word", "number", "other", "times", "left", "remaining", "both", "unlike"] ["runs", "others"] (defScope s_unlike_place) := ⟨rfl, rfl, rfl, by decide +kernel, rfl, by decide +kernel, by decide +kernel⟩
theorem h_unlike_place (B : Blts mg) (F : FunAt K mg "unlike_place" "unlike_place" s_unlike_place) (h_unlike_within : Has P w K mg base "_unlike_within" 2 ["word", "used", "other", "spent", "many"] spWithin) : Has P w K mg base "unlike_place" 3 ["runs", "others"] (spUnlike K) := by
  refine has_of F sc_unlike_place (fun _ _ _ _ _ _ us hl => match us, hl with | [_, _], _ => rfl) (fun vs H Q E h => ?_) (fun f cdv A outer s H vs Q E hr h => ?_)
  · obtain ⟨_, _, _, _, _, _, rfl, _⟩ := h
    rfl
  · obtain ⟨p, p2, xs, ys, rs, os, rfl, hR, hS, h1, h2, g1, g2, k⟩ := h
    refine ⟨_, (pss_cons (ps_set (i := 2) sc_unlike_place.nd rfl (Or.inl rfl) pe_int)
      (pss_cons (ps_asg2 pe_int (pg_name (i := 3) sc_unlike_place.nd rfl (Or.inl rfl)) (pg_name (i := 4) sc_unlike_place.nd rfl (Or.inl rfl)))
      (pss_cons (ps_asg2 pe_int (pg_name (i := 5) sc_unlike_place.nd rfl (Or.inl rfl)) (pg_name (i := 6) sc_unlike_place.nd rfl (Or.inl rfl)))
      (pss_cons (ps_while PassesOwn.never (PW.pt (pw_and (pt_cmpR op_lt (pv 3) (pe_callB call_len (by rfl) B.n_len PySem.boot_len (pa_cons (pv 0) pa_nil)) (by first | exact nomark _ | rfl)) (pw_and1 (pt_cmpR op_lt (pv 5) (pe_callB call_len (by rfl) B.n_len PySem.boot_len (pa_cons (pv 1) pa_nil)) (by first | exact nomark _ | rfl)))))
        (pss_cons (ps_asg (pe_ix ix_tup (pv 0) (pv 3) (fun _ _ => rfl)) (pg_tup rfl (pgs_cons (pg_name (i := 7) sc_unlike_place.nd rfl (Or.inl rfl)) (pgs_cons (pg_name (i := 8) sc_unlike_place.nd rfl (Or.inl rfl)) pgs_nil))))
        (pss_cons (ps_asg (pe_ix ix_tup (pv 1) (pv 5) (fun _ _ => rfl)) (pg_tup rfl (pgs_cons (pg_name (i := 9) sc_unlike_place.nd rfl (Or.inl rfl)) (pgs_cons (pg_name (i := 10) sc_unlike_place.nd rfl (Or.inl rfl)) pgs_nil))))
        (pss_cons (ps_set (i := 11) sc_unlike_place.nd rfl (Or.inl rfl) (pe_op op_sub (pe_op op_mul (pe_callB call_len (by rfl) B.n_len PySem.boot_len (pa_cons (pv 7) pa_nil)) (pv 8)) (pv 4)))
        (pss_cons (ps_set (i := 12) sc_unlike_place.nd rfl (Or.inl rfl) (pe_op op_sub (pe_op op_mul (pe_callB call_len (by rfl) B.n_len PySem.boot_len (pa_cons (pv 9) pa_nil)) (pv 10)) (pv 6)))
        (pss_cons (ps_set (i := 13) sc_unlike_place.nd rfl (Or.inl rfl) (pe_callB (call_min2 rfl) (by rfl) B.n_min (by decide +kernel) (pa_cons (pv 11) (pa_cons (pv 12) pa_nil))))
        (pss_cons (ps_set (i := 14) sc_unlike_place.nd rfl (Or.inl rfl) (pe_has h_unlike_within (hr.mono (by decide)) (pa_cons (pv 7) (pa_cons (pv 4) (pa_cons (pv 9) (pa_cons (pv 6) (pa_cons (pv 13) pa_nil)))))))
        (pss_cons (ps_if (pt_cmpR op_notN (pv 14) pe_non (by first | exact nomark _ | rfl)) (pss_one (ps_ret (pe_op op_add (pv 2) (pv 14))))
          pss_nil)
        (pss_cons (ps_set (i := 2) sc_unlike_place.nd rfl (Or.inl rfl) (pe_op op_add (pv 2) (pv 13)))
        (pss_cons (ps_set (i := 4) sc_unlike_place.nd rfl (Or.inl rfl) (pe_op op_add (pv 4) (pv 13)))
        (pss_cons (ps_set (i := 6) sc_unlike_place.nd rfl (Or.inl rfl) (pe_op op_add (pv 6) (pv 13)))
        (pss_cons (ps_if (pt_cmpR op_eq (pv 11) (pv 13) (by first | exact nomark _ | rfl)) (pss_cons (ps_set (i := 3) sc_unlike_place.nd rfl (Or.inl rfl) (pe_op op_add (pv 3) pe_int))
          (pss_one (ps_set (i := 4) sc_unlike_place.nd rfl (Or.inl rfl) pe_int)))
          pss_nil)
        (pss_one (ps_if (pt_cmpR op_eq (pv 12) (pv 13) (by first | exact nomark _ | rfl)) (pss_cons (ps_set (i := 5) sc_unlike_place.nd rfl (Or.inl rfl) (pe_op op_add (pv 5) pe_int))
          (pss_one (ps_set (i := 6) sc_unlike_place.nd rfl (Or.inl rfl) pe_int)))
          pss_nil))))))))))))))
      (pss_cons (ps_if (PW.pt (pw_and (pt_cmpR op_eq (pv 3) (pe_callB call_len (by rfl) B.n_len PySem.boot_len (pa_cons (pv 0) pa_nil)) (by first | exact nomark _ | rfl)) (pw_and1 (pt_cmpR op_eq (pv 5) (pe_callB call_len (by rfl) B.n_len PySem.boot_len (pa_cons (pv 1) pa_nil)) (by first | exact nomark _ | rfl))))) (pss_one (ps_ret pe_non))
        pss_nil)
      (pss_one (ps_ret (pv 2)))))))), ?_⟩
    have len1 := paired_len hR.2
    have len2 := paired_len hS.2
    refine next_of ?_
    dsimp only
    refine next_of ?_
    dsimp only
    refine next_of ?_
    dsimp only
    refine seq_cut (fun σ H' => ∃ (at_ place used wh spent : Nat) (w7 w8 w9 w10 w11 w12 w13 w14 : Option V) (f : Nat), σ = [some (.ref p), some (.ref p2), some (.int (place : Nat)), some (.int (at_ : Nat)), some (.int (used : Nat)), some (.int (wh : Nat)), some (.int (spent : Nat)), w7, w8, w9, w10, w11, w12, w13, w14] ∧
      Same H H' ∧ at_ ≤ rs.length ∧ wh ≤ os.length ∧ (at_ = rs.length ∨ wh = os.length) ∧ upR f (rs.drop at_) (os.drop wh) place used spent = unR rs os) (fun Z hZ => ?_) (fun σ H' h => ?_)
    · refine ⟨fun m σ H' => ∃ (at_ place used wh spent : Nat) (w7 w8 w9 w10 w11 w12 w13 w14 : Option V) (f : Nat), σ = [some (.ref p), some (.ref p2), some (.int (place : Nat)), some (.int (at_ : Nat)), some (.int (used : Nat)), some (.int (wh : Nat)), some (.int (spent : Nat)), w7, w8, w9, w10, w11, w12, w13, w14] ∧
        Same H H' ∧ at_ ≤ rs.length ∧ wh ≤ os.length ∧ m = (rs.length - at_) + (os.length - wh) ∧ m ≤ f ∧ (∀ r, rs[at_]? = some r → used < rlen r) ∧ (∀ o, os[wh]? = some o → spent < rlen o) ∧ upR f (rs.drop at_) (os.drop wh) place used spent = unR rs os, ⟨_, 0, 0, 0, 0, 0, none, none, none, none, none, none, none, none, rs.length + os.length, rfl, Same.refl _, Nat.zero_le _, Nat.zero_le _, rfl, by omega, fun r hr => (g1 r (List.mem_of_getElem? hr)).pos, fun r hr => (g2 r (List.mem_of_getElem? hr)).pos, rfl⟩, ?_⟩
      rintro m σ H' ⟨at_, place, used, wh, spent, w7, w8, w9, w10, w11, w12, w13, w14, f, rfl, e, la, lw, em, mf, hu, hs, val⟩
      refine ⟨_, rfl, _, rfl, _, xs.length, rfl, .inr ⟨_, e.st hR.1, rfl⟩, _, _, rfl, rfl, _, rfl, ite2 (fun c => ?_) (fun c => ?_)⟩
      · have c1 : at_ < xs.length := by
          have := of_decide_eq_true c
          omega
        refine ⟨_, rfl, _, rfl, _, ys.length, rfl, .inr ⟨_, e.st hS.1, rfl⟩, _, _, rfl, rfl, _, rfl, ite2 (fun d => ?_) (fun d => ?_)⟩
        · have d1 : wh < ys.length := by
            have := of_decide_eq_true d
            omega
          refine ⟨fun σ' H'' => ∃ m', m' < m ∧ ∃ (at_ place used wh spent : Nat) (w7 w8 w9 w10 w11 w12 w13 w14 : Option V) (f : Nat), σ' = [some (.ref p), some (.ref p2), some (.int (place : Nat)), some (.int (at_ : Nat)), some (.int (used : Nat)), some (.int (wh : Nat)), some (.int (spent : Nat)), w7, w8, w9, w10, w11, w12, w13, w14] ∧
            Same H H'' ∧ at_ ≤ rs.length ∧ wh ≤ os.length ∧ m' = (rs.length - at_) + (os.length - wh) ∧ m' ≤ f ∧ (∀ r, rs[at_]? = some r → used < rlen r) ∧ (∀ o, os[wh]? = some o → spent < rlen o) ∧ upR f (rs.drop at_) (os.drop wh) place used spent = unR rs os, fun _ _ h => h, ?_⟩
          obtain ⟨x, r, hx, hr', A1, L1, rfl, p1, q1⟩ := paired_at hR.2 c1
          obtain ⟨y, o, hy, ho', A2, L2', rfl, p2', q2⟩ := paired_at hS.2 d1
          have u1 := hu r hr'
          have u2 := hs o ho'
          have gr := g1 r (List.mem_of_getElem? hr')
          have go := g2 o (List.mem_of_getElem? ho')
          have el1 : ((r.1.length : Nat) : Int) * (r.2 : Nat) - (used : Nat) = ((rlen r - used : Nat) : Int) := by
            rw [show ((r.1.length : Nat) : Int) * (r.2 : Nat) = ((rlen r : Nat) : Int) by rw [rlen, Int.natCast_mul]]
            omega
          have el2 : ((o.1.length : Nat) : Int) * (o.2 : Nat) - (spent : Nat) = ((rlen o - spent : Nat) : Int) := by
            rw [show ((o.1.length : Nat) : Int) * (o.2 : Nat) = ((rlen o : Nat) : Int) by rw [rlen, Int.natCast_mul]]
            omega
          have em : (if ((rlen o - spent : Nat) : Int) < ((rlen r - used : Nat) : Int) then ((rlen o - spent : Nat) : Int) else ((rlen r - used : Nat) : Int)) = ((leR r o used spent : Nat) : Int) := by
            unfold leR
            split <;> omega
          have lb : leR r o used spent ≤ rlen r - used ∧ leR r o used spent ≤ rlen o - spent ∧ (leR r o used spent = rlen r - used ∨ leR r o used spent = rlen o - spent) := by
            unfold leR
            omega
          obtain ⟨lb1, lb2, lb3⟩ := lb
          rw [drop_at hr', drop_at ho'] at val
          obtain ⟨f', rfl⟩ : ∃ f', f = f' + 1 := ⟨f - 1, by omega⟩
          unfold upR at val
          generalize leR r o used spent = B1 at *
          refine ⟨_, rfl, _, rfl, p, _, _, _, rfl, rfl, e.st hR.1, atI_nat hx, A1, _, rfl, (p1.same e).st, rfl, _, _, rfl, _, _, rfl, rfl, ?_⟩
          refine next_of ?_
          dsimp only
          refine ⟨_, rfl, _, rfl, p2, _, _, _, rfl, rfl, e.st hS.1, atI_nat hy, A2, _, rfl, (p2'.same e).st, rfl, _, _, rfl, _, _, rfl, rfl, ?_⟩
          refine next_of ?_
          dsimp only
          refine ⟨_, rfl, _, r.1.length, rfl, .inr ⟨_, (q1.at.same e).st, (wordV_len _).symm⟩, _, rfl, _, _, rfl, rfl, mul_ok _ _ (by have := gr.1.2.1; omega), _, rfl, _, _, rfl, rfl, ?_⟩
          refine next_of ?_
          dsimp only
          rw [el1]
          refine ⟨_, rfl, _, o.1.length, rfl, .inr ⟨_, (q2.at.same e).st, (wordV_len _).symm⟩, _, rfl, _, _, rfl, rfl, mul_ok _ _ (by have := go.1.2.1; omega), _, rfl, _, _, rfl, rfl, ?_⟩
          refine next_of ?_
          dsimp only
          rw [el2]
          refine ⟨_, rfl, _, rfl, _, _, rfl, ?_⟩
          refine next_of ?_
          dsimp only
          rw [em]
          refine ⟨_, rfl, _, rfl, _, rfl, _, rfl, _, rfl, L1, L2', r.1, o.1, used, spent, B1, rfl, q1.at.same e, q2.at.same e, gr.1, go.1, fun H2 s2 => ?_⟩
          refine next_of ?_
          dsimp only
          have e2 := e.trans s2
          refine ⟨_, rfl, rfl, _, rfl, ?_⟩
          cases hu' : uwR r.1 used o.1 spent B1 with
          | some u =>
            rw [hu'] at val
            refine iteT ?_
            have q := k H2 e2
            rw [← val] at q
            exact ⟨_, rfl, _, rfl, _, _, rfl, rfl, q⟩
          | none =>
            rw [hu'] at val
            refine iteF ?_
            refine next_of ?_
            dsimp only
            refine ⟨_, rfl, _, rfl, _, _, rfl, rfl, ?_⟩
            refine next_of ?_
            dsimp only
            refine ⟨_, rfl, _, rfl, _, _, rfl, rfl, ?_⟩
            refine next_of ?_
            dsimp only
            refine ⟨_, rfl, _, rfl, _, _, rfl, rfl, ?_⟩
            refine next_of ?_
            dsimp only
            refine ⟨_, rfl, _, rfl, rfl, _, rfl, ite2 (fun c => ?_) (fun c => ?_)⟩
            · have c2 : rlen r - used = B1 := by
                simp at c
                omega
              refine ⟨_, rfl, _, _, rfl, rfl, ?_⟩
              refine next_of ?_
              dsimp only
              refine next_of ?_
              dsimp only
              refine ⟨_, rfl, _, rfl, rfl, _, rfl, ite2 (fun d => ?_) (fun d => ?_)⟩
              · have d2 : rlen o - spent = B1 := by
                  simp at d
                  omega
                refine ⟨_, rfl, _, _, rfl, rfl, ?_⟩
                refine next_of ?_
                dsimp only
                refine next_of ?_
                dsimp only
                simp only [if_pos c2, if_pos d2] at val
                refine ⟨(rs.length - (at_ + 1)) + (os.length - (wh + 1)), by omega, at_ + 1, place + B1, 0, wh + 1, 0, _, _, _, _, _, _, _, _, f', rfl, e2, by omega, by omega, rfl, by omega, fun r' hr'' => (g1 r' (List.mem_of_getElem? hr'')).pos, fun o' ho'' => (g2 o' (List.mem_of_getElem? ho'')).pos, ?_⟩
                exact val
              · have d2 : ¬ rlen o - spent = B1 := fun z => d (by simp; omega)
                simp only [if_pos c2, if_neg d2] at val
                refine ⟨(rs.length - (at_ + 1)) + (os.length - (wh)), by omega, at_ + 1, place + B1, 0, wh, spent + B1, _, _, _, _, _, _, _, _, f', rfl, e2, by omega, by omega, rfl, by omega, fun r' hr'' => (g1 r' (List.mem_of_getElem? hr'')).pos, fun o' ho'' => by
                  rw [ho'] at ho''
                  cases ho''
                  omega, ?_⟩
                rw [drop_at ho']
                exact val
            · have c2 : ¬ rlen r - used = B1 := fun z => c (by simp; omega)
              refine next_of ?_
              dsimp only
              refine ⟨_, rfl, _, rfl, rfl, _, rfl, ite2 (fun d => ?_) (fun d => ?_)⟩
              · have d2 : rlen o - spent = B1 := by
                  simp at d
                  omega
                refine ⟨_, rfl, _, _, rfl, rfl, ?_⟩
                refine next_of ?_
                dsimp only
                refine next_of ?_
                dsimp only
                simp only [if_neg c2, if_pos d2] at val
                refine ⟨(rs.length - (at_)) + (os.length - (wh + 1)), by omega, at_, place + B1, used + B1, wh + 1, 0, _, _, _, _, _, _, _, _, f', rfl, e2, by omega, by omega, rfl, by omega, fun r' hr'' => by
                  rw [hr'] at hr''
                  cases hr''
                  omega, fun o' ho'' => (g2 o' (List.mem_of_getElem? ho'')).pos, ?_⟩
                rw [drop_at hr']
                exact val
              · have d2 : ¬ rlen o - spent = B1 := fun z => d (by simp; omega)
                simp only [if_neg c2, if_neg d2] at val
                refine ⟨(rs.length - (at_)) + (os.length - (wh)), by omega, at_, place + B1, used + B1, wh, spent + B1, _, _, _, _, _, _, _, _, f', rfl, e2, by omega, by omega, rfl, by omega, fun r' hr'' => by
                  rw [hr'] at hr''
                  cases hr''
                  omega, fun o' ho'' => by
                  rw [ho'] at ho''
                  cases ho''
                  omega, ?_⟩
                rw [drop_at hr']
                rw [drop_at ho']
                exact val
        · have d1 : ¬ wh < ys.length := fun z => d (decide_eq_true (by omega))
          exact hZ _ _ ⟨at_, place, used, wh, spent, _, _, _, _, _, _, _, _, f, rfl, e, la, lw, .inr (by omega), val⟩
      · have c1 : ¬ at_ < xs.length := fun z => c (decide_eq_true (by omega))
        refine iteF ?_
        exact hZ _ _ ⟨at_, place, used, wh, spent, _, _, _, _, _, _, _, _, f, rfl, e, la, lw, .inl (by omega), val⟩
    · obtain ⟨at_, place, used, wh, spent, w7, w8, w9, w10, w11, w12, w13, w14, f, rfl, e, la, lw, en, val⟩ := h
      rw [upR_end (by
        rcases en with z | z
        · exact .inl (List.drop_of_length_le (by omega))
        · exact .inr (List.drop_of_length_le (by omega)))] at val
      refine ⟨_, rfl, _, rfl, _, xs.length, rfl, .inr ⟨_, e.st hR.1, rfl⟩, rfl, _, rfl, ite2 (fun c => ?_) (fun c => ?_)⟩
      · have c1 : at_ = rs.length := by
          simp at c
          omega
        refine ⟨_, rfl, _, rfl, _, ys.length, rfl, .inr ⟨_, e.st hS.1, rfl⟩, rfl, _, rfl, ite2 (fun d => ?_) (fun d => ?_)⟩
        · have d1 : wh = os.length := by
            simp at d
            omega
          rw [if_pos ⟨List.drop_of_length_le (by omega), List.drop_of_length_le (by omega)⟩] at val
          have q := k H' e
          rw [← val] at q
          exact q
        · have d1 : ¬ wh = os.length := fun z => d (by simp; omega)
          rw [if_neg (fun z => by have := List.drop_eq_nil_iff.mp z.2; omega)] at val
          have q := k H' e
          rw [← val] at q
          exact ⟨_, rfl, q⟩
      · have c1 : ¬ at_ = rs.length := fun z => c (by simp; omega)
        rw [if_neg (fun z => by have := List.drop_eq_nil_iff.mp z.1; omega)] at val
        have q := k H' e
        rw [← val] at q
        exact iteF ⟨_, rfl, q⟩
end
end N

set_option maxHeartbeats 4000000
namespace N
open PySem L2
/-! ### a long word -/
structure LongT (K : PySem.W.Frag) (mg : Str → Option Value) (CL : Addr) : Prop where
  own : OwnC K CL
  nb : NoAttr K CL "_book"
  nr : NoAttr K CL "_runs"
  g : mg "LongWord" = some (.ref CL)
  parts : ∃ t, mg "_MOST_PARTS" = some (.int 400 t)
  letters : ∃ t, mg "_MOST_LETTERS" = some (.int 400 t)
  names : ∃ t, mg "MOST_NAMES_longwords" = some (.int 240 t)
theorem LongT.cl {K : PySem.W.Frag} {mg : Str → Option Value} {CL : Addr} (U : LongT K mg CL) : Cls K CL := U.own.cl
/-- runs of a book's words -/
def RunsOk (rs : List Row) (ws : List Run) : Prop := ws.length ≤ 4000 ∧ ∀ r ∈ ws, GoodR r ∧ WordOf rs r.1
def LongAt (bb : Bool) (K : PySem.W.Frag) (CL CB C : Addr) (H : Hp) (a b : Addr) (rs qs : List Row) (ws : List Run) : Prop := ∃ dx t vs, H a = some (.ins CL dx [("_book", .ref b), ("_runs", .ref t)]) ∧ BookAt CB C H b rs qs ∧ RunsS bb K H t vs ws ∧ RunsOk rs ws
theorem LongAt.same {bb : Bool} {K : PySem.W.Frag} {CL CB C : Addr} {H H' : Hp} {a b : Addr} {rs qs : List Row} {ws : List Run} (h : LongAt bb K CL CB C H a b rs qs ws) (e : Same H H') : LongAt bb K CL CB C H' a b rs qs ws :=
  let ⟨dx, t, vs, h1, h2, h3, h4⟩ := h; ⟨dx, t, vs, e _ _ h1, h2.same e, h3.same e, h4⟩
/-- the values handed over -/
def PartsOk (rs : List Row) (ws : List Run) : Prop := ws.length ≤ 400 ∧ ∀ r ∈ ws, WordR r ∧ WordOf rs r.1 ∧ ((r.2 : Nat) : Int).natAbs.log2 < 1920
theorem PartsOk.runs {rs : List Row} {ws : List Run} (h : PartsOk rs ws) : RunsOk rs (tidyR ws) := by
  refine ⟨Nat.le_trans (by have := tidy_len ws []; simpa [tidyR] using this) (Nat.le_trans h.1 (by decide)), fun x hx => ?_⟩
  have := tidy_mem (P := fun us => GoodW us ∧ WordOf rs us) (rs := ws) (acc := []) (fun _ h => nomatch h) (fun r hr ne => ⟨⟨ne, (h.2 r hr).1.1, (h.2 r hr).1.2⟩, (h.2 r hr).2.1⟩) x hx
  exact ⟨⟨this.1.1, this.2⟩, this.1.2⟩
theorem sqT_ins {K : PySem.W.Frag} {H : Hp} {x l C dx : Addr} {fs : List (Str × V)} {o : HO} {xs : List V} (hx : H x = some (.ins C dx fs)) (h : SqT K H l xs) : SqT K (upd H x o) l xs := by
  rcases h with (h | ⟨u, h⟩) | h
  · exact .inl (.inl ((upd_ne (ne_of h hx (by simp))).trans h))
  · exact .inl (.inr ⟨u, (upd_ne (ne_of h hx (by simp))).trans h⟩)
  · exact .inr h
theorem sqL_ins {K : PySem.W.Frag} {H : Hp} {x l C dx : Addr} {fs : List (Str × V)} {o : HO} {xs : List V} (hx : H x = some (.ins C dx fs)) (h : SqL K H l xs) : SqL K (upd H x o) l xs := by
  rcases h with (h | ⟨u, h⟩) | h
  · exact .inl (.inl ((upd_ne (ne_of h hx (by simp))).trans h))
  · exact .inl (.inr ⟨u, (upd_ne (ne_of h hx (by simp))).trans h⟩)
  · exact .inr h
theorem tupAt_ins {H : Hp} {x l C dx : Addr} {fs : List (Str × V)} {o : HO} {xs : List V} (hx : H x = some (.ins C dx fs)) (h : TupAt H l xs) : TupAt (upd H x o) l xs := by
  rcases h with h | ⟨u, h⟩
  · exact .inl ((upd_ne (ne_of h hx (by simp))).trans h)
  · exact .inr ⟨u, (upd_ne (ne_of h hx (by simp))).trans h⟩
theorem wdAt_ins : ∀ {b : Bool} {H : Hp} {x l C dx : Addr} {fs : List (Str × V)} {o : HO} {xs : List V}, H x = some (.ins C dx fs) → WdAt b H l xs → WdAt b (upd H x o) l xs
  | false, _, _, _, _, _, _, _, _, hx, h => tupAt_ins hx h
  | true, _, _, _, _, _, _, _, _, hx, ⟨u, a, b, h⟩ => ⟨u, a, b, (upd_ne (ne_of h hx (by simp))).trans h⟩
theorem runV_ins {b : Bool} {H : Hp} {x C dx : Addr} {fs : List (Str × V)} {o : HO} {v : V} {r : Run} (hx : H x = some (.ins C dx fs)) (h : RunV b H v r) : RunV b (upd H x o) v r := let ⟨a, l, e, h1, h2⟩ := h; ⟨a, l, e, tupAt_ins hx h1, wdAt_ins hx h2⟩
def PartsAt (H : Hp) (p : Addr) (xs : List V) : Prop := H p = some (.lst xs) ∨ TupAt H p xs
theorem PartsAt.sq {K : PySem.W.Frag} {H : Hp} {p : Addr} {xs : List V} (h : PartsAt H p xs) : SqL K H p xs ∨ SqT K H p xs := h.elim (fun h => .inl (SqL.of h)) fun h => .inr h.st
theorem PartsAt.same {H H' : Hp} {p : Addr} {xs : List V} (h : PartsAt H p xs) (e : Same H H') : PartsAt H' p xs := h.elim (fun h => .inl (e _ _ h)) fun h => .inr (h.same e)
theorem PartsAt.len {K : PySem.W.Frag} {H : Hp} {p : Addr} {xs : List V} (h : PartsAt H p xs) : LenV K (.ref p) H xs.length := h.elim (fun h => .inl ⟨_, SqL.of h, rfl⟩) fun h => .inr ⟨_, h.st, rfl⟩
theorem kit_two {K : PySem.W.Frag} : PySem.W.kitAny K (.type "list") [.type "list", .type "tuple"] = some true ∧ PySem.W.kitAny K (.type "tuple") [.type "list", .type "tuple"] = some true := by
  refine ⟨kitAny_cons kit_self (fun h => by cases h) (fun _ => rfl), kitAny_cons (b := false) (kit_b (by decide +kernel)) (fun _ => kitAny_cons kit_self (fun h => by cases h) (fun _ => rfl)) (fun h => by cases h)⟩
theorem PartsAt.ty {K : PySem.W.Frag} {H : Hp} {p : Addr} {xs : List V} (h : PartsAt H p xs) : ∃ t, TyX K H (.ref p) t ∧ PySem.W.kitAny K t [.type "list", .type "tuple"] = some true := h.elim (fun h => ⟨_, .base (.lst h), kit_two.1⟩) fun h => ⟨_, h.ty, kit_two.2⟩
def spIsList : Sp := fun vs H Q _ => ∃ (p : Addr) (xs : List V) (m : Int), vs = [.ref p, .int 0, .int m] ∧ PartsAt H p xs ∧ (xs.length : Int) ≤ m ∧ ∀ H', Same H H' → Q (.bl true) H'
def spIsPart (CB C : Addr) : Sp := fun vs H Q _ => ∃ (b : Addr) (v : V) (rs qs : List Row) (r : Run), vs = [.ref b, v] ∧ BookAt CB C H b rs qs ∧ RunV false H v r ∧ WordOf rs r.1 ∧ ((r.2 : Nat) : Int).natAbs.log2 < 1920 ∧ ∀ H', Same H H' → Q (.bl true) H'
def spLInit (bb : Bool) (K : PySem.W.Frag) (CL CB C : Addr) : Sp := fun vs H Q _ => ∃ (x dx b p : Addr) (xs : List V) (rs qs : List Row) (ws : List Run), vs = [.ref x, .ref b, .ref p] ∧ H x = some (.ins CL dx []) ∧ BookAt CB C H b rs qs ∧ PartsAt H p xs ∧ Paired (RunV bb H) xs ws ∧ PartsOk rs ws ∧
  ∀ t ys H', But x H H' → H' x = some (.ins CL dx [("_book", .ref b), ("_runs", .ref t)]) → RunsS bb K H' t ys (tidyR ws) → Q .non H'
section
variable {P : Program} {w : World} {K : PySem.W.Frag} {mg : Str → Option Value} {base : Heap} {C CB CL : Addr} {Cs : Nat → Addr}
abbrev s_is_list_of : Stmt := top 9
theorem sc_is_list_of : FnScope ["value", "least", "most"] ["value", "least", "most"] (defScope s_is_list_of) := ⟨rfl, rfl, rfl, by decide +kernel, rfl, by decide +kernel, by decide +kernel⟩
theorem h_is_list_of (B : Blts mg) (F : FunAt K mg "is_list_of" "is_list_of" s_is_list_of) : Has P w K mg base "is_list_of" 1 ["value", "least", "most"] spIsList := by
  refine has_of F sc_is_list_of (fun _ _ _ _ _ _ us hl => match us, hl with | [_, _, _], _ => rfl) (fun vs H Q E h => ?_) (fun f cdv A outer s H vs Q E hr h => ?_)
  · obtain ⟨_, _, _, rfl, _⟩ := h
    rfl
  · obtain ⟨p, xs, m, rfl, hp, hm, k⟩ := h
    refine ⟨_, (pss_one (ps_ret (pe_and (pe_callB call_isiT (by rfl) B.n_isinstance (by decide +kernel) (pa_cons (pv 0) (pa_cons (pe_tup (pa_cons (pe_bltn (v := .ty "list") (u := .type "list") rfl B.n_list (by decide +kernel) rfl) (pa_cons (pe_bltn (v := .ty "tuple") (u := .type "tuple") rfl B.n_tuple (by decide +kernel) rfl) pa_nil))) pa_nil))) (pe_one (pe_chain op_le op_le (pv 1) (pe_callB call_len (by rfl) B.n_len PySem.boot_len (pa_cons (pv 0) pa_nil)) (pv 2)))))), ?_⟩
    refine ⟨_, rfl, (by show 2 ≤ sizeLine; decide), fun t nt => ?_⟩
    obtain ⟨T, ty, kk⟩ := (hp.same (Same.new nt)).ty (K := K)
    refine ⟨_, t, _, T, _, true, rfl, upd_same, .cons (.ty _) (.cons (.ty _) .nil), ty, kk, _, rfl, iteT ?_⟩
    refine ⟨_, rfl, _, rfl, _, xs.length, rfl, (hp.same (Same.new nt)).len, _, _, rfl, rfl, _, rfl, ite2 (fun _ => ?_) (fun c => absurd (decide_eq_true (by omega)) c)⟩
    refine ⟨_, rfl, _, _, rfl, rfl, ?_⟩
    show Q (.bl (decide ((xs.length : Int) ≤ m))) _
    rw [decide_eq_true hm]
    exact k _ (Same.new nt)
abbrev s__is_part : Stmt := top 54
theorem sc__is_part : FnScope ["book", "part"] ["book", "part"] (defScope s__is_part) := ⟨rfl, rfl, rfl, by decide +kernel, rfl, by decide +kernel, by decide +kernel⟩
theorem h_is_part (B : Blts mg) (U : BookT K mg CB) (F : FunAt K mg "_is_part" "_is_part" s__is_part) (his_count : Has P w K mg base "is_count" 2 ["value"] spCount) (m_is_word : HasM P w K mg base CB "is_word" 1 ["self", "value"] (spIsWord K CB C)) : Has P w K mg base "_is_part" 3 ["book", "part"] (spIsPart CB C) := by
  refine has_of F sc__is_part (fun _ _ _ _ _ _ us hl => match us, hl with | [_, _], _ => rfl) (fun vs H Q E h => ?_) (fun f cdv A outer s H vs Q E hr h => ?_)
  · obtain ⟨_, _, _, _, _, rfl, _⟩ := h
    rfl
  · obtain ⟨b, v, rs, qs, r, rfl, hb, ⟨a, l, rfl, h1, h2⟩, hw, hn, k⟩ := h
    obtain ⟨dx, _, _, _, _, hbi, _⟩ := id hb
    refine ⟨_, (pss_one (ps_ret (pe_and (pe_callB call_isi (by rfl) B.n_isinstance (by decide +kernel) (pa_cons (pv 1) (pa_cons (pe_bltn (v := .ty "tuple") (u := .type "tuple") rfl B.n_tuple (by decide +kernel) rfl) pa_nil))) (pe_and (pe_cmpR op_eq (pe_callB call_len (by rfl) B.n_len PySem.boot_len (pa_cons (pv 1) pa_nil)) pe_int (by first | exact nomark _ | rfl)) (pe_and (pe_hasM m_is_word U.cl (hr.mono (by decide)) (pv 0) (pa_cons (pe_ix ix_tup (pv 1) pe_int (fun _ _ => rfl)) pa_nil)) (pe_one (pe_has his_count (hr.mono (by decide)) (pa_cons (pe_ix ix_tup (pv 1) pe_int (fun _ _ => rfl)) pa_nil)))))))), ?_⟩
    have tt : kitB "tuple" "tuple" = some true := by decide +kernel
    refine ⟨_, rfl, _, _, _, _, _, rfl, .ty _, h1.ty, kit_b tt, _, rfl, iteT ?_⟩
    refine ⟨_, rfl, _, 2, rfl, .inr ⟨_, h1.st, rfl⟩, rfl, _, rfl, iteT ?_⟩
    refine ⟨_, rfl, b, dx, _, rfl, hbi, rfl, _, rfl, a, _, 0, _, rfl, rfl, h1.st, rfl, b, l, rs, qs, r.1, rfl, hb, h2, hw, fun H1 s1 => ⟨_, rfl, iteT ?_⟩⟩
    refine ⟨_, rfl, a, _, 1, _, rfl, rfl, (h1.same s1).st, rfl, .int (r.2 : Nat), rfl, .int _ hn, ?_⟩
    have e : goodC (.int (r.2 : Nat)) = true := by
      show decide ((0 : Int) ≤ ((r.2 : Nat) : Int)) = true
      exact decide_eq_true (Int.natCast_nonneg r.2)
    rw [e]
    exact k _ s1
abbrev s__same_letters : Stmt := top 57
theorem sc__same_letters : FnScope ["runs", "others"] ["runs", "others"] (defScope s__same_letters) := ⟨rfl, rfl, rfl, by decide +kernel, rfl, by decide +kernel, by decide +kernel⟩
theorem h_same_letters (F : FunAt K mg "_same_letters" "_same_letters" s__same_letters) (hunlike_place : Has P w K mg base "unlike_place" 3 ["runs", "others"] (spUnlike K)) : Has P w K mg base "_same_letters" 4 ["runs", "others"] (spSame K) := by
  refine has_of F sc__same_letters (fun _ _ _ _ _ _ us hl => match us, hl with | [_, _], _ => rfl) (fun vs H Q E h => ?_) (fun f cdv A outer s H vs Q E hr h => ?_)
  · obtain ⟨_, _, _, _, _, _, rfl, _⟩ := h
    rfl
  · obtain ⟨p, p2, xs, ys, rs, os, rfl, hR, hS, h1, h2, g1, g2, k⟩ := h
    refine ⟨_, (pss_one (ps_ret (pe_cmpR op_isN (pe_has hunlike_place (hr.mono (by decide)) (pa_cons (pv 0) (pa_cons (pv 1) pa_nil))) pe_non (by first | exact nomark _ | rfl)))), ?_⟩
    refine ⟨_, rfl, _, rfl, p, p2, xs, ys, rs, os, rfl, hR, hS, h1, h2, g1, g2, fun H' e => ⟨rfl, ?_⟩⟩
    rw [opI_non]
    exact k H' e
end
end N

set_option maxHeartbeats 4000000
namespace N
open PySem L2
/-- a class's def of __init__ without defaults, made by its name -/
structure InitN (K : PySem.W.Frag) (mg : Str → Option Value) (x : Str) (C : Addr) (qual : Str) (st : Stmt) : Prop where
  ex : ∃ (f : Addr) (fd : FuncData), mg x = some (.ref C) ∧ Mk K C f ∧ Fun K "__init__" qual st f fd
structure MakN (P : Program) (w : World) (K : PySem.W.Frag) (mg : Str → Option Value) (base : Heap) (x : Str) (C : Addr) (k n : Nat) (ps ks : List Str) (sp : Sp) (gV : List V → List V → List V) : Prop where
  ex : ∃ (f : Addr) (fd : FuncData) (g : List Value → List Value → List Value), mg x = some (.ref C) ∧ Mk K C f ∧ KBn K fd ps (n + 1) ks g gV ∧ FnOk P w K mg base CX0 k f fd ps sp
section
variable {X : Cx} {x : Str} {C : Addr} {k n : Nat} {ps ks : List Str} {sp : Sp} {gV : List V → List V → List V} {p pos : Pos} {kws : List Keyword} {tk : TA}
/-- X(a=e, ..), nothing raised -/
theorem pe_makN0 (h : MakN X.prog X.w X.K X.mg X.base x C k 0 ps ks sp gV) (hr : Room (k + 1) X.A) (hkw : PK X kws tk) (hg : Gl X x := by rfl) (hdb : (x == ("__debug__" : Str)) = false := by decide)
    (hall : (backToKw pos (keywordEach kws X.env)).all (·.1.isSome) = true := by rfl) (hks : (backToKw pos (keywordEach kws X.env)).filterMap (·.1) = ks := by rfl)
    (hpl : ((backTo pos (starEach [] X.env)).any (·.1) || (backToKw pos (keywordEach kws X.env)).any (·.1.isNone)) = false := by rfl) :
    PE X (.Call (.Name x p) [] kws pos) (tMakeK C 0 ks.length sp gV E0 tNil tk) := by
  obtain ⟨f, fd, g, hm, M, hb, F⟩ := h.ex
  exact pe_makeK0 M F hr hg hm hb pass0 hkw hall hks hdb hpl
end
section
variable {P : Program} {w : World} {K : PySem.W.Frag} {mg : Str → Option Value} {base : Heap} {C CB CL : Addr} {Cs : Nat → Addr}
theorem either_enum {H : Hp} {p : Addr} {xs : List V} (h : PartsAt H p xs) : ∃ J G, Walk J xs.length G (YPair (fun i => some (.int (i : Nat))) (fun i => xs[i]?)) ∧ (∀ H', Same H H' → G H') ∧ ∀ (i : Nat) (σ : St) (H1 : Hp) (R : It → Hp → Prop), σ[i]? = some (some (.ref p)) → Same H H1 → R J H1 → (iEnum K (tCons (tVar i) tNil) σ H1 R ∨ iEnumT K (tCons (tVar i) tNil) σ H1 R) := by
  rcases h with h | h
  · exact ⟨_, _, walk_enum (K := K) (a := p), fun H' e => SqL.of (e _ _ h), fun i σ H1 R hi e r => .inl ⟨_, hi, p, xs, rfl, SqL.of (e _ _ h), r⟩⟩
  · exact ⟨_, _, walk_enumT (K := K) (a := p), fun H' e => (h.same e).st, fun i σ H1 R hi e r => .inr ⟨_, hi, p, xs, rfl, (h.same e).st, r⟩⟩
abbrev s_LongWord___init__ : Stmt := inClass (top 53) 0
theorem sc_LongWordD_initD : FnScope ["self", "book", "parts", "position", "part"] ["self", "book", "parts"] (defScope s_LongWord___init__) := ⟨rfl, rfl, rfl, by decide +kernel, rfl, by decide +kernel, by decide +kernel⟩
theorem ok_long (bb : Bool) (B : Blts mg) (U : BookT K mg CB) (T : LongT K mg CL) (his_list_of : Has P w K mg base "is_list_of" 1 ["value", "least", "most"] spIsList) (h_is_part : Has P w K mg base "_is_part" 3 ["book", "part"] (spIsPart CB C)) (htidy : Has P w K mg base "tidy" 1 ["parts"] (spTidy bb K))
    {f : Addr} {fd : FuncData} (F : Fun K "__init__" "LongWord.__init__" s_LongWord___init__ f fd) : FnOk P w K mg base CX0 4 f fd ["self", "book", "parts"] (spLInit bb K CL CB C) := by
  obtain ⟨_, g_MOST_PARTS⟩ := T.parts
  refine F.ok sc_LongWordD_initD (fun vs H Q E h => ?_) (fun cdv A outer s H vs Q E hr h => ?_)
  · obtain ⟨_, _, _, _, _, _, _, _, rfl, _⟩ := h
    rfl
  · obtain ⟨x, dx, b, p, xs, rs, qs, ws, rfl, hx, hb, hp, hv, ok, k⟩ := h
    refine ⟨_, (pss_cons (ps_if (pt_not (pt_val (pe_callB call_isi (by rfl) B.n_isinstance (by decide +kernel) (pa_cons (pv 1) (pa_cons (pe_glob (v := .ref CB) rfl U.g rfl) pa_nil))))) (pss_one ps_never)
        pss_nil)
      (pss_cons (ps_if (pt_not (pt_val (pe_has his_list_of (hr.mono (by decide)) (pa_cons (pv 2) (pa_cons pe_int (pa_cons (pe_glob (v := .int 400) rfl g_MOST_PARTS ⟨_, rfl⟩) pa_nil)))))) (pss_one ps_never)
        pss_nil)
      (pss_cons (ps_for PassesOwn.never rfl (pi_or (pi_enum (by rfl) B.n_enumerate (pa_cons (pv 2) pa_nil)) (pi_enumT (by rfl) B.n_enumerate (pa_cons (pv 2) pa_nil))) (pg_tup rfl (pgs_cons (pg_name (i := 3) sc_LongWordD_initD.nd rfl (Or.inl rfl)) (pgs_cons (pg_name (i := 4) sc_LongWordD_initD.nd rfl (Or.inl rfl)) pgs_nil)))
        (pss_one (ps_if (pt_not (pt_val (pe_has h_is_part (hr.mono (by decide)) (pa_cons (pv 1) (pa_cons (pv 4) pa_nil))))) (pss_one ps_never)
          pss_nil)))
      (pss_cons (ps_fld (pv 0) (pv 1) rfl)
      (pss_one (ps_fld (pv 0) (pe_has htidy (hr.mono (by decide)) (pa_cons (pv 2) pa_nil)) rfl)))))), ?_⟩
    obtain ⟨db, _, _, _, _, hbi, _⟩ := id hb
    have len := paired_len hv
    refine ⟨_, rfl, _, _, _, _, true, rfl, .own CB, U.own.ty hbi, kit_self, true, rfl, iteF ?_⟩
    refine next_of ?_
    dsimp only
    refine ⟨_, rfl, p, xs, 400, rfl, hp, by have := ok.1; omega, fun H1 s1 => ⟨_, rfl, iteF ?_⟩⟩
    refine next_of ?_
    dsimp only
    obtain ⟨J, G, wk, hG, rd⟩ := either_enum (K := K) hp
    refine rd 2 _ _ _ rfl s1 (for_it wk (fun i σ H' => ∃ v3 v4 : Option V, σ = [some (.ref x), some (.ref b), some (.ref p), v3, v4] ∧ Same H H') ⟨none, none, rfl, s1⟩ (fun i σ H' _ h => ?_) (fun i y σ H2 H' hi h z => ?_) (fun σ H' h => ?_))
    · obtain ⟨_, _, _, e⟩ := h
      exact hG _ e
    · obtain ⟨v3, v4, rfl, e⟩ := h
      obtain ⟨t, a1, v, rfl, nt, rfl, ea, ev⟩ := z
      cases ea
      obtain ⟨r, hr', rv⟩ := paired_get hv ev
      have eN := e.trans (Same.new (o := .tup [V.int (i : Nat), v]) nt)
      have okr := ok.2 r (List.mem_of_getElem? hr')
      refine ⟨t, _, rfl, SqT.of upd_same, rfl, _, _, rfl, _, _, rfl, rfl, ?_⟩
      refine ⟨_, rfl, _, rfl, b, v, rs, qs, r, rfl, hb.same eN, (rv.low).same eN, okr.2.1, okr.2.2, fun H3 s3 => ⟨_, rfl, iteF ?_⟩⟩
      exact ⟨_, _, rfl, eN.trans s3⟩
    · obtain ⟨v3, v4, rfl, e⟩ := h
      refine next_of ?_
      dsimp only
      have hx' := e _ _ hx
      refine ⟨_, rfl, _, rfl, x, CL, dx, _, rfl, hx', T.cl, T.nb, by show 0 < 1000; decide, ?_⟩
      refine next_of ?_
      dsimp only
      have hv' := L2.Paired.mapP hv fun _ _ h => runV_ins (o := .ins CL dx [("_book", .ref b)]) hx' (h.same e)
      have hp' : PartsAt (upd H' x (.ins CL dx [("_book", .ref b)])) p xs := (hp.same e).elim (fun h => .inl ((upd_ne (ne_of h hx' (by simp))).trans h)) fun h => .inr (tupAt_ins hx' h)
      refine ⟨_, rfl, p, xs, ws, rfl, hp'.sq, hv', Nat.le_trans ok.1 (by decide), fun r hr => (ok.2 r hr).1, fun t ys H4 nt hR s4 => ?_⟩
      have hx4 : H4 x = some (.ins CL dx [("_book", .ref b)]) := s4 _ _ upd_same
      refine ⟨_, rfl, x, CL, dx, _, rfl, hx4, T.cl, T.nr, by show 1 < 1000; decide, ?_⟩
      refine k t ys _ (fun c o hc n => ?_) upd_same ⟨sqT_ins hx4 hR.1, L2.Paired.mapP hR.2 fun _ _ h => runV_ins hx4 h⟩
      rw [upd_ne n]
      exact s4 _ _ ((upd_ne n).trans (e _ _ hc))
/-- LongWord(b, p) -/
theorem hLong2 (bb : Bool) (B : Blts mg) (U : BookT K mg CB) (T : LongT K mg CL) (I : InitN K mg "LongWord" CL "LongWord.__init__" s_LongWord___init__) (his_list_of : Has P w K mg base "is_list_of" 1 ["value", "least", "most"] spIsList) (h_is_part : Has P w K mg base "_is_part" 3 ["book", "part"] (spIsPart CB C)) (htidy : Has P w K mg base "tidy" 1 ["parts"] (spTidy bb K)) :
    HasK P w K mg base "LongWord" CL 4 ["self", "book", "parts"] (spLInit bb K CL CB C) [] := by
  obtain ⟨f, fd, hm, M, F⟩ := I.ex
  exact ⟨f, fd, [], hm, M, F.binds (fun _ _ _ _ _ _ us hl => match us, hl with | [_, _, _], _ => rfl), .nil, ok_long bb B U T his_list_of h_is_part htidy F⟩
def swap3 {α : Type} : List α → List α → List α
  | [a], [p, b] => [a, b, p]
  | l, _ => l
theorem vals_swap3 : ∀ {vs zs : List V} {us ws : List Value}, Vals vs us → Vals zs ws → Vals (swap3 vs zs) (swap3 us ws) := by
  intro vs zs us ws r1 r2
  cases r1 with
  | nil => exact .nil
  | cons a r1 =>
    cases r1 with
    | cons b c => exact .cons a (.cons b c)
    | nil =>
      cases r2 with
      | nil => exact .cons a .nil
      | cons y r2 => cases r2 with
        | nil => exact .cons a .nil
        | cons i r2 => cases r2 with
          | nil => exact .cons a (.cons i (.cons y .nil))
          | cons _ _ => exact .cons a .nil
/-- LongWord(parts=p, book=b) -/
theorem hLongK (bb : Bool) (B : Blts mg) (U : BookT K mg CB) (T : LongT K mg CL) (I : InitN K mg "LongWord" CL "LongWord.__init__" s_LongWord___init__) (his_list_of : Has P w K mg base "is_list_of" 1 ["value", "least", "most"] spIsList) (h_is_part : Has P w K mg base "_is_part" 3 ["book", "part"] (spIsPart CB C)) (htidy : Has P w K mg base "tidy" 1 ["parts"] (spTidy bb K)) :
    MakN P w K mg base "LongWord" CL 4 0 ["self", "book", "parts"] ["parts", "book"] (spLInit bb K CL CB C) swap3 := by
  obtain ⟨f, fd, hm, M, F⟩ := I.ex
  have ok := ok_long bb B U T his_list_of h_is_part htidy F
  obtain ⟨oc, od, kV, doc, pm, an, cdv, ct, osl, efd, lk, hcd⟩ := id F.ex
  refine ⟨f, fd, swap3, hm, M, ⟨fun s us ws hin hu hw => ?_, vals_swap3⟩, ok⟩
  match us, ws, hu, hw with
  | [a], [p, b], _, _ =>
    refine BindsTo.of_looks fun M => .of_pure ?_
    rw [efd]
    rfl
end
end N

set_option maxHeartbeats 4000000
namespace N
open PySem L2
def sumW (g : Row → Int) (ws : List Run) : Int := (ws.map fun r => sumOf g r.1 * (r.2 : Nat)).sum
def rAtZ (ws : List Run) (f : Run → Int) (i : Nat) : V := match ws[i]? with
  | some r => .int (f r)
  | none => .non
theorem rAtZ_all (ws : List Run) (f : Run → Int) : (List.range ws.length).map (rAtZ ws f) = (ws.map f).map V.int := by
  refine List.ext_getElem (by simp) fun i h1 h2 => ?_
  have hi : i < ws.length := by simpa using h1
  simp [rAtZ, List.getElem?_eq_getElem hi]
theorem sumOf_bound {g : Row → Int} : ∀ {us : List Row}, (∀ u ∈ us, 0 ≤ g u ∧ g u ≤ 999) → 0 ≤ sumOf g us ∧ sumOf g us ≤ 999 * (us.length : Int)
  | [], _ => by simp [sumOf]
  | u :: us, h => by
    obtain ⟨a, b⟩ := sumOf_bound (g := g) (us := us) fun x hx => h x (.tail _ hx)
    have hu := h u (.head _)
    unfold sumOf at a b ⊢
    rw [List.map_cons, List.sum_cons, List.length_cons]
    omega
theorem sum_mul_ok {g : Row → Int} {us : List Row} (h : ∀ u ∈ us, 0 ≤ g u ∧ g u ≤ 999) (hl : us.length ≤ 240) (n : Int) : CMul (sumOf g us) n := by
  obtain ⟨a, b⟩ := sumOf_bound h
  have h1 : (1000000 : Int) < 2 ^ 64 := by decide
  have h2 : (-(2 ^ 64) : Int) < 0 := by decide
  have h3 : sumOf g us < 1000000 := by omega
  exact .inl ⟨Int.lt_of_lt_of_le h2 a, Int.lt_trans h3 h1⟩
def spGetL (K : PySem.W.Frag) (CL CB C : Addr) (g : List Run → V) : Sp := fun vs H Q _ => ∃ (a b : Addr) (rs qs : List Row) (ws : List Run), vs = [.ref a] ∧ LongAt false K CL CB C H a b rs qs ws ∧ (∀ u ∈ rs, KindOk u) ∧ ∀ H', Same H H' → Q (g ws) H'
abbrev PL (P : Program) (w : World) (K : PySem.W.Frag) (mg : Str → Option Value) (base : Heap) (CL CB C : Addr) (x : Str) (k : Nat) (g : List Run → V) : Prop := HasP P w K mg base CL x k (spGetL K CL CB C g)
def spLetter (K : PySem.W.Frag) (CL CB C : Addr) : Sp := fun vs H Q _ => ∃ (a b : Addr) (rs qs : List Row) (ws : List Run) (place : Nat), vs = [.ref a, .int (place : Nat)] ∧ LongAt false K CL CB C H a b rs qs ws ∧ (∀ u ∈ rs, KindOk u) ∧ place < lenR ws ∧ ((place : Nat) : Int).natAbs.log2 < 1920 ∧
  ∀ u H', (lfR ws place 1 [])[0]? = some u → Same H H' → Q (.str u.name) H'
def spLCount (K : PySem.W.Frag) (CL CB C : Addr) : Sp := fun vs H Q _ => ∃ (a b : Addr) (rs qs : List Row) (ws : List Run) (u : Row), vs = [.ref a, .str u.name] ∧ LongAt true K CL CB C H a b rs qs ws ∧ u ∈ rs ∧ NameOk u.name ∧ ∀ H', Same H H' → Q (.int (cntR ws u.name : Nat)) H'
def spLLetters (K : PySem.W.Frag) (CL CB C : Addr) : Sp := fun vs H Q _ => ∃ (a b : Addr) (rs qs : List Row) (ws : List Run) (first many : Nat), vs = [.ref a, .int (first : Nat), .int (many : Nat)] ∧ LongAt false K CL CB C H a b rs qs ws ∧ ((first : Nat) : Int).natAbs.log2 < 1920 ∧ many ≤ 400 ∧
  ∀ q H', H q = none → H' q = some (.lst (wordV (lfR ws first many []))) → Same H H' → Q (.ref q) H'
theorem slog {n : Nat} (h : n ≤ 1000000) : ((n : Nat) : Int).natAbs.log2 < 1920 := by
  rw [Int.natAbs_natCast]
  by_cases z : n = 0
  · subst z
    decide
  · exact Nat.lt_trans ((Nat.log2_lt z).mpr (Nat.lt_of_le_of_lt h (by decide : 1000000 < 2 ^ 20))) (by decide)
section
variable {P : Program} {w : World} {K : PySem.W.Frag} {mg : Str → Option Value} {base : Heap} {C CB CL : Addr} {Cs : Nat → Addr}
abbrev s_LongWord_book : Stmt := inClass (top 53) 2
theorem sc_LongWord_book : FnScope ["self"] ["self"] (defScope s_LongWord_book) := ⟨rfl, rfl, rfl, by decide +kernel, rfl, by decide +kernel, by decide +kernel⟩
def spGetB (bb : Bool) (K : PySem.W.Frag) (CL CB C : Addr) : Sp := fun vs H Q _ => ∃ (a b : Addr) (rs qs : List Row) (ws : List Run), vs = [.ref a] ∧ LongAt bb K CL CB C H a b rs qs ws ∧ Q (.ref b) H
theorem p_book (T : LongT K mg CL) (F : PropAt K CL "book" "LongWord.book" s_LongWord_book) : HasP P w K mg base CL "book" 1 (spGetB false K CL CB C) := by
  refine hasP_of F sc_LongWord_book (fun _ _ _ _ _ _ us hl => match us, hl with | [_], _ => rfl) (fun vs H Q E h => ?_) (fun f cdv A outer s H vs Q E hr h => ?_)
  · obtain ⟨_, _, _, _, _, rfl, _⟩ := h
    rfl
  · obtain ⟨a, b, rs, qs, ws, rfl, ⟨dx, t, ys, ha, _⟩, q⟩ := h
    refine ⟨_, (pss_one (ps_ret (pe_fld (pv 0) rfl))), ?_⟩
    exact ⟨_, rfl, a, CL, dx, _, _, rfl, ha, T.cl, T.nb, rfl, q⟩
abbrev s_LongWord_length : Stmt := inClass (top 53) 3
theorem sc_LongWord_length : FnScope ["self"] ["self"] (defScope s_LongWord_length) := ⟨rfl, rfl, rfl, by decide +kernel, rfl, by decide +kernel, by decide +kernel⟩
theorem p_length (T : LongT K mg CL) (F : PropAt K CL "length" "LongWord.length" s_LongWord_length) (hrun_length : Has P w K mg base "run_length" 1 ["runs"] (spLen K)) : PL P w K mg base CL CB C "length" 2 (fun ws => .int (lenR ws : Nat)) := by
  refine hasP_of F sc_LongWord_length (fun _ _ _ _ _ _ us hl => match us, hl with | [_], _ => rfl) (fun vs H Q E h => ?_) (fun f cdv A outer s H vs Q E hr h => ?_)
  · obtain ⟨_, _, _, _, _, rfl, _⟩ := h
    rfl
  · obtain ⟨a, b, rs, qs, ws, rfl, ⟨dx, t, ys, ha, hb, hR, ok⟩, ks, k⟩ := h
    refine ⟨_, (pss_one (ps_ret (pe_has hrun_length (hr.mono (by decide)) (pa_cons (pe_fld (pv 0) rfl) pa_nil)))), ?_⟩
    exact ⟨_, rfl, a, CL, dx, _, _, rfl, ha, T.cl, T.nr, rfl, t, ys, ws, rfl, hR, ok.1, fun r hr => (ok.2 r hr).1, k⟩
abbrev s_LongWord_takes : Stmt := inClass (top 53) 4
theorem sc_LongWord_takes : FnScope ["self", "word", "number"] ["self"] (defScope s_LongWord_takes) := ⟨rfl, rfl, rfl, by decide +kernel, rfl, by decide +kernel, by decide +kernel⟩
theorem p_ltakes (B : Blts mg) (U : BookT K mg CB) (T : LongT K mg CL) (F : PropAt K CL "takes" "LongWord.takes" s_LongWord_takes) (m_taken : HasM P w K mg base CB "taken" 3 ["self", "word"] (spSum CB C Row.takes)) : PL P w K mg base CL CB C "takes" 4 (fun ws => .int (sumW Row.takes ws)) := by
  refine hasP_of F sc_LongWord_takes (fun _ _ _ _ _ _ us hl => match us, hl with | [_], _ => rfl) (fun vs H Q E h => ?_) (fun f cdv A outer s H vs Q E hr h => ?_)
  · obtain ⟨_, _, _, _, _, rfl, _⟩ := h
    rfl
  · obtain ⟨a, b, rs, qs, ws, rfl, ⟨dx, t, ys, ha, hb, hR, ok⟩, ks, k⟩ := h
    obtain ⟨db, _, _, _, _, hbi, _⟩ := id hb
    refine ⟨_, (pss_one (ps_ret (pe_callB (cr_sum rfl) (by rfl) B.n_sum (by decide +kernel) (pa_cons (pe_lc (own := [("word", 1), ("number", 2)]) rfl sc_LongWord_takes.nd (pi_tup (pe_fld (pv 0) rfl)) (blkOk_by (own := [("word", 1), ("number", 2)]) (N := ["self", "word", "number"]) (sc := defScope s_LongWord_takes) (by decide +kernel)) (fun _ _ _ _ _ => by exact (pg_tupK K 2 rfl rfl (pgs_cons (pg_name (i := 1) sc_LongWord_takes.nd rfl (Or.inl rfl)) (pgs_cons (pg_name (i := 2) sc_LongWord_takes.nd rfl (Or.inl rfl)) pgs_nil)))) (fun _ _ _ _ _ => by exact pts_nil) (fun _ _ _ _ _ => by exact (pe_op op_mul (pe_hasM m_taken U.cl (hr.mono (by decide)) (pe_fldK K (pv 0) rfl) (pa_cons (pv 1) pa_nil)) (pv 2)))) pa_nil)))), ?_⟩
    have len := paired_len hR.2
    refine ⟨_, rfl, a, CL, dx, _, _, rfl, ha, T.cl, T.nr, rfl, t, rfl, ⟨_, hR.1⟩, fun D nD => lc_map walk_tup (rAtZ ws fun r => sumOf Row.takes r.1 * (r.2 : Nat)) nD (by have := ok.1; omega) (fun H' s' => s'.st hR.1) ?_ ?_⟩
    · rintro i x H2 H3 hi s2 ⟨rfl, hx⟩ R hR'
      obtain ⟨r, hr', A1, l, rfl, h1, h2⟩ := paired_get hR.2 hx
      obtain ⟨gr, wr⟩ := ok.2 r (List.mem_of_getElem? hr')
      refine ⟨A1, _, rfl, (h1.same s2).st, rfl, _, _, rfl, _, _, rfl, rfl, rfl, _, rfl, a, CL, dx, _, _, rfl, s2 _ _ ha, T.cl, T.nb, rfl, b, db, _, rfl, s2 _ _ hbi, rfl, _, rfl, b, l, rs, qs, r.1, rfl, hb.same s2, h2.at.same s2, wr, fun H4 s4 => ?_⟩
      have qq := hR' H4 s4
      rw [rAtZ, hr'] at qq
      exact ⟨_, rfl, _, _, rfl, rfl, sum_mul_ok (fun u hu => ⟨(ks u (wr.2 u hu)).takes.1, by have := (ks u (wr.2 u hu)).takes.2; omega⟩) wr.1 _, qq⟩
    · intro H2 s2 hD
      rw [len, rAtZ_all] at hD
      exact ⟨D, _, rfl, SqL.of hD, k H2 s2⟩
abbrev s_LongWord_makes : Stmt := inClass (top 53) 5
theorem sc_LongWord_makes : FnScope ["self", "word", "number"] ["self"] (defScope s_LongWord_makes) := ⟨rfl, rfl, rfl, by decide +kernel, rfl, by decide +kernel, by decide +kernel⟩
theorem p_lmakes (B : Blts mg) (U : BookT K mg CB) (T : LongT K mg CL) (F : PropAt K CL "makes" "LongWord.makes" s_LongWord_makes) (m_loops_made : HasM P w K mg base CB "loops_made" 3 ["self", "word"] (spSum CB C Row.makes)) : PL P w K mg base CL CB C "makes" 4 (fun ws => .int (sumW Row.makes ws)) := by
  refine hasP_of F sc_LongWord_makes (fun _ _ _ _ _ _ us hl => match us, hl with | [_], _ => rfl) (fun vs H Q E h => ?_) (fun f cdv A outer s H vs Q E hr h => ?_)
  · obtain ⟨_, _, _, _, _, rfl, _⟩ := h
    rfl
  · obtain ⟨a, b, rs, qs, ws, rfl, ⟨dx, t, ys, ha, hb, hR, ok⟩, ks, k⟩ := h
    obtain ⟨db, _, _, _, _, hbi, _⟩ := id hb
    refine ⟨_, (pss_one (ps_ret (pe_callB (cr_sum rfl) (by rfl) B.n_sum (by decide +kernel) (pa_cons (pe_lc (own := [("word", 1), ("number", 2)]) rfl sc_LongWord_makes.nd (pi_tup (pe_fld (pv 0) rfl)) (blkOk_by (own := [("word", 1), ("number", 2)]) (N := ["self", "word", "number"]) (sc := defScope s_LongWord_makes) (by decide +kernel)) (fun _ _ _ _ _ => by exact (pg_tupK K 2 rfl rfl (pgs_cons (pg_name (i := 1) sc_LongWord_makes.nd rfl (Or.inl rfl)) (pgs_cons (pg_name (i := 2) sc_LongWord_makes.nd rfl (Or.inl rfl)) pgs_nil)))) (fun _ _ _ _ _ => by exact pts_nil) (fun _ _ _ _ _ => by exact (pe_op op_mul (pe_hasM m_loops_made U.cl (hr.mono (by decide)) (pe_fldK K (pv 0) rfl) (pa_cons (pv 1) pa_nil)) (pv 2)))) pa_nil)))), ?_⟩
    have len := paired_len hR.2
    refine ⟨_, rfl, a, CL, dx, _, _, rfl, ha, T.cl, T.nr, rfl, t, rfl, ⟨_, hR.1⟩, fun D nD => lc_map walk_tup (rAtZ ws fun r => sumOf Row.makes r.1 * (r.2 : Nat)) nD (by have := ok.1; omega) (fun H' s' => s'.st hR.1) ?_ ?_⟩
    · rintro i x H2 H3 hi s2 ⟨rfl, hx⟩ R hR'
      obtain ⟨r, hr', A1, l, rfl, h1, h2⟩ := paired_get hR.2 hx
      obtain ⟨gr, wr⟩ := ok.2 r (List.mem_of_getElem? hr')
      refine ⟨A1, _, rfl, (h1.same s2).st, rfl, _, _, rfl, _, _, rfl, rfl, rfl, _, rfl, a, CL, dx, _, _, rfl, s2 _ _ ha, T.cl, T.nb, rfl, b, db, _, rfl, s2 _ _ hbi, rfl, _, rfl, b, l, rs, qs, r.1, rfl, hb.same s2, h2.at.same s2, wr, fun H4 s4 => ?_⟩
      have qq := hR' H4 s4
      rw [rAtZ, hr'] at qq
      exact ⟨_, rfl, _, _, rfl, rfl, sum_mul_ok (fun u hu => ⟨(ks u (wr.2 u hu)).makes.1, by have := (ks u (wr.2 u hu)).makes.2; omega⟩) wr.1 _, qq⟩
    · intro H2 s2 hD
      rw [len, rAtZ_all] at hD
      exact ⟨D, _, rfl, SqL.of hD, k H2 s2⟩
abbrev s_LongWord_letter : Stmt := inClass (top 53) 7
theorem sc_LongWord_letter : FnScope ["self", "place", "found"] ["self", "place"] (defScope s_LongWord_letter) := ⟨rfl, rfl, rfl, by decide +kernel, rfl, by decide +kernel, by decide +kernel⟩
theorem m_letter (T : LongT K mg CL) (F : MethAt K CL "letter" "LongWord.letter" s_LongWord_letter) (his_count : Has P w K mg base "is_count" 2 ["value"] spCount) (p_length : PL P w K mg base CL CB C "length" 2 (fun ws => .int (lenR ws : Nat))) (hletters_from : Has P w K mg base "letters_from" 2 ["runs", "first", "many"] (spLetters K)) : HasMK P w K mg base CL "letter" 4 "self" "place" (spLetter K CL CB C) := by
  refine hasMK_of F sc_LongWord_letter (fun _ _ _ _ _ _ us hl => match us, hl with | [_, _], _ => rfl) (fun vs H Q E h => ?_) (fun f cdv A outer s H vs Q E hr h => ?_)
  · obtain ⟨_, _, _, _, _, _, rfl, _⟩ := h
    rfl
  · obtain ⟨a, b, rs, qs, ws, place, rfl, hL, ks, hp, hlog, k⟩ := h
    refine ⟨_, (pss_cons (ps_if (PW.pt (pw_or (pt_not (pt_val (pe_has his_count (hr.mono (by decide)) (pa_cons (pv 1) pa_nil)))) (pw_or1 (pt_cmpR op_ge (pv 1) (pe_hasP p_length T.cl (hr.mono (by decide)) (pv 0)) (by first | exact nomark _ | rfl))))) (pss_one ps_never)
        pss_nil)
      (pss_cons (ps_set (i := 2) sc_LongWord_letter.nd rfl (Or.inl rfl) (pe_has hletters_from (hr.mono (by decide)) (pa_cons (pe_fld (pv 0) rfl) (pa_cons (pv 1) (pa_cons pe_int pa_nil)))))
      (pss_one (ps_ret (pe_ix ix_list (pv 2) pe_int (fun _ _ => rfl)))))), ?_⟩
    obtain ⟨dx, t, ys, ha, hb, hR, ok⟩ := id hL
    have e : goodC (.int (place : Nat)) = true := by
      show decide ((0 : Int) ≤ ((place : Nat) : Int)) = true
      exact decide_eq_true (Int.natCast_nonneg place)
    refine ⟨_, rfl, .int (place : Nat), rfl, .int _ hlog, _, rfl, ?_⟩
    rw [e]
    refine iteF ?_
    refine ⟨_, rfl, _, rfl, a, dx, _, rfl, ha, a, b, rs, qs, ws, rfl, hL, ks, fun H1 s1 => ⟨_, _, rfl, rfl, _, rfl, ite2 (fun c => absurd (of_decide_eq_true c) (by omega)) (fun _ => ?_)⟩⟩
    refine next_of ?_
    dsimp only
    refine ⟨_, rfl, a, CL, dx, _, _, rfl, s1 _ _ ha, T.cl, T.nr, rfl, _, rfl, t, ys, ws, place, 1, rfl, (hR.same s1), ok.1, fun r hr => (ok.2 r hr).1, by decide, fun q H2 nq hq s2 => ?_⟩
    refine next_of ?_
    dsimp only
    have ne := lfR_nonempty (rs := ws) (first := place) (many := 1) (found := []) (fun r hr => (ok.2 r hr).1) (by decide) (by simp) (.inr hp)
    cases hf : lfR ws place 1 [] with
    | nil => exact absurd hf ne
    | cons u us =>
      rw [hf] at hq k
      exact ⟨_, rfl, q, _, 0, .str u.name, rfl, rfl, SqL.of hq, atI_nat (i := 0) rfl, k u H2 rfl (s1.trans s2)⟩
abbrev s_LongWord_count : Stmt := inClass (top 53) 8
theorem sc_LongWord_count : FnScope ["self", "name"] ["self", "name"] (defScope s_LongWord_count) := ⟨rfl, rfl, rfl, by decide +kernel, rfl, by decide +kernel, by decide +kernel⟩
theorem m_count (T : LongT K mg CL) (F : MethAt K CL "count" "LongWord.count" s_LongWord_count) (m_contains : HasM P w K mg base CB "__contains__" 1 ["self", "x"] (spIn CB C)) (hletter_count : Has P w K mg base "letter_count" 1 ["runs", "name"] (spCnt K)) : HasM P w K mg base CL "count" 4 ["self", "name"] (spLCount K CL CB C) := by
  refine hasM_of F sc_LongWord_count (fun _ _ _ _ _ _ us hl => match us, hl with | [_, _], _ => rfl) (fun vs H Q E h => ?_) (fun f cdv A outer s H vs Q E hr h => ?_)
  · obtain ⟨_, _, _, _, _, _, rfl, _⟩ := h
    rfl
  · obtain ⟨a, b, rs, qs, ws, u, rfl, hL, hu, hn, k⟩ := h
    refine ⟨_, (pss_cons (ps_if (pt_cmpR (op_notInM m_contains (hr.mono (by decide))) (pv 1) (pe_fld (pv 0) rfl) (by first | exact nomark _ | rfl)) (pss_one ps_never)
        pss_nil)
      (pss_one (ps_ret (pe_has hletter_count (hr.mono (by decide)) (pa_cons (pe_fld (pv 0) rfl) (pa_cons (pv 1) pa_nil)))))), ?_⟩
    obtain ⟨dx, t, ys, ha, hb, hR, ok⟩ := id hL
    obtain ⟨db, _, _, _, _, hbi, _⟩ := id hb
    have hin : inBook rs (.str u.name) = true := decide_eq_true (List.mem_map_of_mem hu)
    refine ⟨_, rfl, _, rfl, a, CL, dx, _, _, rfl, ha, T.cl, T.nb, rfl, b, db, _, rfl, hbi, b, .str u.name, rs, qs, rfl, hb, .str u.name (by have := hn.2.1; omega) hn.sign, ?_⟩
    refine ⟨_, rfl, _, rfl, ite2 (fun c => absurd c (by rw [hin]; decide)) (fun _ => ?_)⟩
    refine next_of ?_
    dsimp only
    exact ⟨_, rfl, a, CL, dx, _, _, rfl, ha, T.cl, T.nr, rfl, _, rfl, t, ys, ws, u.name, rfl, hR, ok.1, fun r hr => (ok.2 r hr).1, k⟩
end
end N

set_option maxHeartbeats 4000000
namespace L2
open PySem PySem.Spec PyProof.Rows
/-- a method of self and two more, that may be named in the call, the second first -/
structure HasMT (P : Program) (w : World) (K : PySem.W.Frag) (mg : Str → Option Value) (base : Heap) (C : Addr) (m : Str) (k : Nat) (a b c : Str) (sp : Sp) : Prop where
  ex : ∃ (f : Addr) (fd : FuncData), Meth K C m f ∧ Binds K fd [a, b, c] [] ∧ (∀ u v z : Value, bindArgs fd ⟨[u], [(c, z), (b, v)]⟩ = pure [(a, u), (b, v), (c, z)]) ∧ FnOk P w K mg base CX0 k f fd [a, b, c] sp
section
variable {P : Program} {w : World} {K : PySem.W.Frag} {mg : Str → Option Value} {base : Heap} {C : Addr}
theorem HasMT.m {m a b c : Str} {k : Nat} {sp : Sp} (h : HasMT P w K mg base C m k a b c sp) : HasM P w K mg base C m k [a, b, c] sp := by
  obtain ⟨f, fd, h1, h2, _, h4⟩ := h.ex
  exact ⟨f, fd, h1, h2, h4⟩
theorem hasMT_of {m qual : Str} {st : Stmt} {N : List Str} {a b c : Str} {k : Nat} {sp : Sp} (F : MethAt K C m qual st) (S : FnScope N [a, b, c] (defScope st))
    (hb : ∀ (kV doc pm : Value) (an : Option Addr) (cdv ct : Value) (us : List Value), us.length = [a, b, c].length → bindArgs (PySem.W.fnOf m qual (defArgs st) (defBody st) (defScope st) .none kV doc pm an cdv ct) ⟨us, []⟩ = pure ([a, b, c].zip us))
    (len : ∀ vs H Q E, sp vs H Q E → vs.length = [a, b, c].length)
    (hbody : ∀ (f : Addr) (cdv : Value) (A : Around) (outer : List Env) (s : Shared) (H : Hp) (vs : List V) (Q : VK) (E : XK), Room k (A.deeper (envOfC qual (defScope st) s.heap.objs.size f cdv)) → sp vs H Q E →
      ∃ t, PSs (cxOf CX0 P w K mg base N qual (defScope st) f cdv A outer s H E).nox (defBody st) t ∧ t { nx := fun _ H' => Q .non H', rt := Q } (start N vs) H)
    (hk : ∀ (kV doc pm : Value) (an : Option Addr) (cdv ct : Value) (u v z : Value), bindArgs (PySem.W.fnOf m qual (defArgs st) (defBody st) (defScope st) .none kV doc pm an cdv ct) ⟨[u], [(c, z), (b, v)]⟩ = pure [(a, u), (b, v), (c, z)] := by intros; rfl) : HasMT P w K mg base C m (k + 1) a b c sp := by
  obtain ⟨f, fd, hm, F⟩ := F.ex
  obtain ⟨oc, od, kV, doc, pm, an, cdv, ct, osl, rfl, lk, hcd⟩ := id F.ex
  exact ⟨f, _, hm, F.binds hb, hk _ _ _ _ _ _, F.ok S len (hbody f)⟩
end
section
variable {X : Cx} {C : Addr} {m a b c : Str} {k : Nat} {sp : Sp} {apos pos kpos kpos2 : Pos} {o e e2 : Expr} {ta te te2 : TE} {pl : Sem Bool}
/-- o.m(c=e, b=e2) -/
theorem pe_hasMT (h : HasMT X.prog X.w X.K X.mg X.base C m k a b c sp) (cl : Cls X.K C) (hr : Room k X.A) (ho : PE X o ta) (he : PE X e te) (he2 : PE X e2 te2)
    (ht : eval (.Call (.Attribute o m apos) [] [⟨some c, e, kpos⟩, ⟨some b, e2, kpos2⟩] pos) X.env = (do
      let ov ← eval o X.env
      standAt apos.atName
      let (f, first) ← holding [ov] (getMethod ov m pl)
      callWith pos f first (backTo pos (starEach [] X.env)) (backToKw pos (keywordEach [⟨some c, e, kpos⟩, ⟨some b, e2, kpos2⟩] X.env))) := by rfl) :
    PE X (.Call (.Attribute o m apos) [] [⟨some c, e, kpos⟩, ⟨some b, e2, kpos2⟩] pos) (fun σ H Q => ta σ H fun x H1 => ∃ p dx fs, x = .ref p ∧ H1 p = some (.ins C dx fs) ∧ fs.lookup m = none ∧ tCons te (tCons te2 tNil) σ H1 fun zs H2 => ∃ y z, zs = [z, y] ∧ sp [.ref p, y, z] H2 Q E0) := by
  obtain ⟨f, fd, hm, hb, hk, F⟩ := h.ex
  refine ⟨fun pins s σ H Q I h => ?_⟩
  refine PySem.W.methodCall_KW (pl := pl) (thn (ho.run pins s σ H _ I h) fun u s1 ⟨x, H1, I1, rx, p, dx, fs, ex, ea, l, q⟩ => ?_) ht
  subst ex
  obtain rfl : u = Value.ref p := rx
  refine getmeth_ok I1 ea cl hm l ?_
  refine PySem.W.callWith_KW0 (first := [.ref p]) (h₀ := X.base) I.ok.mod.kin hm.kp rfl ?_ rfl
  refine thn ((pk_cons he (pk_cons he2 pk_nil)).run pos pins s1 σ H1 _ I1 q) fun ws s2 ⟨zs, H2, I2, rz, y, z, ez, q2⟩ => ⟨I2.kIn, ?_⟩
  subst ez
  obtain ⟨u1, u2, rfl, r1, r2⟩ := vals2 rz
  have rr : Vals [V.ref p, y, z] [Value.ref p, u2, u1] := .cons rfl (.cons r2 (.cons r1 .nil))
  show wpAny (model X.prog X.w) X.A (call (.ref f) [.ref p] [(c, u1), (b, u2)]) _ _ s2
  have bt : BindsTo s2 fd ⟨[.ref p], [(c, u1), (b, u2)]⟩ ([a, b, c].zip [.ref p, u2, u1]) := BindsTo.of_looks fun M => .of_pure (hk _ _ _)
  refine wpAny_call (codeAny_mono (F.run X.A X.stack s2 H2 ⟨[.ref p], [(c, u1), (b, u2)]⟩ [.ref p, u2, u1] _ Q E0 hr I2.env0 bt rr q2) fun r s' hq => ?_)
  cases r with
  | error er => exact (pass0 pins σ H2 s2 er s' I2 hq)
  | ok fl =>
    cases fl with
    | ret u => exact I2.after hq
    | next => exact False.elim hq
    | brk => exact False.elim hq
    | cont => exact False.elim hq
end
end L2
namespace N
open PySem L2
def spCheckO (K : PySem.W.Frag) (CL CB C : Addr) : Sp := fun vs H Q _ => ∃ (a b b2 : Addr) (rs qs : List Row) (ws : List Run), vs = [.ref b, .ref a] ∧ LongAt false K CL CB C H a b2 rs qs ws ∧ BookAt CB C H b rs qs ∧ (∀ u ∈ qs, KindOk u) ∧ ∀ H', Same H H' → Q .non H'
def spFirst (K : PySem.W.Frag) (CL CB C : Addr) : Sp := fun vs H Q _ => ∃ (a a2 b b2 : Addr) (rs qs : List Row) (ws os : List Run), vs = [.ref a, .ref a2] ∧ LongAt false K CL CB C H a b rs qs ws ∧ LongAt false K CL CB C H a2 b2 rs qs os ∧ (∀ u ∈ qs, KindOk u) ∧ ∀ H', Same H H' → Q (opI (unR ws os)) H'
def spEqL (K : PySem.W.Frag) (CL CB C : Addr) : Sp := fun vs H Q _ => ∃ (a a2 b b2 : Addr) (rs qs : List Row) (ws os : List Run), vs = [.ref a, .ref a2] ∧ LongAt false K CL CB C H a b rs qs ws ∧ LongAt false K CL CB C H a2 b2 rs qs os ∧ (∀ u ∈ qs, KindOk u) ∧ ∀ H', Same H H' → Q (.bl (decide (unR ws os = none))) H'
section
variable {P : Program} {w : World} {K : PySem.W.Frag} {mg : Str → Option Value} {base : Heap} {C CB CL : Addr} {Cs : Nat → Addr}
abbrev s_LongWord_letters : Stmt := inClass (top 53) 9
theorem sc_LongWord_letters : FnScope ["self", "first", "many"] ["self", "first", "many"] (defScope s_LongWord_letters) := ⟨rfl, rfl, rfl, by decide +kernel, rfl, by decide +kernel, by decide +kernel⟩
theorem m_letters (T : LongT K mg CL) (F : MethAt K CL "letters" "LongWord.letters" s_LongWord_letters) (his_count : Has P w K mg base "is_count" 2 ["value"] spCount) (his_count_to : Has P w K mg base "is_count_to" 3 ["value", "most"] spCountTo) (hletters_from : Has P w K mg base "letters_from" 2 ["runs", "first", "many"] (spLetters K)) : HasMT P w K mg base CL "letters" 4 "self" "first" "many" (spLLetters K CL CB C) := by
  obtain ⟨_, g_MOST_LETTERS⟩ := T.letters
  refine hasMT_of F sc_LongWord_letters (fun _ _ _ _ _ _ us hl => match us, hl with | [_, _, _], _ => rfl) (fun vs H Q E h => ?_) (fun f cdv A outer s H vs Q E hr h => ?_)
  · obtain ⟨_, _, _, _, _, _, _, rfl, _⟩ := h
    rfl
  · obtain ⟨a, b, rs, qs, ws, first, many, rfl, hL, hlog, hm, k⟩ := h
    refine ⟨_, (pss_cons (ps_if (pt_not (pt_val (pe_has his_count (hr.mono (by decide)) (pa_cons (pv 1) pa_nil)))) (pss_one ps_never)
        pss_nil)
      (pss_cons (ps_if (pt_not (pt_val (pe_has his_count_to (hr.mono (by decide)) (pa_cons (pv 2) (pa_cons (pe_glob (v := .int 400) rfl g_MOST_LETTERS ⟨_, rfl⟩) pa_nil))))) (pss_one ps_never)
        pss_nil)
      (pss_one (ps_ret (pe_has hletters_from (hr.mono (by decide)) (pa_cons (pe_fld (pv 0) rfl) (pa_cons (pv 1) (pa_cons (pv 2) pa_nil)))))))), ?_⟩
    obtain ⟨dx, t, ys, ha, hb, hR, ok⟩ := id hL
    have e : goodC (.int (first : Nat)) = true := by
      show decide ((0 : Int) ≤ ((first : Nat) : Int)) = true
      exact decide_eq_true (Int.natCast_nonneg first)
    have e2 : goodI 400 (.int (many : Nat)) = true := by
      show (decide ((0 : Int) ≤ ((many : Nat) : Int)) && decide (((many : Nat) : Int) ≤ 400)) = true
      rw [decide_eq_true (Int.natCast_nonneg many), decide_eq_true (by omega)]
      rfl
    refine ⟨_, rfl, .int (first : Nat), rfl, .int _ hlog, _, rfl, ?_⟩
    rw [e]
    refine iteF ?_
    refine next_of ?_
    dsimp only
    refine ⟨_, rfl, .int (many : Nat), 400, rfl, .int _ (slog (by omega)), _, rfl, ?_⟩
    rw [e2]
    refine iteF ?_
    refine next_of ?_
    dsimp only
    exact ⟨_, rfl, a, CL, dx, _, _, rfl, ha, T.cl, T.nr, rfl, _, rfl, _, rfl, t, ys, ws, first, many, rfl, hR, ok.1, fun r hr => (ok.2 r hr).1, hm, k⟩
abbrev s__check_other : Stmt := top 55
theorem sc__check_other : FnScope ["book", "other"] ["book", "other"] (defScope s__check_other) := ⟨rfl, rfl, rfl, by decide +kernel, rfl, by decide +kernel, by decide +kernel⟩
theorem h_check_other (B : Blts mg) (U : BookT K mg CB) (T : LongT K mg CL) (neB : PySem.W.findIn K (.ref CB) "__ne__" = some (some (.builtin "object.__ne__"))) (F : FunAt K mg "_check_other" "_check_other" s__check_other) (m_eqB : HasM P w K mg base CB "__eq__" 6 ["self", "other"] (spEqB K CB C)) (p_book : HasP P w K mg base CL "book" 1 (spGetB false K CL CB C)) : Has P w K mg base "_check_other" 8 ["book", "other"] (spCheckO K CL CB C) := by
  refine has_of F sc__check_other (fun _ _ _ _ _ _ us hl => match us, hl with | [_, _], _ => rfl) (fun vs H Q E h => ?_) (fun f cdv A outer s H vs Q E hr h => ?_)
  · obtain ⟨_, _, _, _, _, _, rfl, _⟩ := h
    rfl
  · obtain ⟨a, b, b2, rs, qs, ws, rfl, hL, hb, kq, k⟩ := h
    refine ⟨_, (pss_one (ps_if (PW.pt (pw_or (pt_not (pt_val (pe_callB call_isi (by rfl) B.n_isinstance (by decide +kernel) (pa_cons (pv 1) (pa_cons (pe_glob (v := .ref CL) rfl T.g rfl) pa_nil))))) (pw_or1 (pt_cmpR (op_neKind U.own.mo neB m_eqB (hr.mono (by decide))) (pe_hasP p_book T.cl (hr.mono (by decide)) (pv 1)) (pv 0) (by first | exact nomark _ | rfl))))) (pss_one ps_never)
        pss_nil)), ?_⟩
    obtain ⟨dx, t, ys, ha, hb2, hR, ok⟩ := id hL
    obtain ⟨db, _, _, _, _, hbi, _⟩ := id hb
    obtain ⟨db2, _, _, _, _, hbi2, _⟩ := id hb2
    refine ⟨_, rfl, _, _, _, _, true, rfl, .own CL, T.own.ty ha, kit_self, true, rfl, iteF ?_⟩
    refine ⟨_, rfl, a, dx, _, rfl, ha, a, b2, rs, qs, ws, rfl, hL, _, rfl, b2, db2, _, .ref CB, rfl, hbi2, U.own.ty hbi, notFirst_self, b2, .ref b, rs, qs, rfl, hb2, kq, .inl ⟨b, rs, qs, rfl, hb, kq, fun H1 s1 => ⟨_, rfl, _, rfl, ?_⟩⟩⟩
    rw [decide_eq_true rfl]
    exact iteF (k H1 s1)
abbrev s_LongWord___eq__ : Stmt := inClass (top 53) 14
theorem sc_LongWordD_eqD : FnScope ["self", "other"] ["self", "other"] (defScope s_LongWord___eq__) := ⟨rfl, rfl, rfl, by decide +kernel, rfl, by decide +kernel, by decide +kernel⟩
theorem m_eqL (B : Blts mg) (U : BookT K mg CB) (T : LongT K mg CL) (F : MethAt K CL "__eq__" "LongWord.__eq__" s_LongWord___eq__) (m_eqB : HasM P w K mg base CB "__eq__" 6 ["self", "other"] (spEqB K CB C)) (h_same_letters : Has P w K mg base "_same_letters" 4 ["runs", "others"] (spSame K)) : HasM P w K mg base CL "__eq__" 7 ["self", "other"] (spEqL K CL CB C) := by
  refine hasM_of F sc_LongWordD_eqD (fun _ _ _ _ _ _ us hl => match us, hl with | [_, _], _ => rfl) (fun vs H Q E h => ?_) (fun f cdv A outer s H vs Q E hr h => ?_)
  · obtain ⟨_, _, _, _, _, _, _, _, rfl, _⟩ := h
    rfl
  · obtain ⟨a, a2, b, b2, rs, qs, ws, os, rfl, hL, hM, kq, k⟩ := h
    refine ⟨_, (pss_one (ps_ret (pe_and (pe_callB call_isi (by rfl) B.n_isinstance (by decide +kernel) (pa_cons (pv 1) (pa_cons (pe_glob (v := .ref CL) rfl T.g rfl) pa_nil))) (pe_and (pe_cmpR (op_eqKind m_eqB (hr.mono (by decide))) (pe_fld (pv 0) rfl) (pe_fld (pv 1) rfl) (by first | exact nomark _ | rfl)) (pe_one (pe_has h_same_letters (hr.mono (by decide)) (pa_cons (pe_fld (pv 0) rfl) (pa_cons (pe_fld (pv 1) rfl) pa_nil)))))))), ?_⟩
    obtain ⟨dx, t, ys, ha, hb, hR, ok⟩ := id hL
    obtain ⟨dx2, t2, ys2, ha2, hb2, hR2, ok2⟩ := id hM
    obtain ⟨db, _, _, _, _, hbi, _⟩ := id hb
    obtain ⟨db2, _, _, _, _, hbi2, _⟩ := id hb2
    refine ⟨_, rfl, _, _, _, _, true, rfl, .own CL, T.own.ty ha2, kit_self, true, rfl, iteT ?_⟩
    refine ⟨_, rfl, a, CL, dx, _, _, rfl, ha, T.cl, T.nb, rfl, _, rfl, a2, CL, dx2, _, _, rfl, ha2, T.cl, T.nb, rfl, b, db, _, .ref CB, rfl, hbi, U.own.ty hbi2, notFirst_self, b, .ref b2, rs, qs, rfl, hb, kq, .inl ⟨b2, rs, qs, rfl, hb2, kq, fun H1 s1 => ⟨_, rfl, ?_⟩⟩⟩
    rw [decide_eq_true rfl]
    refine iteT ?_
    exact ⟨_, rfl, a, CL, dx, _, _, rfl, s1 _ _ ha, T.cl, T.nr, rfl, _, rfl, a2, CL, dx2, _, _, rfl, s1 _ _ ha2, T.cl, T.nr, rfl, t, t2, ys, ys2, ws, os, rfl, hR.same s1, hR2.same s1, ok.1, ok2.1, fun r hr => (ok.2 r hr).1, fun r hr => (ok2.2 r hr).1, fun H2 s2 => k H2 (s1.trans s2)⟩
end
end N

set_option maxHeartbeats 4000000
/-! cls(*y), cls a slot that holds a class; C.m() of a classmethod -/
namespace L2
open PySem PySem.Spec PyProof.Rows
section
variable {X : Cx} {CX : CXT} {k i : Nat} {C f p g : Addr} {mc : Value} {sp : Sp} {E : XK} {o e : Expr} {x m : Str} {pos apos np sp_ : Pos} {ta te : TE} {pl : Sem Bool}
theorem pe_makeLS (M : Mk X.K C f) (F : FnR X.prog X.w X.K X.mg X.base CX k f sp) (hr : Room (k + 1) X.A) (hN : X.N[i]? = some x) (hv : Vis X.env.scope x) (hx : Passes CX X E) (he : PE X e te)
    (hdb : (x == ("__debug__" : Str)) = false := by decide) (hcd : (x == ("__classdict__" : Str)) = false := by decide) (hst : starEach [.Starred e sp_] X.env = [(true, eval e X.env)] := by rfl) :
    PE X (.Call (.Name x np) [.Starred e sp_] [] pos) (fun σ H Q => σ[i]? = some (some (.ref C)) ∧ te σ H fun y H1 => ∃ a xs, y = V.ref a ∧ (SqT X.K H1 a xs ∨ SqL X.K H1 a xs) ∧ ∀ z dx, H1 z = Option.none → H1 dx = Option.none → dx ≠ z →
      sp (V.ref z :: xs) (upd (upd H1 dx (.own z)) z (.ins C dx [])) (fun v H2 => v = .non ∧ Q (.ref z) H2) E) := by
  refine ⟨fun pins s σ H Q I h => ?_⟩
  obtain ⟨hs, ht⟩ := h
  refine wpAny_Call_Name_kw (thn ((pe_var (pos := np) hN hv hdb hcd).run pins s σ H (fun v H1 => v = .ref C ∧ H1 = H) I ⟨.ref C, hs, rfl, rfl⟩) fun u s1 z => ?_)
  obtain ⟨v, H1, I1, r1, rfl, rfl⟩ := z
  cases r1
  refine PySem.W.callWith_S (h₀ := X.base) I.ok.mod.kin M.kp (thn (he.run pins s1 σ _ _ I1 ht) fun v s2 z => ?_) hst
  obtain ⟨y, H2, I2, ry, a, xs, ey, hxs, q⟩ := z
  subst ey
  obtain rfl : v = Value.ref a := ry
  exact StX.star_any I2 hxs fun us s3 I3 rv => ⟨I3.kIn, StX.run_makeR M F hr hx I3 rv q⟩
theorem pe_cmeth0 (he : PE X o ta) (r : ClX.CRead X.K C mc) (c : ClX.CMet X.K C mc m p g) (F : FnR X.prog X.w X.K X.mg X.base CX k g sp) (hr : Room k X.A) (hx : Passes CX X E)
    (ht : eval (.Call (.Attribute o m apos) [] [] pos) X.env = (do
      let ov ← eval o X.env
      standAt apos.atName
      let (f, first) ← holding [ov] (getMethod ov m pl)
      callWith pos f first (backTo pos (starEach [] X.env)) (backToKw pos (keywordEach [] X.env))) := by rfl) :
    PE X (.Call (.Attribute o m apos) [] [] pos) (fun σ H Q => ta σ H fun x H1 => x = V.ref C ∧ sp [V.ref C] H1 Q E) := by
  refine ⟨fun pins s σ H Q I h => ?_⟩
  refine PySem.W.methodCall_KW (pl := pl) (thn (he.run pins s σ H _ I h) fun u s1 z => ?_) ht
  obtain ⟨x, H1, I1, rx, ex, q⟩ := z
  subst ex
  obtain rfl : u = Value.ref C := rx
  refine ClX.getmethcm_ok I1 r c fun s2 I2 => ?_
  exact PySem.W.callWith_M0 ⟨ClX.pin_at I2, I2.kIn⟩ c.fi (ClX.run_cm F hr hx I2 .nil q)
end
end L2

set_option maxHeartbeats 4000000
namespace L2
open PySem PySem.Spec PyProof.Rows
section
variable {X : Cx} {CX : CXT} {k i : Nat} {C f : Addr} {fd : FuncData} {ps : List Str} {sp : Sp} {dvs : List V} {ds : List Value} {E : XK} {e : Expr} {es : List Expr} {x : Str} {pos np : Pos} {t : TA}
/-- cls(e, ..), cls a slot that holds the class at C -/
theorem pe_makeL (M : Mk X.K C f) (F : FnOk X.prog X.w X.K X.mg X.base CX k f fd ps sp) (hr : Room (k + 1) X.A) (hN : X.N[i]? = some x) (hv : Vis X.env.scope x) (hb : Binds X.K fd ps ds) (hd : Vals dvs ds) (hx : Passes CX X E)
    (ha : PA X (e :: es) t) (hdb : (x == ("__debug__" : Str)) = false := by decide) (hcd : (x == ("__classdict__" : Str)) = false := by decide)
    (he : starEach (e :: es) X.env = (false, eval e X.env) :: starEach es X.env := by rfl) (hpl : (backTo pos (starEach es X.env)).any (·.1) = false := by rfl) :
    PE X (.Call (.Name x np) (e :: es) [] pos) (fun σ H Q => σ[i]? = some (some (.ref C)) ∧ tMake C sp dvs E t σ H Q) := by
  refine ⟨fun pins s σ H Q I h => ?_⟩
  obtain ⟨hs, ht⟩ := h
  refine wpAny_Call_Name_kw (thn ((pe_var (pos := np) hN hv hdb hcd).run pins s σ H (fun v H1 => v = .ref C ∧ H1 = H) I ⟨.ref C, hs, rfl, rfl⟩) fun u s1 z => ?_)
  obtain ⟨v, H1, I1, r1, rfl, rfl⟩ := z
  cases r1
  refine PySem.W.callWith_K (h₀ := X.base) I.ok.mod.kin M.kp (thn (ha.run pos pins s1 σ _ _ I1 ht) fun us s2 ⟨vs, H2, I2, r, q⟩ => ⟨I2.kIn, ?_⟩) he hpl
  exact run_make M F hr hb hd hx I2 r q
end
end L2
namespace N
open PySem L2
structure ClsAt (K : PySem.W.Frag) (C : Addr) (mc : Value) (m qual : Str) (st : Stmt) (p g : Addr) : Prop where
  ex : ∃ fd : FuncData, ClX.CMet K C mc m p g ∧ Fun K m qual st g fd
theorem rg240 (n : Nat) (h : n ≤ 240) : RgC 0 (n : Nat) 240 (if n = 0 then 0 else 1) := by
  have z : ∀ n ∈ List.range 241, Builtin.Range.small 0 (n : Nat) 240 = true ∧ Builtin.Range.rangeSize 0 (n : Nat) 240 = ((if n = 0 then 0 else 1 : Nat) : Int) ∧ True := by decide +kernel
  obtain ⟨a, b, _⟩ := z n (List.mem_range.mpr (by omega))
  exact ⟨by decide, by decide, a, b⟩
def ofR (us : List Row) : List Run := if us = [] then [] else [(us, 1)]
def spOf (K : PySem.W.Frag) (CL CB C : Addr) : Sp := fun vs H Q _ => ∃ (b t : Addr) (rs qs us : List Row), vs = [.ref CL, .ref b, .ref t] ∧ BookAt CB C H b rs qs ∧ H t = some (.tup (wordV us)) ∧ WordOf rs us ∧ (∀ u ∈ rs, KindOk u) ∧
  ∀ a H', H a = none → Same H H' → LongAt false K CL CB C H' a b rs qs (tidyR (ofR us)) → Q (.ref a) H'
theorem KindOk.str {u : Row} (h : KindOk u) : PyData.strOk u.name = true := by
  have z := shaped_row h
  have q : PyData.canLay0 (.tuple (rowD u)) = true := by
    unfold SeqAt.shaped at z
    simp only [Bool.and_eq_true] at z
    exact z.1
  simp [rowD, PyData.canLay0, PyData.canLayAll0] at q
  exact q.1
theorem ofR_parts {rs us : List Row} (hw : WordOf rs us) (hk : ∀ u ∈ rs, KindOk u) : PartsOk rs (ofR us) := by
  unfold ofR
  split
  · exact ⟨by simp, fun _ h => nomatch h⟩
  · refine ⟨by simp, fun r hr => ?_⟩
    rw [List.mem_singleton.mp hr]
    exact ⟨⟨hw.1, fun u hu => (hk u (hw.2 u hu)).str⟩, hw, slog (n := 1) (by decide)⟩
section
variable {P : Program} {w : World} {K : PySem.W.Frag} {mg : Str → Option Value} {base : Heap} {C CB CL : Addr} {Cs : Nat → Addr}
abbrev s_LongWord_of : Stmt := inClass (top 53) 1
theorem sc_LongWord_of : FnScope ["cls", "book", "names", "name", "parts", "first"] ["cls", "book", "names"] (defScope s_LongWord_of) := ⟨rfl, rfl, rfl, by decide +kernel, rfl, by decide +kernel, by decide +kernel⟩
theorem c_of {mc : Value} {p g fL : Addr} {fdL : FuncData} (B : Blts mg) (U : BookT K mg CB) (T : LongT K mg CL) (F : ClsAt K CL mc "of" "LongWord.of" s_LongWord_of p g) (m_contains : HasM P w K mg base CB "__contains__" 1 ["self", "x"] (spIn CB C))
    (ML : Mk K CL fL) (BL : Binds K fdL ["self", "book", "parts"] []) (FL : FnOk P w K mg base CX0 4 fL fdL ["self", "book", "parts"] (spLInit false K CL CB C)) :
    FnR P w K mg base CX0 6 g (fun vs H Q E => ∃ ws rest, vs = ws ++ rest ∧ ws.length = (["cls", "book"] : List Str).length ∧ rest.length ≤ sizeLine ∧ ∀ p, H p = Option.none → spOf K CL CB C (ws ++ [V.ref p]) (upd H p (.tup rest)) Q E) := by
  obtain ⟨fd, hc, Fu⟩ := F.ex
  obtain ⟨oc, od, kV, doc, pm, an, cdv, ct, osl, efd, lk, hcd⟩ := Fu.ex
  obtain ⟨_, g_NAMES⟩ := T.names
  subst efd
  refine StX.fn_star (ps := ["cls", "book"]) (pv := "names") (N := ["cls", "book", "names", "name", "parts", "first"]) lk hcd sc_LongWord_of StX.cxUp_none (StX.bind_star2 (B := fun us => bindArgs (PySem.W.fnOf "of" "LongWord.of" (defArgs s_LongWord_of) (defBody s_LongWord_of) (defScope s_LongWord_of) .none kV doc pm an cdv ct) ⟨us, []⟩) (fun a b => rfl) (fun a b r rs => rfl)) (fun A outer s H vs Q E hr h => ?_)
  obtain ⟨b, t, rs, qs, us, ev, hb, ht, hw, hk, k⟩ := h
  have go : ∃ t', PSs (cxOf CX0 P w K mg base ["cls", "book", "names", "name", "parts", "first"] "LongWord.of" (defScope s_LongWord_of) g cdv A outer s H E).nox (defBody s_LongWord_of) t' ∧ t' { nx := fun _ H' => Q .non H', rt := Q } (start ["cls", "book", "names", "name", "parts", "first"] vs) H := by
    subst ev
    refine ⟨_, (pss_cons (ps_if (pt_not (pt_val (pe_callB call_isi (by rfl) B.n_isinstance (by decide +kernel) (pa_cons (pv 1) (pa_cons (pe_glob (v := .ref CB) rfl U.g rfl) pa_nil))))) (pss_one ps_never)
        pss_nil)
      (pss_cons (ps_for PassesOwn.never rfl (pi_tup (pv 2)) (pg_name (i := 3) sc_LongWord_of.nd rfl (Or.inl rfl))
        (pss_one (ps_if (pt_cmpR (op_notInM m_contains (hr.mono (by decide))) (pv 3) (pv 1) (by first | exact nomark _ | rfl)) (pss_one ps_never)
          pss_nil)))
      (pss_cons (ps_setLc (i := 4) (own := [("first", 5)]) rfl sc_LongWord_of.nd rfl rfl (sw_true rfl rfl rfl (by decide +kernel)) (pi_range3 (by rfl) B.n_range (pa_cons pe_int (pa_cons (pe_callB call_len (by rfl) B.n_len PySem.boot_len (pa_cons (pv 2) pa_nil)) (pa_cons (pe_glob (v := .int 240) rfl g_NAMES ⟨_, rfl⟩) pa_nil)))) (blkOk_by (own := [("first", 5)]) (N := ["cls", "book", "names", "name", "parts", "first"]) (sc := defScope s_LongWord_of) (by decide +kernel)) (fun _ _ _ _ _ => by exact (pg_name (i := 5) sc_LongWord_of.nd rfl (Or.inl rfl))) (fun _ _ _ _ _ => by exact pts_nil) (fun _ _ _ _ _ => by exact (pe_tup (pa_cons (pe_slice (sl_tupAK K) (pv 2) (po_some (pv 5)) (po_some (pe_op op_add (pv 5) (pe_glob (v := .int 240) rfl g_NAMES ⟨_, rfl⟩)))) (pa_cons pe_int pa_nil)))))
      (pss_one (ps_ret (pe_makeL (i := 0) ML FL (hr.mono (by decide)) rfl (Or.inl rfl) BL .nil pass0 (pa_cons (pv 1) (pa_cons (pv 4) pa_nil)))))))), ?_⟩
    obtain ⟨db, _, _, _, _, hbi, _⟩ := id hb
    have hT : SqT K H t (wordV us) := SqT.of ht
    refine ⟨_, rfl, _, _, _, _, true, rfl, .own CB, U.own.ty hbi, kit_self, true, rfl, iteF ?_⟩
    refine next_of ?_
    dsimp only
    refine ⟨_, rfl, t, rfl, ⟨_, hT⟩, for_tup (K := K) (a := t) (xs := wordV us) (fun i σ H' => ∃ v3 : Option V, σ = [some (.ref CL), some (.ref b), some (.ref t), v3, none, none] ∧ H' = H) ⟨none, rfl, rfl⟩ (fun i σ H' _ ⟨_, _, e⟩ => by rw [e]; exact hT) ?_ ?_⟩
    · rintro i x σ H' hx ⟨v3, rfl, rfl⟩
      obtain ⟨u, hu, rfl⟩ := map_at hx
      have mu := hw.2 u (List.mem_of_getElem? hu)
      have hn := (hk u mu).name
      have hin : inBook rs (.str u.name) = true := decide_eq_true (List.mem_map_of_mem mu)
      refine ⟨_, rfl, _, rfl, b, db, _, rfl, hbi, b, .str u.name, rs, qs, rfl, hb, .str u.name (by have := hn.2.1; omega) hn.sign, ?_⟩
      exact ⟨_, rfl, _, rfl, ite2 (fun c => absurd c (by rw [hin]; decide)) (fun _ => ⟨_, rfl, rfl⟩)⟩
    · rintro σ H' ⟨v3, rfl, rfl⟩
      refine ⟨_, rfl, _, us.length, rfl, .inr ⟨_, hT, (wordV_len us).symm⟩, 0, _, 240, _, rfl, rg240 us.length hw.1, fun D nD => ?_⟩
      refine lc_it walk_rangeC (fun i Hh => Same H' Hh ∧ ∃ as : List V, Hh D = some (.lst as) ∧ as.length = i ∧ Paired (RunV false Hh) as ((ofR us).take i)) ⟨Same.new nD, [], upd_same, rfl, .nil⟩ (fun i Hh _ p => trivial) ?_ (fun Hz p => ?_)
      · rintro i x H1 H2 hi ⟨p1, as, hD, hl, hp⟩ ⟨rfl, rfl⟩
        have ne : us ≠ [] := fun z => by
          subst z
          simp at hi
        have un : ¬ us.length = 0 := fun z => ne (List.eq_nil_of_length_eq_zero z)
        rw [if_neg un] at hi
        obtain rfl : i = 0 := by omega
        obtain rfl : as = [] := List.eq_nil_of_length_eq_zero hl
        have hT2 := p1.st hT
        have w240 := hw.1
        have wl := wordV_len us
        simp only [tYes, if_true]
        refine ⟨rfl, _, rfl, _, rfl, _, rfl, _, rfl, _, _, rfl, rfl, _, rfl, t, _, rfl, hT2, fun _ => ?_, fun nw => absurd ⟨?_, ?_⟩ nw⟩
        · refine ⟨(by show 2 ≤ sizeLine; decide), fun z nz => ⟨[], (upd_ne (ne_of_none hD nz)).trans hD, by show 0 < sizeLine; decide, ?_⟩⟩
          have Dz : D ≠ z := ne_of_none hD nz
          have hN : Same H' (upd (upd H2 z (.tup [.ref t, .int 1])) D (.lst ([] ++ [.ref z]))) := (p1.trans (Same.new nz)).mut nD
          refine ⟨hN, _, upd_same, rfl, ?_⟩
          have eo : (ofR us).take (0 + 1) = [(us, 1)] := by
            unfold ofR
            rw [if_neg ne]
            rfl
          rw [eo]
          refine .cons ⟨z, t, rfl, .inl ?_, .inl (hN _ _ ht)⟩ .nil
          rw [upd_ne (Ne.symm Dz), upd_same]
          rfl
        · show HT.sIx _ 0 (some (0 + ((0 : Nat) : Int) * 240)) = 0
          rw [show (0 + ((0 : Nat) : Int) * 240) = ((0 : Nat) : Int) by rfl, HT.sIx_nat]
          omega
        · show HT.sIx _ _ (some (0 + ((0 : Nat) : Int) * 240 + 240)) = _
          rw [show (0 + ((0 : Nat) : Int) * 240 + 240) = ((240 : Nat) : Int) by rfl, HT.sIx_nat, wl]
          omega
      · obtain ⟨p1, as, hD, hl, hp⟩ := p
        have eo : (ofR us).take (if us.length = 0 then 0 else 1) = ofR us := by
          unfold ofR
          by_cases z : us = []
          · subst z
            rfl
          · rw [if_neg z, if_neg fun y => z (List.eq_nil_of_length_eq_zero y)]
            rfl
        rw [eo] at hp
        refine next_of ?_
        dsimp only
        refine ⟨rfl, _, rfl, _, rfl, fun z dz hz hdz ne => ?_⟩
        have s7 := made_odd (C := CL) hz hdz ne
        have nz : H' z = none := by
          cases e : H' z with
          | none => rfl
          | some o => rw [p1 _ _ e] at hz; cases hz
        refine ⟨z, dz, b, D, as, rs, qs, ofR us, rfl, upd_same, (hb.same p1).same s7, .inl (s7 _ _ hD), paired_imp (fun _ _ h => h.same s7) hp, ofR_parts hw hk, fun t2 ys H8 bt hx8 hR => ⟨rfl, ?_⟩⟩
        have s8 := p1.trans (made_same hz hdz bt)
        exact k z H8 nz s8 ⟨dz, t2, ys, hx8, hb.same s8, hR, (ofR_parts hw hk).runs⟩
  obtain ⟨t', h1, h2⟩ := go
  exact ⟨t', h1.nox, h2⟩
end
end N

set_option maxHeartbeats 4000000
namespace N
open PySem L2
/-- the kinds of the usual book, in the sequence of the package's table -/
def usualK : List Row := [⟨"k", 1, 1, some "p", some "k", 1⟩, ⟨"p", 1, 1, some "k", some "p", 1⟩, ⟨"yo", 0, 1, some "yo", some "yo", 1⟩, ⟨"ktog", 2, 1, some "ptog", some "ssk", 1⟩, ⟨"ssk", 2, 1, some "ssp", some "ktog", 1⟩,
  ⟨"ptog", 2, 1, some "ktog", some "ssp", 1⟩, ⟨"ssp", 2, 1, some "ssk", some "ptog", 1⟩, ⟨"cdd", 3, 1, none, some "cdd", 1⟩, ⟨"kfb", 1, 2, none, some "kfb", 1⟩, ⟨"bo", 1, 0, some "bo", some "bo", 1⟩]
theorem usual_nodup : (usualK.map (·.name)).Nodup := by decide +kernel
theorem usual_yarn : ∀ u ∈ usualK, u.yarn = 1 := by decide +kernel
theorem usual_names : ∀ u ∈ usualK, NameOk u.name := by decide +kernel
theorem usual_ok : ∀ u ∈ usualK, KindOk u := by
  have nm := usual_names
  have tw : ∀ u ∈ usualK, (∀ x ∈ u.back, x ∈ usualK.map (·.name)) ∧ (∀ x ∈ u.mirror, x ∈ usualK.map (·.name)) := by decide +kernel
  have nb : ∀ u ∈ usualK, (0 ≤ u.takes ∧ u.takes ≤ 6) ∧ (0 ≤ u.makes ∧ u.makes ≤ 6) ∧ ¬ (u.takes = 0 ∧ u.makes = 0) ∧ (0 ≤ u.yarn ∧ u.yarn ≤ 999) := by decide +kernel
  intro u hu
  obtain ⟨a, b, c, d⟩ := nb u hu
  have up : ∀ {x : Str}, x ∈ usualK.map (·.name) → NameOk x := fun h => by
    obtain ⟨v, hv, rfl⟩ := List.mem_map.mp h
    exact nm v hv
  exact ⟨nm u hu, fun x e => up ((tw u hu).1 x e), fun x e => up ((tw u hu).2 x e), a, b, c, d⟩
theorem usual_fit : FitOk usualK := by
  have h : ∀ r ∈ usualK, (∀ x ∈ r.back, ∃ u ∈ usualK, u.name = x ∧ u.back = some r.name ∧ u.takes = r.takes ∧ u.makes = r.makes) ∧ (∀ x ∈ r.mirror, ∃ u ∈ usualK, u.name = x ∧ u.mirror = some r.name ∧ u.takes = r.takes ∧ u.makes = r.makes) ∧
      ∀ x ∈ r.back, ∀ y ∈ r.mirror, ∃ u ∈ usualK, ∃ w ∈ usualK, u.name = x ∧ w.name = y ∧ u.mirror ≠ none ∧ u.mirror = w.back := by decide +kernel
  exact ⟨fun r hr x e => (h r hr).1 x e, fun r hr x e => (h r hr).2.1 x e, fun r hr x y e1 e2 => (h r hr).2.2 x e1 y e2⟩
structure UsualT (K : PySem.W.Frag) (mg : Str → Option Value) : Prop where
  ex : ∃ (aU : Addr) (ts : List Addr), mg "_USUAL" = some (.ref aU) ∧ (∀ H, SqT K H aU (ts.map V.ref)) ∧ Paired (fun t (u : Row) => ∀ H, SqT K H t [.str u.name, .int u.takes, .int u.makes, ov u.back, ov u.mirror]) ts usualK
def spUsual (CB C : Addr) (T : List (Addr × Str)) : Sp := fun vs H Q _ => vs = [.ref CB] ∧ LamX.Tabs T H ∧ ∀ b H', H b = none → LamX.ExtN H H' → LamX.Tabs T H' → BookAt CB C H' b usualK (rowsSorted usualK) → Q (.ref b) H'
section
variable {P : Program} {w : World} {K : PySem.W.Frag} {mg : Str → Option Value} {base : Heap} {C CB : Addr} {Cs : Nat → Addr}
/-- Kind(n, t, m, back=b, mirror=i) -/
theorem hKind2 (B : Blts mg) (G : Globs mg) (T : KindT K mg C Cs) (I : InitAt K mg "Kind" C "Kind.__init__" s_Kind___init__ [] [("back", .non), ("mirror", .non), ("yarn", .int 1)])
    (his_name : Has P w K mg base "is_name" 1 ["value"] spIsName) (his_count_to : Has P w K mg base "is_count_to" 3 ["value", "most"] spCountTo) :
    MakX P w K mg base "Kind" C 4 3 ["self", "name", "takes", "makes", "back", "mirror", "yarn"] ["back", "mirror"] (spKind C Cs) (fun vs zs => vs ++ (zs ++ [.int 1])) := by
  obtain ⟨f, fd, hm, M, F⟩ := I.ex
  obtain ⟨mv, hb⟩ := F.kbinds0 (ps := ["self", "name", "takes", "makes", "back", "mirror", "yarn"]) 4 ["back", "mirror"] [("yarn", .int 1)] (fun us ms ws => us ++ (ws ++ ms)) (by simp) (fun q h => by simp at h; subst h; simp) (fun a b c => a.append (c.append b))
    (fun D doc pm an cdv ct us mv ws hu hm hw => match us, mv, ws, hu, hm, hw with | [_, _, _, _], [_], [_, _], _, _, _ => ⟨_, _, _, _, _, _, rfl, rfl, rfl⟩)
  exact ⟨f, fd, _, hm, M, hb, ok_kind B G T F his_name his_count_to⟩
/-- Kind(n, t, m, back=b) -/
theorem hKind1 (B : Blts mg) (G : Globs mg) (T : KindT K mg C Cs) (I : InitAt K mg "Kind" C "Kind.__init__" s_Kind___init__ [] [("back", .non), ("mirror", .non), ("yarn", .int 1)])
    (his_name : Has P w K mg base "is_name" 1 ["value"] spIsName) (his_count_to : Has P w K mg base "is_count_to" 3 ["value", "most"] spCountTo) :
    MakX P w K mg base "Kind" C 4 3 ["self", "name", "takes", "makes", "back", "mirror", "yarn"] ["back"] (spKind C Cs) (fun vs zs => vs ++ (zs ++ [.non, .int 1])) := by
  obtain ⟨f, fd, hm, M, F⟩ := I.ex
  obtain ⟨mv, hb⟩ := F.kbinds0 (ps := ["self", "name", "takes", "makes", "back", "mirror", "yarn"]) 4 ["back"] [("mirror", .non), ("yarn", .int 1)] (fun us ms ws => us ++ (ws ++ ms)) (by simp) (fun q h => by simp at h; rcases h with h | h <;> subst h <;> simp) (fun a b c => a.append (c.append b))
    (fun D doc pm an cdv ct us mv ws hu hm hw => match us, mv, ws, hu, hm, hw with | [_, _, _, _], [_, _], [_], _, _, _ => ⟨_, _, _, _, _, _, rfl, rfl, _, _, _, _, _, _, rfl, rfl, rfl⟩)
  exact ⟨f, fd, _, hm, M, hb, ok_kind B G T F his_name his_count_to⟩
abbrev s_Book_usual : Stmt := inClass (top 34) 1
theorem sc_Book_usual : FnScope ["cls", "kinds", "name", "takes", "makes", "back", "mirror"] ["cls"] (defScope s_Book_usual) := ⟨rfl, rfl, rfl, by decide +kernel, rfl, by decide +kernel, by decide +kernel⟩
theorem c_usual {mc : Value} {p g fB : Addr} {T : List (Addr × Str)} (B : Blts mg) (KT : KindT K mg C Cs) (U : BookT K mg CB) (UT : UsualT K mg) (F : ClsAt K CB mc "usual" "Book.usual" s_Book_usual p g)
    (hKind2 : MakX P w K mg base "Kind" C 4 3 ["self", "name", "takes", "makes", "back", "mirror", "yarn"] ["back", "mirror"] (spKind C Cs) (fun vs zs => vs ++ (zs ++ [.int 1])))
    (MB : Mk K CB fB) (FB : FnR P w K mg base CX0 6 fB (fun vs H Q E => ∃ ws rest, vs = ws ++ rest ∧ ws.length = (["self"] : List Str).length ∧ rest.length ≤ sizeLine ∧ ∀ p, H p = Option.none → spBInit CB C T (ws ++ [V.ref p]) (upd H p (.tup rest)) Q E)) :
    FnR P w K mg base CX0 8 g (spUsual CB C T) := by
  obtain ⟨fd, hc, Fu⟩ := F.ex
  obtain ⟨aU, ts, hmU, hU, hT⟩ := UT.ex
  have ok : FnOk P w K mg base CX0 8 g fd ["cls"] (spUsual CB C T) := by
    refine Fu.ok sc_Book_usual (fun vs H Q E h => ?_) (fun cdv A outer s H vs Q E hr h => ?_)
    · rw [h.1]
      rfl
    · obtain ⟨rfl, hTb, k⟩ := h
      have go : ∃ t', PSs (cxOf CX0 P w K mg base ["cls", "kinds", "name", "takes", "makes", "back", "mirror"] "Book.usual" (defScope s_Book_usual) g cdv A outer s H E).nox (defBody s_Book_usual) t' ∧ t' { nx := fun _ H' => Q .non H', rt := Q } (start ["cls", "kinds", "name", "takes", "makes", "back", "mirror"] [.ref CB]) H := by
        refine ⟨_, (pss_cons (ps_setLc (i := 1) (own := [("name", 2), ("takes", 3), ("makes", 4), ("back", 5), ("mirror", 6)]) rfl sc_Book_usual.nd rfl rfl (sw_true rfl rfl rfl (by decide +kernel)) (pi_tup (pe_glob (v := .ref aU) rfl hmU rfl)) (blkOk_by (own := [("name", 2), ("takes", 3), ("makes", 4), ("back", 5), ("mirror", 6)]) (N := ["cls", "kinds", "name", "takes", "makes", "back", "mirror"]) (sc := defScope s_Book_usual) (by decide +kernel)) (fun _ _ _ _ _ => by exact (pg_tupK K 5 rfl rfl (pgs_cons (pg_name (i := 2) sc_Book_usual.nd rfl (Or.inl rfl)) (pgs_cons (pg_name (i := 3) sc_Book_usual.nd rfl (Or.inl rfl)) (pgs_cons (pg_name (i := 4) sc_Book_usual.nd rfl (Or.inl rfl)) (pgs_cons (pg_name (i := 5) sc_Book_usual.nd rfl (Or.inl rfl)) (pgs_cons (pg_name (i := 6) sc_Book_usual.nd rfl (Or.inl rfl)) pgs_nil))))))) (fun _ _ _ _ _ => by exact pts_nil) (fun _ _ _ _ _ => by exact (pe_makX hKind2 (hr.mono (by decide)) passL (pa_cons (pv 2) (pa_cons (pv 3) (pa_cons (pv 4) pa_nil))) (pk_cons (pv 5) (pk_cons (pv 6) pk_nil)))))
          (pss_one (ps_ret (pe_makeLS (i := 0) MB FB (hr.mono (by decide)) rfl (Or.inl rfl) pass0 (pv 1))))), ?_⟩
        have lt : ts.length = 10 := (paired_len hT).trans rfl
        refine ⟨aU, rfl, ⟨_, hU _⟩, fun D nD => lc_it walk_tup (fun i Hh => Same H Hh ∧ ∃ as : List Addr, Hh D = some (.lst (as.map V.ref)) ∧ as.length = i ∧ Paired (KindAt C Hh) as (usualK.take i)) ⟨Same.new nD, [], upd_same, rfl, .nil⟩ (fun i Hh _ p => hU _) ?_ (fun Hz p => ?_)⟩
        · rintro i x H1 H2 hi ⟨p1, as, hD, hl, hp⟩ ⟨rfl, hx⟩
          rw [List.length_map] at hi
          obtain ⟨q, hq, rfl⟩ := map_at hx
          obtain ⟨u, hu, ht⟩ := paired_get hT hq
          have mu := List.mem_of_getElem? hu
          have oku := usual_ok u mu
          have y1 := usual_yarn u mu
          have nf : u.six.fault = none := Row.sound oku
          refine ⟨q, _, rfl, ht _, rfl, _, _, rfl, _, _, rfl, _, _, rfl, _, _, rfl, _, _, rfl, rfl, rfl, ?_⟩
          simp only [tYes, if_true]
          refine ⟨_, rfl, _, rfl, _, rfl, _, rfl, _, rfl, rfl, rfl, fun z dz hz hdz ne => ?_⟩
          refine ⟨z, dz, u.six, ?_, upd_same, Row.odd oku _, fun _ H3 hkz e3 => ⟨rfl, ?_⟩, fun kk v hf => (by rw [nf] at hf; cases hf)⟩
          · show _ = V.ref z :: [V.str u.name, V.int u.takes, V.int u.makes, ov u.back, ov u.mirror, V.int u.yarn]
            rw [y1]
            rfl
          have s3 : Same H2 H3 := made_same hz hdz e3
          have hD3 := s3 _ _ hD
          have zD : z ≠ D := (ne_of_none hD hz).symm
          refine ⟨_, hD3, ?_, (p1.trans s3).mut nD, as ++ [z], ?_, by rw [List.length_append, hl]; rfl, ?_⟩
          · rw [List.length_map, hl, sizeLine_eq]
            omega
          · rw [upd_same, List.map_append]
            rfl
          · rw [List.take_add_one, hu]
            refine paired_app (paired_imp (fun a v ⟨da, k1⟩ => ⟨da, (upd_ne fun e => ?_).trans (s3 _ _ k1)⟩) hp) (.cons ⟨dz, (upd_ne zD).trans hkz⟩ .nil)
            rw [e, hD] at k1
            cases k1
        · obtain ⟨p1, as, hD, hl, hp⟩ := p
          rw [List.length_map, lt] at hl hp
          rw [show usualK.take 10 = usualK from rfl] at hp
          refine next_of ?_
          dsimp only
          refine ⟨rfl, _, rfl, D, _, rfl, .inr (SqL.of hD), fun z dz hz hdz ne => ?_⟩
          refine ⟨[V.ref z], as.map V.ref, rfl, rfl, ?_, fun t nt => ?_⟩
          · rw [List.length_map, hl]
            show 10 ≤ sizeLine
            decide
          have s7 := (made_odd (C := CB) hz hdz ne).trans (Same.new (o := .tup (as.map V.ref)) nt)
          have s8 := p1.trans s7
          have nz : H z = none := by
            cases e : H z with
            | none => rfl
            | some o =>
              rw [p1 _ _ e] at hz
              cases hz
          refine ⟨z, dz, t, as, usualK, rfl, (upd_ne (ne_of_none upd_same nt)).trans upd_same, upd_same, paired_imp (fun _ _ k1 => k1.same s7) hp, usual_fit, usual_nodup, ?_, by rw [hl]; decide, fun p hp => (hTb p hp).ext s8, fun H' nbx hT' bk => ⟨rfl, k z H' nz (fun a o ha n => nbx a o (ne_of_none ha nz) (s8 _ _ ha) n) hT' bk⟩⟩
          intro e
          rw [e] at hl
          cases hl
      obtain ⟨t', h1, h2⟩ := go
      exact ⟨t', h1, h2⟩
  exact (ok.raw (Fu.binds (fun _ _ _ _ _ _ us hl => match us, hl with | [_], _ => rfl)) .nil).imp fun vs H Q E h => by rw [List.append_nil]; exact h
end
end N

set_option maxHeartbeats 4000000
namespace N
open PySem L2
def leS (x y : Str) : Bool := decide (x.cps.toList ≤ y.cps.toList)
theorem leS_anti (a b : Str) (h : leS a b = true) (h2 : leS b a = true) : a = b := by
  have e := List.le_antisymm (of_decide_eq_true h) (of_decide_eq_true h2)
  cases a; cases b
  simpa using e
theorem rowsSorted_names (rs : List Row) : ((rowsSorted rs).map (·.name)).Perm (rs.map (·.name)) ∧ ((rowsSorted rs).map (·.name)).Pairwise (fun x y => leS x y = true) := by
  refine ⟨(List.mergeSort_perm _ _).map _, ?_⟩
  rw [List.pairwise_map]
  exact List.pairwise_mergeSort (le := fun x y : Row => decide (x.name.cps.toList ≤ y.name.cps.toList)) (fun a b c h1 h2 => decide_eq_true (List.le_trans (of_decide_eq_true h1) (of_decide_eq_true h2)))
    (fun a b => by
      rcases List.le_total a.name.cps.toList b.name.cps.toList with h | h
      · simp [h]
      · simp [h]) rs
theorem names_are {ys : List Str} {rs : List Row} (p : ys.Perm (rs.map (·.name))) (h : ys.Pairwise fun x y => leS x y = true) : ys = (rowsSorted rs).map (·.name) := by
  obtain ⟨p2, h2⟩ := rowsSorted_names rs
  exact (p.trans p2.symm).eq_of_pairwise (fun a b _ _ => leS_anti a b) h h2
theorem ltCps_of : ∀ {a b : List Nat}, a < b → PySem.Spec.ltCps a b = true
  | [], [], h => by simp at h
  | [], _ :: _, _ => by simp [PySem.Spec.ltCps]
  | _ :: _, [], h => by simp at h
  | x :: a, y :: b, h => by
    rw [List.cons_lt_cons_iff] at h
    rcases h with h | ⟨rfl, h⟩
    · simp [PySem.Spec.ltCps, h]
    · simp [PySem.Spec.ltCps, ltCps_of h]
theorem leS_of {x y : Str} (h : PySem.Spec.ltCps y.cps.toList x.cps.toList = false) : leS x y = true := by
  refine decide_eq_true ?_
  rw [← List.not_lt]
  intro z
  rw [ltCps_of z] at h
  cases h
theorem rising_pair : ∀ {x : Str} {r : List Str}, PyProof.Rows.risingS x r = true → (x :: r).Pairwise fun x y => leS x y = true
  | x, [], _ => List.pairwise_singleton _ _
  | x, y :: r, h => by
    unfold PyProof.Rows.risingS at h
    rw [Bool.and_eq_true] at h
    have ih := rising_pair h.2
    have xy : leS x y = true := leS_of (by simpa using h.1)
    refine List.pairwise_cons.mpr ⟨fun z hz => ?_, ih⟩
    rcases List.mem_cons.mp hz with e | hz
    · exact e ▸ xy
    · have yz := (List.pairwise_cons.mp ih).1 z hz
      exact decide_eq_true (List.le_trans (of_decide_eq_true xy) (of_decide_eq_true yz))
/-- sorted(model) is the sequence of the book's kinds -/
theorem sorted_are {ys : List Str} {rs : List Row} (p : ys.Perm (rs.map (·.name))) (h : PyProof.Rows.sortedS ys = true) : ys = (rowsSorted rs).map (·.name) := by
  refine names_are p ?_
  cases ys with
  | nil => exact List.Pairwise.nil
  | cons x r => exact rising_pair h
end N

set_option maxHeartbeats 4000000
namespace N
open PySem L2
theorem ShopAt.keys {H : Hp} {kvs : List (Key × V)} {rs : List Row} (hk : Paired (KvAt H) kvs rs) : kvs.map (·.1) = (rs.map (·.name)).map Sum.inr := by rw [kvs_keys hk, List.map_map]; rfl
theorem ShopAt.same {H H' : Hp} {d : Addr} {rs : List Row} (h : ShopAt H d rs) (e : Same H H') : ShopAt H' d rs := by
  obtain ⟨kvs, hd, hk⟩ := h
  exact ⟨kvs, e _ _ hd, paired_imp (fun _ _ ⟨a, x, ra⟩ => ⟨a, x, e _ _ ra⟩) hk⟩
theorem Same.kv {H H' : Hp} {kvs : List (Key × V)} {rs : List Row} (e : Same H H') (h : Paired (KvAt H) kvs rs) : Paired (KvAt H') kvs rs := paired_imp (fun _ _ ⟨a, x, ra⟩ => ⟨a, x, e _ _ ra⟩) h
theorem same_name {rs : List Row} (nd : (rs.map (·.name)).Nodup) {a b : Row} (ha : a ∈ rs) (hb : b ∈ rs) (e : a.name = b.name) : a = b := by
  induction rs with
  | nil => cases ha
  | cons r rs ih =>
    rw [List.map_cons, List.nodup_cons] at nd
    rcases List.mem_cons.mp ha with h1 | ha
    · rcases List.mem_cons.mp hb with h2 | hb
      · exact h1.trans h2.symm
      · refine absurd (List.mem_map_of_mem (f := (·.name)) hb) fun q => nd.1 ?_
        rw [← h1, e]
        exact q
    · rcases List.mem_cons.mp hb with h2 | hb
      · refine absurd (List.mem_map_of_mem (f := (·.name)) ha) fun q => nd.1 ?_
        rw [← h2, ← e]
        exact q
      · exact ih nd.2 ha hb
theorem sel_is {ms : List Row} (nd : (ms.map (·.name)).Nodup) (f : Row → Int) {u : Row} (hu : u ∈ ms) : selOf f ms u.name = f u := by
  unfold selOf
  cases h : ms.find? fun r => decide (r.name = u.name) with
  | none => exact absurd (List.find?_eq_none.mp h u hu) (by simp)
  | some b =>
    have hb := List.mem_of_find?_eq_some h
    have he : b.name = u.name := by simpa using List.find?_some h
    rw [same_name nd hb hu he]
    rfl
theorem sels {ms us : List Row} (nd : (ms.map (·.name)).Nodup) (f : Row → Int) (hw : ∀ u ∈ us, u ∈ ms) : ((us.map (·.name)).map (selOf f ms)).sum = sumOf f us := by
  rw [List.map_map]
  unfold sumOf
  congr 1
  exact List.map_congr_left fun u hu => sel_is nd f (hw u hu)
theorem SqT.kf {K : PySem.W.Frag} {H H' : Hp} {p : Addr} {xs : List V} (h : SqT K H p xs) (e : KeepF H H') : SqT K H' p xs := by
  rcases h with h | h
  · exact (TupAt.keep e h).st
  · exact .inr h
theorem KindAt.kf {C : Addr} {H H' : Hp} {a : Addr} {r : Row} (h : KindAt C H a r) (e : KeepF H H') : KindAt C H' a r := let ⟨dx, h⟩ := h; ⟨dx, e _ _ h fun _ z => by cases z⟩
theorem BookAt.kf {CB C : Addr} {H H' : Hp} {a : Addr} {rs qs : List Row} (h : BookAt CB C H a rs qs) (e : KeepF H H') : BookAt CB C H' a rs qs := by
  obtain ⟨dx, t, d, as, bs, h1, h2, h3, h4, h5, h6⟩ := h
  exact ⟨dx, t, d, as, bs, e _ _ h1 (fun _ z => by cases z), e _ _ h2 (fun _ z => by cases z), L2.Paired.mapP h3 fun _ _ k => k.kf e, e _ _ h4 (fun _ z => by cases z), L2.Paired.mapP h5 fun _ _ k => k.kf e, h6⟩
theorem ShopAt.kf {H H' : Hp} {d : Addr} {rs : List Row} (h : ShopAt H d rs) (e : KeepF H H') : ShopAt H' d rs := by
  obtain ⟨kvs, hd, hk⟩ := h
  exact ⟨kvs, e _ _ hd (fun _ z => by cases z), paired_imp (fun _ _ ⟨a, x, ra⟩ => ⟨a, x, e _ _ ra (fun _ z => by cases z)⟩) hk⟩
theorem RunsS.kf {b : Bool} {K : PySem.W.Frag} {H H' : Hp} {p : Addr} {vs : List V} {ws : List Run} (h : RunsS b K H p vs ws) (e : KeepF H H') : RunsS b K H' p vs ws := ⟨SqT.kf h.1 e, L2.Paired.mapP h.2 fun _ _ k => k.keep e⟩
theorem LongAt.kf {bb : Bool} {K : PySem.W.Frag} {CL CB C : Addr} {H H' : Hp} {a b : Addr} {rs qs : List Row} {ws : List Run} (h : LongAt bb K CL CB C H a b rs qs ws) (e : KeepF H H') : LongAt bb K CL CB C H' a b rs qs ws :=
  let ⟨dx, t, vs, h1, h2, h3, h4⟩ := h; ⟨dx, t, vs, e _ _ h1 (fun _ z => by cases z), h2.kf e, h3.kf e, h4⟩
theorem kf_pot {p : Addr} {H H' : Hp} (hp : Pot H p) (e : But p H H') : KeepF H H' := let ⟨_, _, h, _⟩ := hp; KeepF.but h e
theorem But.same {p : Addr} {H H' : Hp} (e : Same H H') : But p H H' := fun b o h _ => e b o h
theorem Pot.same {p : Addr} {H H' : Hp} (h : Pot H p) (e : Same H H') : Pot H' p := let ⟨a, b, q, r⟩ := h; ⟨a, b, e _ _ q, r⟩
theorem names_rows {rs : List Row} : ∀ {ws : List Str}, (∀ x ∈ ws, x ∈ (rowsSorted rs).map (·.name)) → ∃ us : List Row, ws = nmS us ∧ ∀ u ∈ us, u ∈ rs
  | [], _ => ⟨[], rfl, fun _ h => nomatch h⟩
  | x :: ws, h => by
    obtain ⟨us, rfl, hs⟩ := names_rows (rs := rs) (ws := ws) fun z hz => h z (.tail _ hz)
    obtain ⟨u, hu, rfl⟩ := List.mem_map.mp (h x (.head _))
    have hu' : u ∈ rs := List.mem_mergeSort.mp hu
    exact ⟨u :: us, rfl, fun z hz => by
      rcases List.mem_cons.mp hz with e | hz
      · exact e ▸ hu'
      · exact hs z hz⟩
theorem backs_strs {g : Row → Option Str} : ∀ {us : List Row}, (∀ u ∈ us, g u ≠ none) → ∃ ss : List Str, (us.map fun u => ov (g u)) = ss.map V.str ∧ ∀ s ∈ ss, ∃ u ∈ us, g u = some s
  | [], _ => ⟨[], rfl, fun _ h => nomatch h⟩
  | u :: us, h => by
    obtain ⟨ss, e, hs⟩ := backs_strs (g := g) (us := us) fun z hz => h z (.tail _ hz)
    cases hg : g u with
    | none => exact absurd hg (h u (.head _))
    | some s =>
      refine ⟨s :: ss, by rw [List.map_cons, List.map_cons, e, hg]; rfl, fun z hz => ?_⟩
      rcases List.mem_cons.mp hz with q | hz
      · exact ⟨u, .head _, q ▸ hg⟩
      · obtain ⟨v, hv, q⟩ := hs z hz
        exact ⟨v, .tail _ hv, q⟩
def sixD (a b c : Int) (s t : List Str) : PyData := .list [.bool true, .int a, .int b, .int c, .tuple (s.map PyData.str), .tuple (t.map PyData.str)]
theorem six_shaped {a b c : Int} {s t : List Str} (hs : ∀ x ∈ s, PyData.strOk x = true) (ht : ∀ x ∈ t, PyData.strOk x = true) : SeqAt.shaped (sixD a b c s t) = true := by
  obtain ⟨s1, s2⟩ := lay_strs hs
  obtain ⟨t1, t2⟩ := lay_strs ht
  simp [sixD, SeqAt.shaped, PyData.canLay0, PyData.canLayAll0, PyData.depth, PyData.depthAll, s1, s2, t1, t2]
theorem six_eqv (a b c : Int) (s t : List Str) : PyData.eqv (sixD a b c s t) (sixD a b c s t) = true := by
  have e1 := eqv_strsT s s
  have e2 := eqv_strsT t t
  rw [decide_eq_true rfl] at e1 e2
  simp [sixD, PyData.eqv, PyData.eqvAll, eqv_strsA]
end N

set_option maxHeartbeats 4000000
namespace N
open PySem L2
theorem LongAt.low {bb : Bool} {K : PySem.W.Frag} {CL CB C : Addr} {H : Hp} {a b : Addr} {rs qs : List Row} {ws : List Run} (h : LongAt bb K CL CB C H a b rs qs ws) : LongAt false K CL CB C H a b rs qs ws :=
  let ⟨dx, t, vs, h1, h2, h3, h4⟩ := h; ⟨dx, t, vs, h1, h2, h3.low, h4⟩
theorem lenR_app (a b : List Run) : lenR (a ++ b) = lenR a + lenR b := by simp [lenR]
theorem tidyS_lenR (acc : List Run) (r : Run) : lenR (tidyS acc r) = lenR acc + rlen r := by
  unfold tidyS
  split
  · split
    · rename_i z hz
      obtain ⟨ys, hys⟩ := List.getLast?_eq_some_iff.mp hz
      split
      · rename_i e
        subst hys
        have l := congrArg List.length e
        rw [nmS_len, nmS_len] at l
        rw [List.dropLast_concat, lenR_app, lenR_app]
        simp only [lenR, rlen, List.map_cons, List.map_nil, List.sum_cons, List.sum_nil, Nat.add_zero]
        rw [l, Nat.mul_add]
        omega
      · rw [lenR_app]
        simp [lenR]
    · rw [lenR_app]
      simp [lenR]
  · rename_i c
    have : rlen r = 0 := by
      unfold rlen
      rcases Nat.eq_zero_or_pos r.2 with h | h
      · rw [h, Nat.mul_zero]
      · have : r.1.length = 0 := by
          refine Nat.eq_zero_of_not_pos fun z => c ⟨h, z⟩
        rw [this, Nat.zero_mul]
    omega
theorem tidy_lenR : ∀ (rs acc : List Run), lenR (rs.foldl tidyS acc) = lenR acc + lenR rs
  | [], acc => by simp [lenR]
  | r :: rs, acc => by
    rw [List.foldl_cons, tidy_lenR rs, tidyS_lenR]
    simp only [lenR, List.map_cons, List.sum_cons]
    omega
theorem lfR_mem : ∀ {ws : List Run} {first many : Nat} {found : List Row} {u : Row}, u ∈ lfR ws first many found → u ∈ found ∨ ∃ r ∈ ws, u ∈ r.1
  | [], _, _, _, _, h => .inl h
  | r :: ws, first, many, found, u, h => by
    have tl : ∀ {q : Prop}, (u ∈ found ∨ (∃ r' ∈ ws, u ∈ r'.1)) → (u ∈ found ∨ ∃ r' ∈ r :: ws, u ∈ r'.1) := fun {_} h => h.imp id fun ⟨x, hx, y⟩ => ⟨x, .tail _ hx, y⟩
    have st : ∀ {m : Nat}, u ∈ found ++ stR r.1 first m → (u ∈ found ∨ ∃ r' ∈ r :: ws, u ∈ r'.1) := fun {m} h => by
      rcases List.mem_append.mp h with h | h
      · exact .inl h
      · exact .inr ⟨r, .head _, stR_mem h⟩
    unfold lfR at h
    split at h
    · split at h
      · exact .inl h
      · exact tl (q := True) (lfR_mem h)
    · split at h
      · exact st h
      · rcases lfR_mem h with h | h
        · exact st h
        · exact .inr (let ⟨x, hx, y⟩ := h; ⟨x, .tail _ hx, y⟩)
def intsD (a b c : Int) : PyData := .list [.int a, .int b, .int c]
theorem ints_shaped (a b c : Int) : SeqAt.shaped (intsD a b c) = true := by simp [intsD, SeqAt.shaped, PyData.canLay0, PyData.canLayAll0, PyData.depth, PyData.depthAll]
theorem ints_eqv (a b c : Int) : PyData.eqv (intsD a b c) (intsD a b c) = true := by simp [intsD, PyData.eqv, PyData.eqvAll]
theorem dp_ints {K : PySem.W.Frag} {H : Hp} {l : Addr} {a b c : Int} (h : H l = some (.lst [.int a, .int b, .int c])) : Dp K H (.ref l) (intsD a b c) := .lst (SqL.of h) (.cons (.int _) (.cons (.int _) (.cons (.int _) .nil)))
theorem scal_opI (o : Option Nat) : scal (opI o) (opI o) = true := by cases o <;> rfl
theorem eqv_strsLL (a : List Str) : PyData.eqv (.list (a.map PyData.str)) (.list (a.map PyData.str)) = true := by
  simp only [PyData.eqv]
  rw [eqv_strsA, decide_eq_true rfl]
end N

/-! what the runs' functions are, told of the letters written out: plain Lean -/
namespace N
open PySem L2
/-- two periodic sequences that agree for as long as both periods together agree everywhere -/
theorem agree_on {α : Type} {f g : Nat → α} {p q : Nat} (hp : 0 < p) (hq : 0 < q) (hf : ∀ i, f (i + p) = f i) (hg : ∀ i, g (i + q) = g i) (h : ∀ i, i < p + q → f i = g i) : ∀ n, f n = g n := by
  intro n
  induction n using Nat.strongRecOn with
  | ind n ih =>
    by_cases c : n < p + q
    · exact h n c
    · have e1 : f n = f (n - p) := by
        have := hf (n - p)
        rwa [Nat.sub_add_cancel (by omega)] at this
      have e2 : f (n - q) = f (n - q - p) := by
        have := hf (n - q - p)
        rwa [Nat.sub_add_cancel (by omega)] at this
      have e3 : g n = g (n - q) := by
        have := hg (n - q)
        rwa [Nat.sub_add_cancel (by omega)] at this
      have e4 : g (n - p) = g (n - p - q) := by
        have := hg (n - p - q)
        rwa [Nat.sub_add_cancel (by omega)] at this
      rw [e1, ih (n - p) (by omega), e4, ← ih (n - p - q) (by omega), e3, ← ih (n - q) (by omega), e2]
      congr 1
      omega
def repR (us : List Row) (n : Nat) : List Row := (List.replicate n us).flatten
theorem repR_len (us : List Row) (n : Nat) : (repR us n).length = n * us.length := rep_len us n
theorem repR_succ (us : List Row) (n : Nat) : repR us (n + 1) = us ++ repR us n := by rw [repR, List.replicate_succ, List.flatten_cons]; rfl
theorem repR_at {us : List Row} : ∀ {n i : Nat}, i < n * us.length → (repR us n)[i]? = us[i % us.length]?
  | 0, i, h => by rw [Nat.zero_mul] at h; exact absurd h (Nat.not_lt_zero _)
  | n + 1, i, h => by
    rw [repR_succ]
    by_cases c : i < us.length
    · rw [List.getElem?_append_left c, Nat.mod_eq_of_lt c]
    · have hk : us.length ≤ i := Nat.le_of_not_lt c
      rw [List.getElem?_append_right hk, repR_at (by rw [Nat.succ_mul] at h; omega), ← Nat.mod_eq_sub_mod hk]
theorem stR_at {us : List Row} (h : us ≠ []) {first many i : Nat} (hi : i < many) : (stR us first many)[i]? = us[(first + i) % us.length]? := by
  have hk : 0 < us.length := List.length_pos_iff.mpr h
  have fit := st_fit (s := first % us.length) (m := many) hk
  unfold stR
  rw [List.getElem?_take_of_lt hi, List.getElem?_drop]
  have e : (repR us ((first % us.length + many) / us.length + 1))[first % us.length + i]? = us[(first % us.length + i) % us.length]? := repR_at (by omega)
  show (repR us ((first % us.length + many) / us.length + 1))[first % us.length + i]? = _
  rw [e, Nat.mod_add_mod]
/-- the letters of the runs, written out -/
def expR (rs : List Run) : List Row := (rs.map fun r => repR r.1 r.2).flatten
theorem expR_cons (r : Run) (rs : List Run) : expR (r :: rs) = repR r.1 r.2 ++ expR rs := rfl
theorem expR_app (a b : List Run) : expR (a ++ b) = expR a ++ expR b := by unfold expR; rw [List.map_append, List.flatten_append]
theorem run_len (r : Run) : (repR r.1 r.2).length = rlen r := by rw [repR_len, rlen, Nat.mul_comm]
theorem expR_len : ∀ rs : List Run, (expR rs).length = lenR rs
  | [] => rfl
  | r :: rs => by
    rw [expR_cons, List.length_append, run_len, expR_len rs]
    simp [lenR]
theorem stR_part {r : Run} (h : r.1 ≠ []) {first m : Nat} (hm : first + m ≤ rlen r) : stR r.1 first m = ((repR r.1 r.2).drop first).take m := by
  have l1 := stR_len h first m
  have l2 : (((repR r.1 r.2).drop first).take m).length = m := by rw [List.length_take, List.length_drop, run_len]; omega
  refine List.ext_getElem? fun i => ?_
  by_cases hi : i < m
  · rw [stR_at h hi, List.getElem?_take_of_lt hi, List.getElem?_drop, repR_at]
    rw [rlen, Nat.mul_comm] at hm
    omega
  · rw [List.getElem?_eq_none (by omega), List.getElem?_eq_none (by omega)]
theorem lfR_is : ∀ {rs : List Run} {first many : Nat} {found : List Row}, (∀ r ∈ rs, GoodR r) → found.length ≤ many → lfR rs first many found = found ++ ((expR rs).drop first).take (many - found.length)
  | [], first, many, found, _, _ => by simp [lfR, expR]
  | r :: rs, first, many, found, g, hf => by
    have gr := g r (.head _)
    have gs : ∀ x ∈ rs, GoodR x := fun x hx => g x (.tail _ hx)
    have rl := run_len r
    unfold lfR
    rw [expR_cons]
    rw [List.drop_append, run_len]
    by_cases c : rlen r ≤ first
    · rw [if_pos c, List.drop_of_length_le (by omega), List.nil_append]
      by_cases d : found.length = many
      · rw [if_pos d, d, Nat.sub_self, List.take_zero, List.append_nil]
      · rw [if_neg d]
        exact lfR_is gs hf
    · rw [if_neg c]
      have hx : ((repR r.1 r.2).drop first).length = rlen r - first := by rw [List.length_drop, run_len]
      have hz : first - rlen r = 0 := by omega
      rw [hz, List.drop_zero, List.take_append, hx]
      obtain ⟨m, hm⟩ : ∃ m, min (rlen r - first) (many - found.length) = m := ⟨_, rfl⟩
      rw [hm]
      have sl := stR_len gr.1.1 first m
      have se : stR r.1 first m = ((repR r.1 r.2).drop first).take (many - found.length) := by
        rw [stR_part gr.1.1 (by omega), ← hm]
        by_cases z : rlen r - first ≤ many - found.length
        · rw [Nat.min_eq_left z, List.take_of_length_le (by omega), List.take_of_length_le (by omega)]
        · rw [Nat.min_eq_right (by omega)]
      have fl : (found ++ stR r.1 first m).length = found.length + m := by rw [List.length_append, sl]
      rw [fl, ← se]
      by_cases d : found.length + m = many
      · rw [if_pos d, show many - found.length - (rlen r - first) = 0 by omega, List.take_zero, List.append_nil]
      · rw [if_neg d, lfR_is gs (by rw [fl]; omega), fl, List.drop_zero, List.append_assoc, show many - (found.length + m) = many - found.length - (rlen r - first) by omega]
theorem cntR_is (rs : List Run) (n : Str) : cntR rs n = (nmS (expR rs)).count n := by
  induction rs with
  | nil => rfl
  | cons r rs ih =>
    have rep : ∀ k : Nat, (nmS (repR r.1 k)).count n = (nmS r.1).count n * k := by
      intro k
      induction k with
      | zero => simp [repR, nmS]
      | succ k ih =>
        rw [repR_succ]
        unfold nmS at ih ⊢
        rw [List.map_append, List.count_append, ih, Nat.mul_succ, Nat.add_comm]
    rw [expR_cons]
    have e : cntR (r :: rs) n = (nmS r.1).count n * r.2 + cntR rs n := by simp [cntR]
    rw [e, ih, ← rep]
    unfold nmS
    rw [List.map_append, List.count_append]
theorem sumOf_app (g : Row → Int) (a b : List Row) : sumOf g (a ++ b) = sumOf g a + sumOf g b := by simp [sumOf]
theorem sumW_is (g : Row → Int) (rs : List Run) : sumW g rs = sumOf g (expR rs) := by
  induction rs with
  | nil => rfl
  | cons r rs ih =>
    have rep : ∀ k : Nat, sumOf g (repR r.1 k) = sumOf g r.1 * (k : Nat) := by
      intro k
      induction k with
      | zero => simp [repR, sumOf]
      | succ k ih =>
        rw [repR_succ, sumOf_app, ih, Int.natCast_succ, Int.mul_add, Int.mul_one, Int.add_comm]
    rw [expR_cons, sumOf_app, rep]
    have e : sumW g (r :: rs) = sumOf g r.1 * (r.2 : Nat) + sumW g rs := by simp [sumW]
    rw [e, ih]
theorem nmS_app (a b : List Row) : nmS (a ++ b) = nmS a ++ nmS b := List.map_append
theorem nm_rep {a b : List Row} (h : nmS a = nmS b) (n : Nat) : nmS (repR a n) = nmS (repR b n) := by
  induction n with
  | zero => rfl
  | succ n ih => rw [repR_succ, repR_succ, nmS_app, nmS_app, h, ih]
theorem repR_add (a : List Row) (m n : Nat) : repR a (m + n) = repR a m ++ repR a n := by
  unfold repR
  rw [← List.replicate_append_replicate, List.flatten_append]
theorem tidyS_nm (acc : List Run) (r : Run) : nmS (expR (tidyS acc r)) = nmS (expR acc) ++ nmS (repR r.1 r.2) := by
  have one : expR [r] = repR r.1 r.2 := by simp [expR]
  unfold tidyS
  split
  · split
    · rename_i z hz
      obtain ⟨ys, rfl⟩ := List.getLast?_eq_some_iff.mp hz
      split
      · rename_i e
        rw [List.dropLast_concat, expR_app, expR_app, nmS_app, nmS_app]
        have e1 : expR [(r.1, z.2 + r.2)] = repR r.1 (z.2 + r.2) := by simp [expR]
        have e2 : expR [z] = repR z.1 z.2 := by simp [expR]
        rw [e1, e2, repR_add, nmS_app, nm_rep e, List.append_assoc]
      · rw [expR_app, nmS_app, one]
    · rw [expR_app, nmS_app, one]
  · rename_i c
    have z : repR r.1 r.2 = [] := by
      rcases Nat.eq_zero_or_pos r.2 with h | h
      · rw [h]
        rfl
      · have : r.1 = [] := List.eq_nil_of_length_eq_zero (Nat.eq_zero_of_not_pos fun z => c ⟨h, z⟩)
        rw [this]
        simp [repR]
    rw [z]
    simp [nmS]
theorem tidy_nmA : ∀ (rs acc : List Run), nmS (expR (rs.foldl tidyS acc)) = nmS (expR acc) ++ nmS (expR rs)
  | [], acc => by simp [expR, nmS]
  | r :: rs, acc => by rw [List.foldl_cons, tidy_nmA rs, tidyS_nm, expR_cons, nmS_app, List.append_assoc]
theorem tidy_nm (rs : List Run) : nmS (expR (tidyR rs)) = nmS (expR rs) := by
  unfold tidyR
  rw [tidy_nmA]
  rfl
end N

namespace N
open PySem L2
/-- r is the first place at which two lists differ -/
def IsFd (a b : List Str) : Option Nat → Prop
  | none => a = b
  | some n => (∀ i, i < n → a[i]? = b[i]?) ∧ a[n]? ≠ b[n]?
def fdL (a b : List Str) : Option Nat := (List.range (max a.length b.length)).find? fun i => a[i]? != b[i]?
theorem find_some {n u : Nat} {f : Nat → Bool} (h : (List.range n).find? f = some u) : u < n ∧ f u = true ∧ ∀ j, j < u → f j = false := by
  have m := List.mem_of_find?_eq_some h
  have t := List.find?_some h
  refine ⟨List.mem_range.mp m, t, fun j hj => ?_⟩
  cases e : f j with
  | false => rfl
  | true =>
    exfalso
    have hjn : j < n := Nat.lt_trans hj (List.mem_range.mp m)
    -- the least such
    have : ∃ k, k ≤ j ∧ f k = true ∧ ∀ l, l < k → f l = false := by
      clear h m t hj hjn
      induction j using Nat.strongRecOn with
      | ind j ih =>
        by_cases c : ∃ l, l < j ∧ f l = true
        · obtain ⟨l, hl, hf⟩ := c
          obtain ⟨k, hk, q⟩ := ih l hl hf
          exact ⟨k, by omega, q⟩
        · refine ⟨j, Nat.le_refl _, e, fun l hl => ?_⟩
          cases z : f l with
          | false => rfl
          | true => exact absurd ⟨l, hl, z⟩ c
    obtain ⟨k, hk, hf, hl⟩ := this
    have := find_at (n := n) (i := k) (by omega) hl hf
    rw [this] at h
    have := Option.some.inj h
    omega
theorem find_none {n : Nat} {f : Nat → Bool} (h : (List.range n).find? f = none) : ∀ i, i < n → f i = false := fun i hi => by
  have := List.find?_eq_none.mp h i (List.mem_range.mpr hi)
  simpa using this
theorem fdL_is (a b : List Str) : IsFd a b (fdL a b) := by
  cases h : fdL a b with
  | none =>
    have q := find_none h
    refine List.ext_getElem? fun i => ?_
    by_cases c : i < max a.length b.length
    · simpa using q i c
    · rw [List.getElem?_eq_none (by omega), List.getElem?_eq_none (by omega)]
  | some n =>
    obtain ⟨h1, h2, h3⟩ := find_some h
    exact ⟨fun i hi => by simpa using h3 i hi, by simpa using h2⟩
theorem IsFd.eq {a b : List Str} : ∀ {r s : Option Nat}, IsFd a b r → IsFd a b s → r = s
  | none, none, _, _ => rfl
  | none, some n, h, ⟨_, k⟩ => absurd (by rw [show a = b from h]) k
  | some n, none, ⟨_, k⟩, h => absurd (by rw [show a = b from h]) k
  | some m, some n, ⟨h1, h2⟩, ⟨k1, k2⟩ => by
    rcases Nat.lt_trichotomy m n with c | c | c
    · exact absurd (k1 m c) h2
    · rw [c]
    · exact absurd (h1 n c) k2
theorem nm_at (us : List Row) (i : Nat) : (nmS us)[i]? = us[i]?.map (·.name) := List.getElem?_map
def perL (r : Run) (s i : Nat) : Option Str := r.1[(s + i) % r.1.length]?.map (·.name)
theorem perL_per {r : Run} (s i : Nat) : perL r s (i + r.1.length) = perL r s i := by
  unfold perL
  rw [← Nat.add_assoc, Nat.add_mod_right]
theorem exp_at {r : Run} {rs : List Run} {s i : Nat} (h : s + i < rlen r) : ((nmS (expR (r :: rs))).drop s)[i]? = perL r s i := by
  rw [List.getElem?_drop, nm_at, expR_cons, List.getElem?_append_left (by rw [run_len]; exact h), repR_at (by rw [rlen, Nat.mul_comm] at h; exact h)]
  rfl
theorem exp_drop {r : Run} {rs : List Run} : (nmS (expR (r :: rs))).drop (rlen r) = nmS (expR rs) := by
  rw [expR_cons, nmS_app, List.drop_append, List.drop_of_length_le (by rw [nmS_len, run_len]; exact Nat.le_refl _), nmS_len, run_len, Nat.sub_self, List.drop_zero, List.nil_append]
theorem uwR_is {r o : Run} (g1 : r.1 ≠ []) (g2 : o.1 ≠ []) (i j m : Nat) : (∃ u, uwR r.1 i o.1 j m = some u ∧ u < m ∧ perL r i u ≠ perL o j u ∧ ∀ k, k < u → perL r i k = perL o j k) ∨ (uwR r.1 i o.1 j m = none ∧ ∀ k, k < m → perL r i k = perL o j k) := by
  have at1 : ∀ k, k < min m (r.1.length + o.1.length) → (nmS (stR r.1 i (min m (r.1.length + o.1.length))))[k]? = perL r i k := fun k hk => by rw [nm_at, stR_at g1 hk]; rfl
  have at2 : ∀ k, k < min m (r.1.length + o.1.length) → (nmS (stR o.1 j (min m (r.1.length + o.1.length))))[k]? = perL o j k := fun k hk => by rw [nm_at, stR_at g2 hk]; rfl
  cases h : uwR r.1 i o.1 j m with
  | some u =>
    obtain ⟨h1, h2, h3⟩ := find_some h
    refine .inl ⟨u, rfl, by omega, ?_, fun k hk => ?_⟩
    · rw [← at1 u h1, ← at2 u h1]
      simpa using h2
    · rw [← at1 k (by omega), ← at2 k (by omega)]
      simpa using h3 k hk
  | none =>
    have q := find_none h
    refine .inr ⟨rfl, fun k hk => ?_⟩
    have few : ∀ k, k < min m (r.1.length + o.1.length) → perL r i k = perL o j k := fun k hk => by
      rw [← at1 k hk, ← at2 k hk]
      simpa using q k hk
    by_cases c : m ≤ r.1.length + o.1.length
    · exact few k (by omega)
    · exact agree_on (f := perL r i) (g := perL o j) (p := r.1.length) (q := o.1.length) (List.length_pos_iff.mpr g1) (List.length_pos_iff.mpr g2) (fun z => perL_per i z) (fun z => perL_per j z) (fun z hz => few z (by omega)) k
/-- told of a place of its own -/
def IsFdAt (a b : List Str) (place : Nat) : Option Nat → Prop
  | none => a = b
  | some n => place ≤ n ∧ (∀ i, i < n - place → a[i]? = b[i]?) ∧ a[n - place]? ≠ b[n - place]?
theorem IsFdAt.step {a b : List Str} {place m : Nat} {r : Option Nat} (h : ∀ i, i < m → a[i]? = b[i]?) (k : IsFdAt (a.drop m) (b.drop m) (place + m) r) : IsFdAt a b place r := by
  cases r with
  | none =>
    refine List.ext_getElem? fun i => ?_
    by_cases c : i < m
    · exact h i c
    · have e : (a.drop m)[i - m]? = (b.drop m)[i - m]? := by rw [show a.drop m = b.drop m from k]
      rw [List.getElem?_drop, List.getElem?_drop, show m + (i - m) = i by omega] at e
      exact e
  | some n =>
    obtain ⟨k1, k2, k3⟩ := k
    refine ⟨by omega, fun i hi => ?_, ?_⟩
    · by_cases c : i < m
      · exact h i c
      · have e := k2 (i - m) (by omega)
        rw [List.getElem?_drop, List.getElem?_drop, show m + (i - m) = i by omega] at e
        exact e
    · rw [List.getElem?_drop, List.getElem?_drop, show m + (n - (place + m)) = n - place by omega] at k3
      exact k3
theorem upR_is : ∀ {f : Nat} {rs os : List Run} {place used spent : Nat}, rs.length + os.length ≤ f → (∀ r ∈ rs, GoodR r) → (∀ r ∈ os, GoodR r) → (∀ r ∈ rs.head?, used < rlen r) → (∀ r ∈ os.head?, spent < rlen r) →
    IsFdAt ((nmS (expR rs)).drop used) ((nmS (expR os)).drop spent) place (upR f rs os place used spent)
  | f, [], [], place, used, spent, _, _, _, _, _ => by
    rw [upR_end (.inl rfl), if_pos ⟨rfl, rfl⟩]
    show (nmS (expR [])).drop used = (nmS (expR [])).drop spent
    simp [expR, nmS]
  | f, [], o :: os, place, used, spent, _, _, g2, _, h2 => by
    rw [upR_end (.inl rfl), if_neg (by simp)]
    refine ⟨Nat.le_refl _, fun i hi => absurd hi (by omega), ?_⟩
    have hs := h2 o rfl
    rw [Nat.sub_self, exp_at (by omega)]
    have hk : 0 < o.1.length := List.length_pos_iff.mpr (g2 o (.head _)).1.1
    unfold perL
    rw [List.getElem?_eq_getElem (Nat.mod_lt _ hk)]
    simp [expR, nmS]
  | f, r :: rs, [], place, used, spent, _, g1, _, h1, _ => by
    rw [upR_end (.inr rfl), if_neg (by simp)]
    refine ⟨Nat.le_refl _, fun i hi => absurd hi (by omega), ?_⟩
    have hs := h1 r rfl
    rw [Nat.sub_self, exp_at (by omega)]
    have hk : 0 < r.1.length := List.length_pos_iff.mpr (g1 r (.head _)).1.1
    unfold perL
    rw [List.getElem?_eq_getElem (Nat.mod_lt _ hk)]
    simp [expR, nmS]
  | 0, r :: rs, o :: os, place, used, spent, h, _, _, _, _ => by
    simp at h
  | f + 1, r :: rs, o :: os, place, used, spent, h, g1, g2, h1, h2 => by
    have hu := h1 r rfl
    have hs := h2 o rfl
    have gr := g1 r (.head _)
    have go := g2 o (.head _)
    obtain ⟨m, hm⟩ : ∃ m, leR r o used spent = m := ⟨_, rfl⟩
    have lm : m ≤ rlen r - used ∧ m ≤ rlen o - spent ∧ (m = rlen r - used ∨ m = rlen o - spent) := by
      rw [← hm]
      unfold leR
      omega
    obtain ⟨l1, l2, l3⟩ := lm
    unfold upR
    rw [hm]
    rcases uwR_is gr.1.1 go.1.1 used spent m with ⟨u, hu', um, ne, eq⟩ | ⟨hn, eq⟩
    · rw [hu']
      refine ⟨by omega, fun i hi => ?_, ?_⟩
      · rw [exp_at (by omega), exp_at (by omega)]
        exact eq i (by omega)
      · rw [show place + u - place = u by omega, exp_at (by omega), exp_at (by omega)]
        exact ne
    · rw [hn]
      refine IsFdAt.step (m := m) (fun i hi => ?_) ?_
      · rw [exp_at (by omega), exp_at (by omega)]
        exact eq i hi
      · rw [List.drop_drop, List.drop_drop]
        rw [List.length_cons, List.length_cons] at h
        have gs1 : ∀ x ∈ rs, GoodR x := fun x hx => g1 x (.tail _ hx)
        have gs2 : ∀ x ∈ os, GoodR x := fun x hx => g2 x (.tail _ hx)
        have hd1 : ∀ x ∈ rs.head?, 0 < rlen x := fun x hx => (gs1 x (List.mem_of_mem_head? hx)).pos
        have hd2 : ∀ x ∈ os.head?, 0 < rlen x := fun x hx => (gs2 x (List.mem_of_mem_head? hx)).pos
        have c1 : (nmS (expR (r :: rs))).drop (used + m) = (nmS (expR (if rlen r - used = m then rs else r :: rs))).drop (if rlen r - used = m then 0 else used + m) := by
          split
          · rename_i c
            rw [show used + m = rlen r by omega, exp_drop, List.drop_zero]
          · rfl
        have c2 : (nmS (expR (o :: os))).drop (spent + m) = (nmS (expR (if rlen o - spent = m then os else o :: os))).drop (if rlen o - spent = m then 0 else spent + m) := by
          split
          · rename_i c
            rw [show spent + m = rlen o by omega, exp_drop, List.drop_zero]
          · rfl
        rw [c1, c2]
        refine upR_is ?_ ?_ ?_ ?_ ?_
        · split <;> split <;> (try simp only [List.length_cons]) <;> omega
        · split
          · exact gs1
          · exact g1
        · split
          · exact gs2
          · exact g2
        · by_cases c : rlen r - used = m
          · rw [if_pos c, if_pos c]
            exact hd1
          · rw [if_neg c, if_neg c]
            intro x hx
            cases (Option.some.inj hx : r = x)
            omega
        · by_cases c : rlen o - spent = m
          · rw [if_pos c, if_pos c]
            exact hd2
          · rw [if_neg c, if_neg c]
            intro x hx
            cases (Option.some.inj hx : o = x)
            omega
/-- where two long words first differ -/
theorem unR_is {rs os : List Run} (g1 : ∀ r ∈ rs, GoodR r) (g2 : ∀ r ∈ os, GoodR r) : unR rs os = fdL (nmS (expR rs)) (nmS (expR os)) := by
  have h := upR_is (f := rs.length + os.length) (place := 0) (used := 0) (spent := 0) (Nat.le_refl _) g1 g2 (fun x hx => (g1 x (List.mem_of_mem_head? hx)).pos) (fun x hx => (g2 x (List.mem_of_mem_head? hx)).pos)
  rw [List.drop_zero, List.drop_zero] at h
  refine IsFd.eq ?_ (fdL_is _ _)
  show IsFd _ _ (upR _ _ _ _ _ _)
  revert h
  cases upR (rs.length + os.length) rs os 0 0 0 with
  | none => exact fun h => h
  | some n => exact fun ⟨_, h2, h3⟩ => ⟨fun i hi => h2 i (by omega), by rw [Nat.sub_zero] at h3; exact h3⟩
theorem unR_none {rs os : List Run} (g1 : ∀ r ∈ rs, GoodR r) (g2 : ∀ r ∈ os, GoodR r) : unR rs os = none ↔ nmS (expR rs) = nmS (expR os) := by
  rw [unR_is g1 g2]
  refine ⟨fun h => ?_, fun h => ?_⟩
  · have := fdL_is (nmS (expR rs)) (nmS (expR os))
    rw [h] at this
    exact this
  · rw [h]
    exact IsFd.eq (fdL_is _ _) rfl
end N

set_option maxHeartbeats 4000000
/-! len(x), x an instance whose class has its own __len__ -/
namespace L2
open PySem PySem.Spec PyProof.Rows
section
variable {X : Cx} {C : Addr} {n : Nat} {sp : Sp}
def rLenOwn (C : Addr) (sp : Sp) (E : XK) : List V → Hp → VK → Prop := fun xs H Q => ∃ a dx fs, xs = [V.ref a] ∧ H a = some (.ins C dx fs) ∧ sp [.ref a] H (fun z H' => ∃ i : Int, z = .int i ∧ 0 ≤ i ∧ i < 2 ^ 63 ∧ Q (.int i) H') E
theorem call_lenM (h : HasM X.prog X.w X.K X.mg X.base C "__len__" n ["self"] sp) (hr : Room (n + 1) X.A) : CallR X (.builtin "len") (rLenOwn C sp E0) := by
  obtain ⟨g, fd, hm, hb, F⟩ := h.ex
  intro pins s σ H xs us Q I r h
  obtain ⟨a, dx, fs, rfl, ha, q⟩ := h
  obtain ⟨u, rfl, ru⟩ := r.one
  cases (show u = Value.ref a from ru)
  obtain ⟨mA, O, _, _, _, _⟩ := ins_get I.hok ha
  obtain ⟨od, J, _⟩ := O.look
  obtain ⟨m, hF⟩ := I.fr
  refine PySem.W.len_K hF I.ok.mod.kin J hm.at_ hm.fn ?_
  refine wpAny_mono (run_under (us := [.ref a]) (ws := [.ref a]) F hb hr.in1 I.env0.in1 pass0 I (.cons rfl .nil) q) (fun w s' z => ?_) fun _ _ x => x
  obtain ⟨z', H', I', rz, i, ey, h0, h1, qz⟩ := z
  subst ey
  obtain ⟨t, e⟩ := (show ∃ t, w = Value.int i t from rz)
  cases e
  exact ⟨⟨h0, h1⟩, ⟨.int i, H', I'.tok _, ⟨_, rfl⟩, qz⟩⟩
end
section
variable {X : Cx} {C : Addr} {m : Str} {k : Nat} {ps : List Str} {sp : Sp} {apos pos : Pos} {o : Expr} {ta : TE} {pl : Sem Bool}
theorem pe_hasM0 (h : HasM X.prog X.w X.K X.mg X.base C m k ps sp) (c : Cls X.K C) (hr : Room k X.A) (ho : PE X o ta)
    (ht : eval (.Call (.Attribute o m apos) [] [] pos) X.env = (do
      let ov ← eval o X.env
      standAt apos.atName
      let (f, first) ← holding [ov] (getMethod ov m pl)
      callWith pos f first (backTo pos (starEach [] X.env)) (backToKw pos (keywordEach [] X.env))) := by rfl) :
    PE X (.Call (.Attribute o m apos) [] [] pos) (tMeth C m sp [] E0 ta tNil) := by
  obtain ⟨f, fd, hm, hb, F⟩ := h.ex
  exact pe_meth0 ho c hm F hr hb .nil pass0 ht
end
end L2

set_option maxHeartbeats 4000000
/-! methods and defs that may raise, without a def of any program (out of B6, V2, V3, Xw, Yw) -/
namespace L2
open PySem PySem.Spec PyProof.Rows
/-- a method that may raise -/
structure HasMX (P : Program) (w : World) (K : PySem.W.Frag) (mg : Str → Option Value) (base : Heap) (C : Addr) (m : Str) (k : Nat) (ps : List Str) (sp : Sp) : Prop where
  ex : ∃ (f : Addr) (fd : FuncData), Meth K C m f ∧ Binds K fd ps [] ∧ FnOk P w K mg base (L2.CX P w) k f fd ps sp
section
variable {P : Program} {w : World} {K : PySem.W.Frag} {mg : Str → Option Value} {base : Heap} {C : Addr}
theorem hasMX_of {m qual : Str} {st : Stmt} {N ps : List Str} {k : Nat} {sp : Sp} (F : MethAt K C m qual st) (S : FnScope N ps (defScope st))
    (hb : ∀ (kV doc pm : Value) (an : Option Addr) (cdv ct : Value) (us : List Value), us.length = ps.length → bindArgs (PySem.W.fnOf m qual (defArgs st) (defBody st) (defScope st) .none kV doc pm an cdv ct) ⟨us, []⟩ = pure (ps.zip us))
    (len : ∀ vs H Q E, sp vs H Q E → vs.length = ps.length)
    (hbody : ∀ (f : Addr) (cdv : Value) (A : Around) (outer : List Env) (s : Shared) (H : Hp) (vs : List V) (Q : VK) (E : XK), Room k (A.deeper (envOfC qual (defScope st) s.heap.objs.size f cdv)) → sp vs H Q E →
      ∃ t, PSs (cxOf (L2.CX P w) P w K mg base N qual (defScope st) f cdv A outer s H E) (defBody st) t ∧ t { nx := fun _ H' => Q .non H', rt := Q } (start N vs) H) : HasMX P w K mg base C m (k + 1) ps sp := by
  obtain ⟨f, fd, hm, F⟩ := F.ex
  exact ⟨f, fd, hm, F.binds hb, F.okX S len (hbody f)⟩
end
section
variable {X : Cx} {C : Addr} {m : Str} {k : Nat} {ps : List Str} {sp : Sp} {apos pos : Pos} {o e : Expr} {es : List Expr} {ta : TE} {t : TA} {pl : Sem Bool} {E : XK}
theorem pe_hasMX (h : HasMX X.prog X.w X.K X.mg X.base C m k ps sp) (c : Cls X.K C) (hr : Room k X.A) (hx : Passes (L2.CX X.prog X.w) X E) (ho : PE X o ta) (ha : PA X (e :: es) t)
    (hst : starEach (e :: es) X.env = (false, eval e X.env) :: starEach es X.env := by rfl) (hpl : (backTo pos (starEach es X.env)).any (·.1) = false := by rfl)
    (ht : eval (.Call (.Attribute o m apos) (e :: es) [] pos) X.env = (do
      let ov ← eval o X.env
      standAt apos.atName
      let (f, first) ← holding [ov] (getMethod ov m pl)
      callWith pos f first (backTo pos (starEach (e :: es) X.env)) (backToKw pos (keywordEach [] X.env))) := by rfl) :
    PE X (.Call (.Attribute o m apos) (e :: es) [] pos) (tMeth C m sp [] E ta t) := by
  obtain ⟨f, fd, hm, hb, F⟩ := h.ex
  exact pe_meth ho c hm F hr hb .nil hx ha hst hpl ht
end
theorem pe_hasMX0 {X : Cx} {C : Addr} {m : Str} {k : Nat} {ps : List Str} {sp : Sp} {apos pos : Pos} {o : Expr} {ta : TE} {pl : Sem Bool} {E : XK} (h : HasMX X.prog X.w X.K X.mg X.base C m k ps sp) (c : Cls X.K C) (hr : Room k X.A) (hx : Passes (L2.CX X.prog X.w) X E) (ho : PE X o ta)
    (ht : eval (.Call (.Attribute o m apos) [] [] pos) X.env = (do
      let ov ← eval o X.env
      standAt apos.atName
      let (f, first) ← holding [ov] (getMethod ov m pl)
      callWith pos f first (backTo pos (starEach [] X.env)) (backToKw pos (keywordEach [] X.env))) := by rfl) :
    PE X (.Call (.Attribute o m apos) [] [] pos) (tMeth C m sp [] E ta tNil) := by
  obtain ⟨f, fd, hm, hb, F⟩ := h.ex
  exact pe_meth0 ho c hm F hr hb .nil hx ht
section
variable {P : Program} {w : World} {K : PySem.W.Frag} {mg : Str → Option Value} {base : Heap}
theorem hasX_of {x qual : Str} {st : Stmt} {N ps : List Str} {k : Nat} {sp : Sp} (F : FunAt K mg x qual st) (S : FnScope N ps (defScope st))
    (hb : ∀ (kV doc pm : Value) (an : Option Addr) (cdv ct : Value) (us : List Value), us.length = ps.length → bindArgs (PySem.W.fnOf x qual (defArgs st) (defBody st) (defScope st) .none kV doc pm an cdv ct) ⟨us, []⟩ = pure (ps.zip us))
    (len : ∀ vs H Q E, sp vs H Q E → vs.length = ps.length)
    (hbody : ∀ (f : Addr) (cdv : Value) (A : Around) (outer : List Env) (s : Shared) (H : Hp) (vs : List V) (Q : VK) (E : XK), Room k (A.deeper (envOfC qual (defScope st) s.heap.objs.size f cdv)) → sp vs H Q E →
      ∃ t, PSs (cxOf (L2.CX P w) P w K mg base N qual (defScope st) f cdv A outer s H E) (defBody st) t ∧ t { nx := fun _ H' => Q .non H', rt := Q } (start N vs) H) : HasX P w K mg base x (k + 1) ps sp := by
  obtain ⟨f, fd, hm, F⟩ := F.ex
  exact ⟨f, fd, hm, F.kp, F.binds hb, F.okX S len (hbody f)⟩
end
section
variable {X : Cx} {C : Addr} {m : Str} {k : Nat} {ps : List Str} {sp : Sp} {apos pos : Pos} {o e : Expr} {es : List Expr} {ta : TE} {t : TA} {pl : Sem Bool} {W : WX}
/-- o.m(e, ..) that may raise, where what follows the error reads the slots -/
theorem pe_hasMXW (h : HasMX X.prog X.w X.K X.mg X.base C m k ps sp) (c : Cls X.K C) (hr : Room k X.A) (tk : Takes X W) (ho : PE X o ta) (ha : PA X (e :: es) t)
    (hst : starEach (e :: es) X.env = (false, eval e X.env) :: starEach es X.env := by rfl) (hpl : (backTo pos (starEach es X.env)).any (·.1) = false := by rfl)
    (ht : eval (.Call (.Attribute o m apos) (e :: es) [] pos) X.env = (do
      let ov ← eval o X.env
      standAt apos.atName
      let (f, first) ← holding [ov] (getMethod ov m pl)
      callWith pos f first (backTo pos (starEach (e :: es) X.env)) (backToKw pos (keywordEach [] X.env))) := by rfl) :
    PE X (.Call (.Attribute o m apos) (e :: es) [] pos) (fun σ H Q => ta σ H fun x H1 => ∃ a dx fs, x = V.ref a ∧ H1 a = some (HO.ins C dx fs) ∧ List.lookup m fs = none ∧ t σ H1 fun vs H2 => ∃ E : XK, (∀ cls d H', E cls d H' → W cls d σ H') ∧ sp (x :: vs) H2 Q E) := by
  obtain ⟨f, fd, hm, hb, F⟩ := h.ex
  refine ⟨fun pins s σ H Q I h => ?_⟩
  refine PySem.W.methodCall_KW (pl := pl) (thn (ho.run pins s σ H _ I h) fun u s1 ⟨x, H1, I1, rx, a', dx, fs, ex, ea, l, q⟩ => ?_) ht
  subst ex
  obtain rfl : u = Value.ref a' := rx
  refine getmeth_ok I1 ea c hm l ?_
  refine PySem.W.callWith_K (first := [.ref a']) (h₀ := X.base) I.ok.mod.kin hm.kp (thn (ha.run pos pins s1 σ H1 _ I1 q) fun us s2 z => ?_) hst hpl
  obtain ⟨vs, H2, I2, r, E, hE, q2⟩ := z
  refine ⟨I2.kIn, ?_⟩
  have r2 : Vals (V.ref a' :: vs) (Value.ref a' :: us) := .cons rfl r
  have hl : ((Value.ref a' :: us) ++ []).length = ps.length := by
    rw [List.append_nil, ← F.len _ _ _ _ q2, r2.length]
  have b := hb s2 (Value.ref a' :: us) I2.kIn hl
  rw [List.append_nil] at b
  refine wpAny_call (codeAny_mono (F.run X.A X.stack s2 H2 ⟨Value.ref a' :: us, []⟩ (Value.ref a' :: us) _ Q E hr I2.env0 b r2 q2) fun z s' hq => ?_)
  match z, hq with
  | .error er, hq => exact tk er s' (XE.of_call I2 (fun cls d H' h => hE cls d H' h) hq)
  | .ok (.ret u), hq => exact I2.after hq
end
section
variable {X : Cx} {C : Addr} {m : Str} {k : Nat} {ps : List Str} {sp : Sp} {apos pos : Pos} {o : Expr} {ta : TE} {pl : Sem Bool} {W : WX}
/-- o.m() that may raise, where what follows the error reads the slots -/
theorem pe_hasMXW0 (h : HasMX X.prog X.w X.K X.mg X.base C m k ps sp) (c : Cls X.K C) (hr : Room k X.A) (tk : Takes X W) (ho : PE X o ta)
    (ht : eval (.Call (.Attribute o m apos) [] [] pos) X.env = (do
      let ov ← eval o X.env
      standAt apos.atName
      let (f, first) ← holding [ov] (getMethod ov m pl)
      callWith pos f first (backTo pos (starEach [] X.env)) (backToKw pos (keywordEach [] X.env))) := by rfl) :
    PE X (.Call (.Attribute o m apos) [] [] pos) (fun σ H Q => ta σ H fun x H1 => ∃ a dx fs, x = V.ref a ∧ H1 a = some (HO.ins C dx fs) ∧ List.lookup m fs = none ∧ ∃ E : XK, (∀ cls d H', E cls d H' → W cls d σ H') ∧ sp [x] H1 Q E) := by
  obtain ⟨f, fd, hm, hb, F⟩ := h.ex
  refine ⟨fun pins s σ H Q I h => ?_⟩
  refine PySem.W.methodCall_KW (pl := pl) (thn (ho.run pins s σ H _ I h) fun u s1 ⟨x, H1, I1, rx, a', dx, fs, ex, ea, l, E, hE, q2⟩ => ?_) ht
  subst ex
  obtain rfl : u = Value.ref a' := rx
  refine getmeth_ok I1 ea c hm l ?_
  refine PySem.W.callWith_K0 (first := [.ref a']) I1.kIn hm.kp ?_
  have hl : ([Value.ref a'] ++ []).length = ps.length := by
    rw [List.append_nil, ← F.len _ _ _ _ q2]
    rfl
  have b := hb s1 [Value.ref a'] I1.kIn hl
  rw [List.append_nil] at b
  refine wpAny_call (codeAny_mono (F.run X.A X.stack s1 H1 ⟨[Value.ref a'], []⟩ [Value.ref a'] _ Q E hr I1.env0 b (show Vals [V.ref a'] [Value.ref a'] from .cons rfl .nil) q2) fun z s' hq => ?_)
  match z, hq with
  | .error er, hq => exact tk er s' (XE.of_call I1 (fun cls d H' h => hE cls d H' h) hq)
  | .ok (.ret u), hq => exact I1.after hq
end
section
variable {X : Cx}
theorem PE.or {e : Expr} {a b : TE} (h : PE X e a) (h' : PE X e b) : PE X e (fun σ H Q => a σ H Q ∨ b σ H Q) :=
  ⟨fun pins s σ H Q I q => q.elim (fun q => h.run pins s σ H Q I q) fun q => h'.run pins s σ H Q I q⟩
end
end L2
namespace N
open PySem L2
abbrev lkT : List Value := [.type "LookupError", .type "Exception", .type "BaseException", .type "object"]
abbrev NoC (K : PySem.W.Frag) (mg : Str → Option Value) (x : Str) (C : Addr) (st : Stmt) (qual : Str) : Prop := ErrB K mg x C st qual "LookupError" "LookupError.__new__" "LookupError.__init__" lkT ∧ PySem.W.findIn K (.ref C) "name" = some none
end N

set_option maxHeartbeats 4000000
/-! tuples that are known to stand without a dict of their own: displays, t + u, t[a:b], t * n -/
namespace L2
open PySem PySem.Spec PyProof.Rows
section
variable {X : Cx} {es : List Expr} {t : TA} {pos : Pos}
def NewF (H : Hp) (Q : VK) (xs : List V) : Prop := ∀ p o, o.cls = .type "tuple" → o.dict = none → H p = none → Q (.ref p) (upd H p (.frz o (.tup xs)))
def tTupF (t : TA) : TE := fun σ H Q => t σ H fun xs H1 => xs.length ≤ sizeLine ∧ NewF H1 Q xs
theorem laidF {pins : List (Addr × Obj)} {σ : St} {H : Hp} {s : Shared} {Q : VK} {xs : List V} {its : List Value} (I : Inv X pins σ H s) (r : Vals xs its) (z : xs.length ≤ sizeLine) (q : NewF H Q xs) :
    EP X pins σ Q (.ref s.heap.objs.size) { s with heap := s.heap.push { cls := .type "tuple", data := .seq its.toArray } } :=
  ⟨.ref s.heap.objs.size, _, I.laid (t' := s.toks) (o := .frz { cls := .type "tuple", data := .seq its.toArray } (.tup xs)) (fun _ _ e => Heap.get?_push_of_some _ e) (Nat.le_refl _)
    (show ObjOk X.prog X.w _ _ _ (.frz _ (.tup xs)) from ⟨Heap.get?_push_size _ rfl, z, its, r, IsTup.new _ _⟩), rfl, q _ _ rfl rfl (I.hok.fresh (Nat.le_refl _))⟩
theorem pe_tupF {k : Nat} (h : PA X es t) : PE X (.Tuple es k pos) (tTupF t) :=
  ⟨fun pins s σ H Q I hq => wpAny_Tuple_spliced (thn (h.run pos pins s σ H _ I hq) fun us s1 ⟨xs, H1, I1, r, z, q⟩ => ⟨by rw [← r.length]; exact z, laidF I1 r z q⟩)⟩
def rCatF (K : PySem.W.Frag) : R2 := fun x y H Q => ∃ a b xs ys, x = .ref a ∧ y = .ref b ∧ SqT K H a xs ∧ SqT K H b ys ∧ xs.length + ys.length ≤ sizeLine ∧
  (xs = [] → Q (.ref b) H) ∧ (xs ≠ [] → ys = [] → Q (.ref a) H) ∧ (xs ≠ [] → ys ≠ [] → NewF H Q (xs ++ ys))
theorem op_catF : OpR X (binaryOp .Add) (rCatF X.K) := by
  intro pins s σ H x y v u Q I rx ry h
  obtain ⟨a, b, xs, ys, rfl, rfl, ha, hb, hz, q0, q1, q2⟩ := h
  obtain ⟨its, r1, p1, _⟩ := I.tuple ha
  obtain ⟨its2, r2, p2, _⟩ := I.tuple hb
  cases rx
  cases ry
  by_cases hx : xs = []
  · subst hx
    cases r1
    exact cat_tup0 p1 p2 ⟨.ref b, H, I, rfl, q0 rfl⟩
  · exact HT.cat_tup p1 p2 (fun z => hx (r1.nil_iff.mp z)) (fun z => ⟨.ref a, H, I, rfl, q1 hx (r2.nil_iff.mp z)⟩) (fun z => laidF I (r1.append r2) (by rw [List.length_append]; exact hz) (q2 hx fun w => z (r2.nil_iff.mpr w))) (by rw [← r1.length, ← r2.length]; exact hz)
def rSlF (K : PySem.W.Frag) : V → Option Int → Option Int → Hp → VK → Prop := fun x lo hi H Q => ∃ a xs, x = .ref a ∧ SqT K H a xs ∧
  (HT.sIx xs.length 0 lo = 0 ∧ HT.sIx xs.length xs.length hi = xs.length → Q (.ref a) H) ∧ (¬ (HT.sIx xs.length 0 lo = 0 ∧ HT.sIx xs.length xs.length hi = xs.length) → NewF H Q (cutV xs lo hi))
theorem sl_tupF : SlR X (rSlF X.K) := by
  intro pins s σ H x v vl vu lo hi sl Q I rx hs pl pu h
  obtain ⟨a, xs, rfl, hx, q1, q2⟩ := h
  cases rx
  obtain ⟨its, r, ht, hz⟩ := I.tuple hx
  have hlen : its.toArray.size = xs.length := by rw [List.size_toArray]; exact r.length.symm
  refine ⟨"tuple", _, PyProof.Rows.slot_tuple_getitem.lookup, ht.typeIs, ?_⟩
  by_cases hw : HT.sIx xs.length 0 lo = 0 ∧ HT.sIx xs.length xs.length hi = xs.length
  · exact getItem_tuple_whole ht hs pl pu (by rw [hlen]; exact hw) ⟨.ref a, H, I, rfl, q1 hw⟩
  · refine HT.getItem_tuple_cut ht hs pl pu (by rw [hlen]; exact hw) ?_ (by rw [hlen]; exact hz)
    rw [hlen]
    exact laidF I ((r.drop (HT.sIx xs.length 0 lo)).take (HT.sIx xs.length xs.length hi - HT.sIx xs.length 0 lo)) (Nat.le_trans (cutV_length xs lo hi) hz) (q2 hw)
end
end L2

set_option maxHeartbeats 4000000
/-! min of a list of two ints -/
namespace L2
open PySem PySem.Spec PyProof.Rows
section
variable {prog : Program} {w : World} {A : Around} {E : Value → Shared → Prop} {s : Shared} {l : Addr}
theorem minL2_num {Q : Value → Shared → Prop} {a b : Value} (hh : A.handled = none) (hl : s.heap.IsList l #[a, b]) (ha : Flt.NumV a) (hb : Flt.NumV b)
    (h : ∀ h' tk, (∀ d o, s.heap.get? d = some o → h'.get? d = some o) → Q (if Flt.ltV b a = true then b else a) { s with heap := h', toks := tk }) :
    wpAny (model prog w) A (call (.builtin "min") [.ref l]) Q E s := by
  refine call_min_walk (iter_anyList hl fun s₂ e st hfp hlI => ?_)
  subst e
  refine ⟨_, _, _, _, _, _, _, rfl, Walks.list (A := A.in1) hh _ l hlI #[a, b], st, hfp, by simp, Flt.cmpOf_lt #[a, b] (by simp [ha, hb]), fun v h' tk hP hk => ?_⟩
  have := h h' tk (PySem.old_kept hk)
  have hv : (if Flt.ltV b a = true then b else a) = v := by
    cases h1 : Flt.ltV b a <;> simp [argBest, h1] at hP <;> simp <;> exact hP
  rw [hv] at this
  exact this
end
section
variable {X : Cx}
def rMinL2 (K : PySem.W.Frag) : List V → Hp → VK → Prop := fun vs H Q => ∃ (p : Addr) (i j : Int), vs = [.ref p] ∧ SqL K H p [.int i, .int j] ∧ Q (.int (if j < i then j else i)) H
theorem call_minL2 (hc : X.calm = true) : CallR X (.builtin "min") (rMinL2 X.K) := by
  intro pins s σ H vs us Q I r h
  obtain ⟨p, i, j, rfl, hs, q⟩ := h
  obtain ⟨its, rv, hl, _⟩ := I.list hs
  rw [Vals.ref1 r]
  obtain ⟨u1, u2, rfl, r1, r2⟩ := vals2 rv
  obtain ⟨n2, n1, hl1⟩ := lt_nu (c := decide (j < i)) r2 r1 rfl
  refine minL2_num (I.ok.hd hc) hl.isList n1 n2 fun h' tk k => ⟨.int (if j < i then j else i), H, I.kept k, ?_, q⟩
  rw [hl1]
  by_cases c : j < i
  · rw [if_pos c, if_pos (decide_eq_true c)]
    exact r2
  · rw [if_neg c, if_neg (by simpa using c)]
    exact r1
end
end L2

set_option maxHeartbeats 4000000
namespace N
open PySem L2
/-! ### section texts: what all sorts share -/
/-- the place of a value in a progression -/
def placeR (f s : Nat) : V → Option Nat
  | .int i => if i < (f : Int) then none else if s = 0 then (if i = (f : Int) then some 0 else none) else if (i.toNat - f) % s = 0 then some ((i.toNat - f) / s) else none
  | _ => none
theorem placeR_bad {f s : Nat} {v : V} (h : goodC v = false) : placeR f s v = none := by
  cases v <;> first
    | rfl
    | (rename_i i
       have h' : ¬ (0 ≤ i) := of_decide_eq_false h
       exact if_pos (by omega))
theorem placeR_nat (f s n : Nat) : placeR f s (.int (n : Nat)) = if n < f then none else if s = 0 then (if n = f then some 0 else none) else if (n - f) % s = 0 then some ((n - f) / s) else none := by
  show (if ((n : Nat) : Int) < (f : Int) then none else if s = 0 then (if ((n : Nat) : Int) = (f : Int) then some 0 else none) else if (((n : Nat) : Int).toNat - f) % s = 0 then some ((((n : Nat) : Int).toNat - f) / s) else none) = _
  rw [Int.toNat_natCast]
  by_cases c : n < f
  · rw [if_pos (by omega), if_pos c]
  · rw [if_neg (by omega), if_neg c]
    by_cases z : s = 0
    · rw [if_pos z, if_pos z]
      by_cases e : n = f
      · rw [if_pos (by omega), if_pos e]
      · rw [if_neg (by omega), if_neg e]
    · rw [if_neg z, if_neg z]
theorem placeR_one {f n : Nat} (h : f ≤ n) : placeR f 1 (.int (n : Nat)) = some (n - f) := by
  rw [placeR_nat, if_neg (by omega), if_neg (by decide), if_pos (Nat.mod_one _), Nat.div_one]
theorem placeR_low {f s n : Nat} (h : n < f) : placeR f s (.int (n : Nat)) = none := by rw [placeR_nat, if_pos h]
def spPlace : Sp := fun vs H Q _ => ∃ (p : Addr) (a b : Nat) (v : V), vs = [.ref p, v] ∧ TupAt H p [.int (a : Nat), .int (b : Nat)] ∧ Odd H v ∧ b < 1000000 ∧ Q (opI (placeR a b v)) H
/-- a text at x: what its counts are, and what is made of them -/
def ProgAt (C : Addr) (H : Hp) (x : Addr) (a b g u : Nat) : Prop := ∃ dx fs c m, H x = some (.ins C dx fs) ∧ fs.lookup ("_counts" : Str) = some (.ref c) ∧ fs.lookup ("_made_counts" : Str) = some (.ref m) ∧ TupAt H c [.int (a : Nat), .int (b : Nat)] ∧ TupAt H m [.int (g : Nat), .int (u : Nat)] ∧ fs.lookup ("counts" : Str) = none ∧ fs.lookup ("made_counts" : Str) = none
theorem ProgAt.same {C : Addr} {H H' : Hp} {x : Addr} {a b g u : Nat} (h : ProgAt C H x a b g u) (e : Same H H') : ProgAt C H' x a b g u :=
  let ⟨dx, fs, c, m, h1, h2, h3, h4, h5, h6⟩ := h; ⟨dx, fs, c, m, e _ _ h1, h2, h3, h4.same e, h5.same e, h6⟩
structure SecC (K : PySem.W.Frag) (C : Addr) : Prop where
  own : OwnC K C
  nc : NoAttr K C "_counts"
  nm : NoAttr K C "_made_counts"
def spCounts (C : Addr) : Sp := fun vs H Q _ => ∃ (x : Addr) (a b g u : Nat), vs = [.ref x] ∧ ProgAt C H x a b g u ∧ ∀ c, TupAt H c [.int (a : Nat), .int (b : Nat)] → Q (.ref c) H
def spMadeC (C : Addr) : Sp := fun vs H Q _ => ∃ (x : Addr) (a b g u : Nat), vs = [.ref x] ∧ ProgAt C H x a b g u ∧ ∀ c, TupAt H c [.int (g : Nat), .int (u : Nat)] → Q (.ref c) H
abbrev rtT : List Value := [.type "RuntimeError", .type "Exception", .type "BaseException", .type "object"]
abbrev FitC (K : PySem.W.Frag) (mg : Str → Option Value) (C : Addr) (st : Stmt) : Prop := ErrB K mg "NotFitting" C st "NotFitting.__init__" "RuntimeError" "RuntimeError.__new__" "RuntimeError.__init__" rtT ∧ ∀ x ∈ (["section", "loops"] : List Str), PySem.W.findIn K (.ref C) x = some none
def spPlaceOf (C CF : Addr) : Sp := fun vs H Q E => ∃ (x : Addr) (a b g u : Nat) (v : V), vs = [.ref x, v] ∧ ProgAt C H x a b g u ∧ Odd H v ∧ b < 1000000 ∧ (∀ n, placeR a b v = some n → Q (.int (n : Nat)) H) ∧
  (placeR a b v = none → ∀ d H', Same H H' → H' d = some (.xd [("loops", v), ("section", .int 0)]) → E (.ref CF) (some d) H')
def spMadeOf (C CF : Addr) : Sp := fun vs H Q E => ∃ (x : Addr) (a b g u : Nat) (v : V), vs = [.ref x, v] ∧ ProgAt C H x a b g u ∧ Odd H v ∧ b < 1000000 ∧ u < 1000000 ∧ (∀ n, placeR a b v = some n → Q (.int ((g + n * u : Nat) : Int)) H) ∧
  (placeR a b v = none → ∀ d H', Same H H' → H' d = some (.xd [("loops", v), ("section", .int 0)]) → E (.ref CF) (some d) H')
/-- a slope in lowest terms -/
def slopeR (b u : Nat) : Nat × Nat := if b = 0 then (1, 1) else (u / Nat.gcd u b, b / Nat.gcd u b)
def spSlopeOf (C : Addr) : Sp := fun vs H Q _ => ∃ (x : Addr) (a b g u : Nat), vs = [.ref x] ∧ ProgAt C H x a b g u ∧ b < 1000000 ∧ ∀ t, H t = none → Q (.ref t) (upd H t (.tup [.int ((slopeR b u).1 : Nat), .int ((slopeR b u).2 : Nat)]))
def spCheckB (CB C : Addr) : Sp := fun vs H Q _ => ∃ (b : Addr) (rs qs : List Row), vs = [.ref b] ∧ BookAt CB C H b rs qs ∧ Q .non H
def spCheckW (CB C : Addr) : Sp := fun vs H Q _ => ∃ (b l : Addr) (rs qs us : List Row) (n : Nat), vs = [.ref b, .ref l, .int (n : Nat)] ∧ BookAt CB C H b rs qs ∧ TupAt H l (wordV us) ∧ WordOf rs us ∧ n ≤ us.length ∧ ∀ H', Same H H' → Q .non H'
def spPlain (C : Addr) : Sp := fun vs H Q _ => ∃ (a : Addr) (r : Row), vs = [.ref a] ∧ KindAt C H a r ∧ Q (.bl (decide (r.takes = 1) && decide (r.makes = 1))) H
section
variable {P : Program} {w : World} {K : PySem.W.Frag} {mg : Str → Option Value} {base : Heap} {C CB CE CF : Addr} {Cs : Nat → Addr}
abbrev s_NotFitting___init__ : Stmt := inClass (top 24) 0
theorem sc_NotFittingD_initD : FnScope ["self", "section", "loops"] ["self", "section", "loops"] (defScope s_NotFitting___init__) := ⟨rfl, rfl, rfl, by decide +kernel, rfl, by decide +kernel, by decide +kernel⟩
theorem ok_fit (T : FitC K mg CF s_NotFitting___init__) (fI : Addr) (fd : FuncData) (F : Fun K "__init__" "NotFitting.__init__" s_NotFitting___init__ fI fd) : FnOk P w K mg base CX0 1 fI fd ["self", "section", "loops"] (spErr2 "section" "loops" CF) ∧ Binds K fd ["self", "section", "loops"] [] := by
  obtain ⟨⟨o, _⟩, no⟩ := T
  refine ⟨F.ok sc_NotFittingD_initD (fun vs H Q E h => ?_) (fun cdv A outer s H vs Q E hr h => ?_), F.binds (fun _ _ _ _ _ _ us hl => match us, hl with | [_, _, _], _ => rfl)⟩
  · obtain ⟨_, _, _, rfl, _⟩ := h
    rfl
  · obtain ⟨a, v, u, rfl, ha, k⟩ := h
    refine ⟨_, PSs.nox (pss_cons (ps_put (B := "RuntimeError") (newId := "RuntimeError.__new__") (initId := "RuntimeError.__init__") (bmB := rtT) (pv 0) (pv 1)) (pss_one (ps_put (B := "RuntimeError") (newId := "RuntimeError.__new__") (initId := "RuntimeError.__init__") (bmB := rtT) (pv 0) (pv 2)))), _, rfl, _, rfl, a, _, rfl, o, no _ (by simp), .inl ⟨ha, fun d nd ne => ?_⟩⟩
    refine ⟨_, rfl, _, rfl, a, _, rfl, o, no _ (by simp), .inr ⟨d, _, upd_same, (upd_ne ne).trans upd_same, (by show 1 ≤ 900; decide), ?_⟩⟩
    have e := k d nd ne
    refine Eq.mp (congrArg (Q .non) ?_) e
    funext b
    by_cases z : b = d
    · subst z
      rw [upd_ne ne, upd_same, upd_same]
    · by_cases y : b = a
      · subst y
        rw [upd_same, upd_ne z, upd_same]
      · rw [upd_ne y, upd_ne z, upd_ne z, upd_ne y, upd_ne z]
abbrev s_place_in : Stmt := top 59
theorem sc_place_in : FnScope ["progression", "value", "first", "step"] ["progression", "value"] (defScope s_place_in) := ⟨rfl, rfl, rfl, by decide +kernel, rfl, by decide +kernel, by decide +kernel⟩
theorem hplace_in (F : FunAt K mg "place_in" "place_in" s_place_in) (his_count : Has P w K mg base "is_count" 2 ["value"] spCount) : Has P w K mg base "place_in" 3 ["progression", "value"] spPlace := by
  refine has_of F sc_place_in (fun _ _ _ _ _ _ us hl => match us, hl with | [_, _], _ => rfl) (fun vs H Q E h => ?_) (fun f cdv A outer s H vs Q E hr h => ?_)
  · obtain ⟨_, _, _, _, rfl, _⟩ := h
    rfl
  · obtain ⟨p, a, b, v, rfl, hp, ho, hs, k⟩ := h
    refine ⟨_, (pss_cons (ps_asg (pv 0) (pg_tup rfl (pgs_cons (pg_name (i := 2) sc_place_in.nd rfl (Or.inl rfl)) (pgs_cons (pg_name (i := 3) sc_place_in.nd rfl (Or.inl rfl)) pgs_nil))))
      (pss_cons (ps_if (PW.pt (pw_or (pt_not (pt_val (pe_has his_count (hr.mono (by decide)) (pa_cons (pv 1) pa_nil)))) (pw_or1 (pt_cmpR op_lt (pv 1) (pv 2) (by first | exact nomark _ | rfl))))) (pss_one (ps_ret pe_non))
        pss_nil)
      (pss_cons (ps_if (pt_cmpR op_eq (pv 3) pe_int (by first | exact nomark _ | rfl)) (pss_one (ps_ret (pe_ifExp (pt_cmpR op_eq (pv 1) (pv 2) (by first | exact nomark _ | rfl)) pe_int pe_non)))
        pss_nil)
      (pss_cons (ps_if (pt_cmpR op_ne (pe_op op_mod (pe_op op_sub (pv 1) (pv 2)) (pv 3)) pe_int (by first | exact nomark _ | rfl)) (pss_one (ps_ret pe_non))
        pss_nil)
      (pss_one (ps_ret (pe_op op_fdiv (pe_op op_sub (pv 1) (pv 2)) (pv 3)))))))), ?_⟩
    refine ⟨_, rfl, p, _, rfl, hp.st, rfl, _, _, rfl, _, _, rfl, rfl, ?_⟩
    refine next_of ?_
    dsimp only
    refine ⟨_, rfl, v, rfl, ho, _, rfl, ?_⟩
    cases hg : goodC v with
    | false =>
      rw [placeR_bad hg] at k
      exact iteT (iteT k)
    | true =>
      refine iteF ?_
      cases v <;> try (exact absurd hg (by intro z; cases z))
      rename_i i
      have i0 : 0 ≤ i := of_decide_eq_true hg
      obtain ⟨n, rfl⟩ := Int.eq_ofNat_of_zero_le i0
      rw [placeR_nat] at k
      refine ⟨_, rfl, _, rfl, _, _, rfl, rfl, _, rfl, ite2 (fun c => ?_) (fun c => ?_)⟩
      · rw [if_pos (by have := of_decide_eq_true c; omega)] at k
        exact k
      · have c' : ¬ ((n : Int) < (a : Int)) := by simpa using c
        rw [if_neg (by omega)] at k
        have hle : a ≤ n := by omega
        refine next_of ?_
        dsimp only
        refine ⟨_, rfl, rfl, _, rfl, ite2 (fun c2 => ?_) (fun c2 => ?_)⟩
        · have z : b = 0 := by have := V.int.inj (of_decide_eq_true c2); omega
          rw [if_pos z] at k
          refine ⟨_, rfl, _, rfl, rfl, _, rfl, ite2 (fun c3 => ?_) (fun c3 => ?_)⟩
          · have e : n = a := by have := V.int.inj (of_decide_eq_true c3); omega
            rw [if_pos e] at k
            exact k
          · have e : ¬ n = a := fun e => by
              subst e
              exact c3 (decide_eq_true rfl)
            rw [if_neg e] at k
            exact k
        · have z : ¬ b = 0 := fun e => by
            subst e
            exact c2 (decide_eq_true rfl)
          rw [if_neg z] at k
          refine next_of ?_
          dsimp only
          have e1 : ((n : Int) - (a : Int)) = ((n - a : Nat) : Int) := by omega
          have e2 : ((n : Int) - (a : Int)) % (b : Int) = (((n - a) % b : Nat) : Int) := by rw [e1]; exact (Int.natCast_emod _ _).symm
          have e3 : ((n : Int) - (a : Int)) / (b : Int) = (((n - a) / b : Nat) : Int) := by rw [e1]; exact (Int.natCast_ediv _ _).symm
          refine ⟨_, rfl, _, rfl, _, _, rfl, rfl, _, rfl, _, _, rfl, rfl, by omega, rfl, _, rfl, ite2 (fun c3 => ?_) (fun c3 => ?_)⟩
          · replace c3 : (!decide (V.int (((n : Int) - (a : Int)) % (b : Int)) = V.int 0)) = true := c3
            rw [if_neg (fun y => by
              rw [e2, y] at c3
              exact absurd c3 (by decide))] at k
            exact k
          · have y : (n - a) % b = 0 := by
              by_cases y : (n - a) % b = 0
              · exact y
              · refine absurd ?_ c3
                show (!decide (V.int (((n : Int) - (a : Int)) % (b : Int)) = V.int 0)) = true
                rw [e2]
                simp
                omega
            rw [if_pos y] at k
            refine next_of ?_
            dsimp only
            refine ⟨_, rfl, _, rfl, _, _, rfl, rfl, _, rfl, _, _, rfl, rfl, ⟨by omega, by omega⟩, ?_⟩
            show Q (V.int (((n : Int) - (a : Int)) / (b : Int))) H
            rw [e3]
            exact k
abbrev s__check_book : Stmt := top 64
theorem sc__check_book : FnScope ["book"] ["book"] (defScope s__check_book) := ⟨rfl, rfl, rfl, by decide +kernel, rfl, by decide +kernel, by decide +kernel⟩
theorem h_check_book (B : Blts mg) (U : BookT K mg CB) (F : FunAt K mg "_check_book" "_check_book" s__check_book) : Has P w K mg base "_check_book" 1 ["book"] (spCheckB CB C) := by
  refine has_of F sc__check_book (fun _ _ _ _ _ _ us hl => match us, hl with | [_], _ => rfl) (fun vs H Q E h => ?_) (fun f cdv A outer s H vs Q E hr h => ?_)
  · obtain ⟨_, _, _, rfl, _⟩ := h
    rfl
  · obtain ⟨b, rs, qs, rfl, hb, k⟩ := h
    obtain ⟨db, _, _, _, _, hbi, _⟩ := id hb
    refine ⟨_, (pss_one (ps_if (pt_not (pt_val (pe_callB call_isi (by rfl) B.n_isinstance (by decide +kernel) (pa_cons (pv 0) (pa_cons (pe_glob (v := .ref CB) rfl U.g rfl) pa_nil))))) (pss_one ps_never)
        pss_nil)), ?_⟩
    exact ⟨_, rfl, _, _, _, _, true, rfl, .own CB, U.own.ty hbi, kit_self, true, rfl, iteF k⟩
abbrev s__check_word : Stmt := top 65
theorem sc__check_word : FnScope ["book", "word", "least"] ["book", "word", "least"] (defScope s__check_word) := ⟨rfl, rfl, rfl, by decide +kernel, rfl, by decide +kernel, by decide +kernel⟩
theorem h_check_word (B : Blts mg) (U : BookT K mg CB) (F : FunAt K mg "_check_word" "_check_word" s__check_word) (m_is_word : HasM P w K mg base CB "is_word" 1 ["self", "value"] (spIsWord K CB C)) : Has P w K mg base "_check_word" 3 ["book", "word", "least"] (spCheckW CB C) := by
  refine has_of F sc__check_word (fun _ _ _ _ _ _ us hl => match us, hl with | [_, _, _], _ => rfl) (fun vs H Q E h => ?_) (fun f cdv A outer s H vs Q E hr h => ?_)
  · obtain ⟨_, _, _, _, _, _, rfl, _⟩ := h
    rfl
  · obtain ⟨b, l, rs, qs, us, n, rfl, hb, hl, hw, hn, k⟩ := h
    obtain ⟨db, _, _, _, _, hbi, _⟩ := id hb
    refine ⟨_, (pss_one (ps_if (PW.pt (pw_or (pt_not (pt_val (pe_hasM m_is_word U.cl (hr.mono (by decide)) (pv 0) (pa_cons (pv 1) pa_nil)))) (pw_or1 (pt_cmpR op_lt (pe_callB call_len (by rfl) B.n_len PySem.boot_len (pa_cons (pv 1) pa_nil)) (pv 2) (by first | exact nomark _ | rfl))))) (pss_one ps_never)
        pss_nil)), ?_⟩
    refine ⟨_, rfl, b, db, _, rfl, hbi, rfl, _, rfl, b, l, rs, qs, us, rfl, hb, hl, hw, fun H1 s1 => ⟨_, rfl, iteF ?_⟩⟩
    refine ⟨_, rfl, _, (wordV us).length, rfl, .inr ⟨_, (hl.same s1).st, rfl⟩, _, rfl, _, _, rfl, rfl, _, rfl, ite2 (fun c => ?_) (fun _ => k H1 s1)⟩
    have := of_decide_eq_true c
    rw [wordV_len] at this
    omega
abbrev s__is_plain : Stmt := top 66
theorem sc__is_plain : FnScope ["kind"] ["kind"] (defScope s__is_plain) := ⟨rfl, rfl, rfl, by decide +kernel, rfl, by decide +kernel, by decide +kernel⟩
theorem h_is_plain (T : KindT K mg C Cs) (F : FunAt K mg "_is_plain" "_is_plain" s__is_plain) (p2 : PK' P w K mg base C "takes" fun r => .int r.takes) (p3 : PK' P w K mg base C "makes" fun r => .int r.makes) : Has P w K mg base "_is_plain" 3 ["kind"] (spPlain C) := by
  refine has_of F sc__is_plain (fun _ _ _ _ _ _ us hl => match us, hl with | [_], _ => rfl) (fun vs H Q E h => ?_) (fun f cdv A outer s H vs Q E hr h => ?_)
  · obtain ⟨_, _, rfl, _⟩ := h
    rfl
  · obtain ⟨a, r, rfl, ha, k⟩ := h
    obtain ⟨dx, hai⟩ := id ha
    refine ⟨_, (pss_one (ps_ret (pe_and (pe_cmpR op_eq (pe_hasP p2 T.cl (hr.mono (by decide)) (pv 0)) pe_int (by first | exact nomark _ | rfl)) (pe_one (pe_cmpR op_eq (pe_hasP p3 T.cl (hr.mono (by decide)) (pv 0)) pe_int (by first | exact nomark _ | rfl)))))), ?_⟩
    refine ⟨_, rfl, a, dx, _, rfl, hai, a, r, rfl, ha, rfl, ?_⟩
    by_cases c : r.takes = 1
    · rw [decide_eq_true c] at k
      refine ⟨_, rfl, ?_⟩
      rw [decide_eq_true (show V.int r.takes = V.int 1 by rw [c])]
      refine iteT ?_
      refine ⟨_, rfl, a, dx, _, rfl, hai, a, r, rfl, ha, rfl, ?_⟩
      rw [Bool.true_and] at k
      by_cases c2 : r.makes = 1
      · rw [decide_eq_true c2] at k
        rw [decide_eq_true (show V.int r.makes = V.int 1 by rw [c2])]
        exact k
      · rw [decide_eq_false c2] at k
        rw [decide_eq_false (show ¬ V.int r.makes = V.int 1 from fun z => c2 (V.int.inj z))]
        exact k
    · rw [decide_eq_false c] at k
      refine ⟨_, rfl, ?_⟩
      rw [decide_eq_false (show ¬ V.int r.takes = V.int 1 from fun z => c (V.int.inj z))]
      exact iteF k
abbrev s__place_of : Stmt := top 67
theorem sc__place_of : FnScope ["text", "loops", "place"] ["text", "loops"] (defScope s__place_of) := ⟨rfl, rfl, rfl, by decide +kernel, rfl, by decide +kernel, by decide +kernel⟩
theorem h_place_of (S : SecC K CE) (TF : FitC K mg CF s_NotFitting___init__) (F : FunAt K mg "_place_of" "_place_of" s__place_of) (hplace_in : Has P w K mg base "place_in" 3 ["progression", "value"] spPlace) (m_counts : HasM P w K mg base CE "counts" 1 ["self"] (spCounts CE)) : HasX P w K mg base "_place_of" 4 ["text", "loops"] (spPlaceOf CE CF) := by
  refine hasX_of F sc__place_of (fun _ _ _ _ _ _ us hl => match us, hl with | [_, _], _ => rfl) (fun vs H Q E h => ?_) (fun f cdv A outer s H vs Q E hr h => ?_)
  · obtain ⟨_, _, _, _, _, _, rfl, _⟩ := h
    rfl
  · obtain ⟨x, a, b, g, u, v, rfl, hx, hv, hb, k1, k2⟩ := h
    obtain ⟨dx, fs, c, m, h1, h2, h3, h4, h5, h6, h7⟩ := id hx
    refine ⟨_, (pss_cons (ps_set (i := 2) sc__place_of.nd rfl (Or.inl rfl) (pe_has hplace_in (hr.mono (by decide)) (pa_cons (pe_hasM0 m_counts S.own.cl (hr.mono (by decide)) (pv 0)) (pa_cons (pv 1) pa_nil))))
      (pss_cons (ps_if (pt_cmpR op_isN (pv 2) pe_non (by first | exact nomark _ | rfl)) (pss_one (ps_raiseB2 rfl TF.1 (ok_fit TF) (hr.mono (by decide)) (takes_of rfl rfl rfl rfl) (by exact (pa_cons pe_int (pa_cons (pv 1) pa_nil)))))
        pss_nil)
      (pss_one (ps_ret (pv 2))))), ?_⟩
    refine ⟨_, rfl, x, dx, fs, rfl, h1, h6, x, a, b, g, u, rfl, hx, fun c hc => ⟨_, rfl, c, a, b, v, rfl, hc, hv, hb, ?_⟩⟩
    refine next_of ?_
    dsimp only
    refine ⟨_, rfl, rfl, _, rfl, ?_⟩
    cases hp : placeR a b v with
    | none => exact iteT ⟨_, rfl, _, _, rfl, fun d hd => k2 hp d _ (Same.new hd) upd_same⟩
    | some n => exact iteF (next_of ⟨_, rfl, k1 n hp⟩)
abbrev s__made_of : Stmt := top 68
theorem sc__made_of : FnScope ["text", "loops", "place", "first", "step"] ["text", "loops"] (defScope s__made_of) := ⟨rfl, rfl, rfl, by decide +kernel, rfl, by decide +kernel, by decide +kernel⟩
theorem h_made_of (S : SecC K CE) (F : FunAt K mg "_made_of" "_made_of" s__made_of) (h_place_of : HasX P w K mg base "_place_of" 4 ["text", "loops"] (spPlaceOf CE CF)) (m_made_counts : HasM P w K mg base CE "made_counts" 1 ["self"] (spMadeC CE)) : HasX P w K mg base "_made_of" 5 ["text", "loops"] (spMadeOf CE CF) := by
  refine hasX_of F sc__made_of (fun _ _ _ _ _ _ us hl => match us, hl with | [_, _], _ => rfl) (fun vs H Q E h => ?_) (fun f cdv A outer s H vs Q E hr h => ?_)
  · obtain ⟨_, _, _, _, _, _, rfl, _⟩ := h
    rfl
  · obtain ⟨x, a, b, g, u, v, rfl, hx, hv, hb, hu, k1, k2⟩ := h
    obtain ⟨dx, fs, c, m, h1, h2, h3, h4, h5, h6, h7⟩ := id hx
    refine ⟨_, (pss_cons (ps_set (i := 2) sc__made_of.nd rfl (Or.inl rfl) (pe_hasX h_place_of (hr.mono (by decide)) (passes_call (takes_of rfl rfl rfl rfl) (fun _ _ _ _ h => h)) (pa_cons (pv 0) (pa_cons (pv 1) pa_nil))))
      (pss_cons (ps_asg (pe_hasM0 m_made_counts S.own.cl (hr.mono (by decide)) (pv 0)) (pg_tup rfl (pgs_cons (pg_name (i := 3) sc__made_of.nd rfl (Or.inl rfl)) (pgs_cons (pg_name (i := 4) sc__made_of.nd rfl (Or.inl rfl)) pgs_nil))))
      (pss_one (ps_ret (pe_op op_add (pv 3) (pe_op op_mul (pv 2) (pv 4))))))), ?_⟩
    refine ⟨_, rfl, _, rfl, x, a, b, g, u, v, rfl, hx, hv, hb, fun n hn => ?_, k2⟩
    refine next_of ?_
    dsimp only
    refine ⟨_, rfl, x, dx, fs, rfl, h1, h7, x, a, b, g, u, rfl, hx, fun m hm => ⟨m, _, rfl, hm.st, rfl, _, _, rfl, _, _, rfl, rfl, ?_⟩⟩
    refine next_of ?_
    dsimp only
    refine ⟨_, rfl, _, rfl, _, rfl, _, _, rfl, rfl, .inr ⟨by omega, by omega⟩, _, _, rfl, rfl, ?_⟩
    have e : ((g : Int) + (n : Int) * (u : Int)) = ((g + n * u : Nat) : Int) := by rw [Int.natCast_add, Int.natCast_mul]
    show Q (V.int ((g : Int) + (n : Int) * (u : Int))) H
    rw [e]
    exact k1 n hn
abbrev s__slope_of : Stmt := top 69
theorem sc__slope_of : FnScope ["text", "bottom", "top", "common"] ["text"] (defScope s__slope_of) := ⟨rfl, rfl, rfl, by decide +kernel, rfl, by decide +kernel, by decide +kernel⟩
theorem h_slope_of (S : SecC K CE) (g_gcd : mg "gcd" = some (.builtin "math.gcd")) (F : FunAt K mg "_slope_of" "_slope_of" s__slope_of) (m_counts : HasM P w K mg base CE "counts" 1 ["self"] (spCounts CE)) (m_made_counts : HasM P w K mg base CE "made_counts" 1 ["self"] (spMadeC CE)) : Has P w K mg base "_slope_of" 2 ["text"] (spSlopeOf CE) := by
  refine has_of F sc__slope_of (fun _ _ _ _ _ _ us hl => match us, hl with | [_], _ => rfl) (fun vs H Q E h => ?_) (fun f cdv A outer s H vs Q E hr h => ?_)
  · obtain ⟨_, _, _, _, _, rfl, _⟩ := h
    rfl
  · obtain ⟨x, a, b, g, u, rfl, hx, hb, k⟩ := h
    obtain ⟨dx, fs, c, m, h1, h2, h3, h4, h5, h6, h7⟩ := id hx
    refine ⟨_, (pss_cons (ps_set (i := 1) sc__slope_of.nd rfl (Or.inl rfl) (pe_ix ix_tup (pe_hasM0 m_counts S.own.cl (hr.mono (by decide)) (pv 0)) pe_int (fun _ _ => rfl)))
      (pss_cons (ps_if (pt_cmpR op_eq (pv 1) pe_int (by first | exact nomark _ | rfl)) (pss_one (ps_ret (pe_tup (pa_cons pe_int (pa_cons pe_int pa_nil)))))
        pss_nil)
      (pss_cons (ps_set (i := 2) sc__slope_of.nd rfl (Or.inl rfl) (pe_ix ix_tup (pe_hasM0 m_made_counts S.own.cl (hr.mono (by decide)) (pv 0)) pe_int (fun _ _ => rfl)))
      (pss_cons (ps_set (i := 3) sc__slope_of.nd rfl (Or.inl rfl) (pe_callBfun cr_gcd (by rfl) g_gcd (pa_cons (pv 2) (pa_cons (pv 1) pa_nil))))
      (pss_one (ps_ret (pe_tup (pa_cons (pe_op op_fdiv (pv 2) (pv 3)) (pa_cons (pe_op op_fdiv (pv 1) (pv 3)) pa_nil))))))))), ?_⟩
    refine ⟨_, rfl, x, dx, fs, rfl, h1, h6, x, a, b, g, u, rfl, hx, fun c hc => ⟨c, _, 1, _, rfl, rfl, hc.st, rfl, ?_⟩⟩
    refine next_of ?_
    dsimp only
    refine ⟨_, rfl, rfl, _, rfl, ite2 (fun c => ?_) (fun c => ?_)⟩
    · have z : b = 0 := by have := V.int.inj (of_decide_eq_true c); omega
      refine ⟨(by show 2 ≤ sizeLine; decide), fun t nt => ?_⟩
      have q := k t nt
      rw [slopeR, if_pos z] at q
      exact q
    · have z : ¬ b = 0 := fun e => by
        subst e
        exact c (decide_eq_true rfl)
      refine next_of ?_
      dsimp only
      refine ⟨_, rfl, x, dx, fs, rfl, h1, h7, x, a, b, g, u, rfl, hx, fun m hm => ⟨m, _, 1, _, rfl, rfl, hm.st, rfl, ?_⟩⟩
      refine next_of ?_
      dsimp only
      refine ⟨_, rfl, _, rfl, _, _, rfl, ?_⟩
      refine next_of ?_
      dsimp only
      rw [Int.natAbs_natCast, Int.natAbs_natCast]
      have gl : 0 < Nat.gcd u b := Nat.gcd_pos_of_pos_right _ (by omega)
      have gu : Nat.gcd u b ≤ b := Nat.le_of_dvd (by omega) (Nat.gcd_dvd_right u b)
      refine ⟨_, rfl, _, rfl, _, _, rfl, rfl, ⟨by omega, by omega⟩, _, rfl, _, rfl, _, _, rfl, rfl, ⟨by omega, by omega⟩, (by show 2 ≤ sizeLine; decide), fun t nt => ?_⟩
      have q := k t nt
      rw [slopeR, if_neg z] at q
      rw [Int.natCast_ediv, Int.natCast_ediv] at q
      exact q
end
end N

set_option maxHeartbeats 4000000
namespace N
open PySem L2
/-! ### Evenly -/
def tk (us : List Row) : Nat := (sumOf Row.takes us).toNat
def mk (us : List Row) : Nat := (sumOf Row.makes us).toNat
theorem sum6 {g : Row → Int} : ∀ {us : List Row}, (∀ u ∈ us, 0 ≤ g u ∧ g u ≤ 6) → 0 ≤ sumOf g us ∧ sumOf g us ≤ 6 * (us.length : Int)
  | [], _ => by simp [sumOf]
  | u :: us, h => by
    obtain ⟨a, b⟩ := sum6 (g := g) (us := us) fun x hx => h x (.tail _ hx)
    have hu := h u (.head _)
    unfold sumOf at a b ⊢
    rw [List.map_cons, List.sum_cons, List.length_cons]
    omega
theorem tk_is {us : List Row} (h : ∀ u ∈ us, KindOk u) : sumOf Row.takes us = ((tk us : Nat) : Int) := by
  have := (sum6 (g := Row.takes) (us := us) fun u hu => (h u hu).takes).1
  unfold tk
  omega
theorem mk_is {us : List Row} (h : ∀ u ∈ us, KindOk u) : sumOf Row.makes us = ((mk us : Nat) : Int) := by
  have := (sum6 (g := Row.makes) (us := us) fun u hu => (h u hu).makes).1
  unfold mk
  omega
theorem tk_le {us : List Row} (h : ∀ u ∈ us, KindOk u) : tk us ≤ 6 * us.length := by
  have := (sum6 (g := Row.takes) (us := us) fun u hu => (h u hu).takes).2
  unfold tk
  omega
theorem mk_le {us : List Row} (h : ∀ u ∈ us, KindOk u) : mk us ≤ 6 * us.length := by
  have := (sum6 (g := Row.makes) (us := us) fun u hu => (h u hu).makes).2
  unfold mk
  omega
theorem small_mul {n : Nat} (h : n ≤ 1000000) (z : Int) : CMul (n : Nat) z := by
  have h1 : (1000000 : Int) < 2 ^ 64 := by decide
  have h2 : (-(2 ^ 64) : Int) < 0 := by decide
  exact .inl ⟨Int.lt_of_lt_of_le h2 (Int.natCast_nonneg n), Int.lt_of_le_of_lt (by omega) h1⟩
structure EvenOk (rs ds : List Row) (n : Nat) (p : Row) : Prop where
  word : WordOf rs ds
  ne : ds ≠ []
  lo : 1 ≤ n
  hi : n ≤ 12
  mem : p ∈ rs
  ptk : p.takes = 1
  pmk : p.makes = 1
  kind : ∀ r ∈ rs, KindOk r
theorem EvenOk.dk {rs ds : List Row} {n : Nat} {p : Row} (h : EvenOk rs ds n p) : ∀ u ∈ ds, KindOk u := fun u hu => h.kind u (h.word.2 u hu)
theorem EvenOk.tkb {rs ds : List Row} {n : Nat} {p : Row} (h : EvenOk rs ds n p) : n * N.tk ds ≤ 17280 := Nat.mul_le_mul h.hi (Nat.le_trans (tk_le h.dk) (Nat.mul_le_mul_left 6 h.word.1))
theorem EvenOk.mkb {rs ds : List Row} {n : Nat} {p : Row} (h : EvenOk rs ds n p) : n * N.mk ds ≤ 17280 := Nat.mul_le_mul h.hi (Nat.le_trans (mk_le h.dk) (Nat.mul_le_mul_left 6 h.word.1))
def evenF (b l c m : Addr) (n : Nat) (p : Row) : List (Str × V) := [("_book", .ref b), ("_deed", .ref l), ("_times", .int (n : Nat)), ("_plain", .str p.name), ("_counts", .ref c), ("_made_counts", .ref m)]
def EvenAt (CE CB C : Addr) (H : Hp) (x b : Addr) (rs qs ds : List Row) (n : Nat) (p : Row) : Prop := ∃ dx l c m, H x = some (.ins CE dx (evenF b l c m n p)) ∧ BookAt CB C H b rs qs ∧ FrzT H l (wordV ds) ∧
  TupAt H c [.int ((n * tk ds : Nat) : Int), .int 1] ∧ TupAt H m [.int ((n * mk ds : Nat) : Int), .int 1] ∧ EvenOk rs ds n p
theorem EvenAt.same {CE CB C : Addr} {H H' : Hp} {x b : Addr} {rs qs ds : List Row} {n : Nat} {p : Row} (h : EvenAt CE CB C H x b rs qs ds n p) (e : Same H H') : EvenAt CE CB C H' x b rs qs ds n p :=
  let ⟨dx, l, c, m, h1, h2, h3, h4, h5, h6⟩ := h; ⟨dx, l, c, m, e _ _ h1, h2.same e, h3.same e, h4.same e, h5.same e, h6⟩
theorem EvenAt.prog {CE CB C : Addr} {H : Hp} {x b : Addr} {rs qs ds : List Row} {n : Nat} {p : Row} (h : EvenAt CE CB C H x b rs qs ds n p) : ProgAt CE H x (n * tk ds) 1 (n * mk ds) 1 :=
  let ⟨dx, l, c, m, h1, h2, h3, h4, h5, h6⟩ := h; ⟨dx, _, c, m, h1, rfl, rfl, h4, h5, rfl, rfl⟩
structure EvenT (K : PySem.W.Frag) (mg : Str → Option Value) (CE : Addr) : Prop where
  sec : SecC K CE
  nb : NoAttr K CE "_book"
  nd : NoAttr K CE "_deed"
  nt : NoAttr K CE "_times"
  np : NoAttr K CE "_plain"
  g : mg "Evenly" = some (.ref CE)
  times : ∃ t, mg "_MOST_TIMES" = some (.int 12 t)
theorem EvenT.cl {K : PySem.W.Frag} {mg : Str → Option Value} {CE : Addr} (T : EvenT K mg CE) : Cls K CE := T.sec.own.cl
def spEInit (CE CB C : Addr) : Sp := fun vs H Q _ => ∃ (x dx b l : Addr) (rs qs ds : List Row) (n : Nat) (p : Row) (H0 : Hp), vs = [.ref x, .ref b, .ref l, .int (n : Nat), .str p.name] ∧ H x = some (.ins CE dx []) ∧ H0 x = none ∧ Same H0 H ∧ BookAt CB C H0 b rs qs ∧ FrzT H0 l (wordV ds) ∧ EvenOk rs ds n p ∧
  ∀ H', Same H0 H' → EvenAt CE CB C H' x b rs qs ds n p → Q .non H'
section
variable {P : Program} {w : World} {K : PySem.W.Frag} {mg : Str → Option Value} {base : Heap} {C CB CE CF CL : Addr} {Cs : Nat → Addr}
abbrev s_Evenly___init__ : Stmt := inClass (top 63) 0
theorem sc_EvenlyD_initD : FnScope ["self", "book", "deed", "times", "plain"] ["self", "book", "deed", "times", "plain"] (defScope s_Evenly___init__) := ⟨rfl, rfl, rfl, by decide +kernel, rfl, by decide +kernel, by decide +kernel⟩
theorem ok_even (B : Blts mg) (U : BookT K mg CB) (T : EvenT K mg CE) (h_check_book : Has P w K mg base "_check_book" 1 ["book"] (spCheckB CB C)) (h_check_word : Has P w K mg base "_check_word" 3 ["book", "word", "least"] (spCheckW CB C)) (his_count_to : Has P w K mg base "is_count_to" 3 ["value", "most"] spCountTo) (h_is_plain : Has P w K mg base "_is_plain" 3 ["kind"] (spPlain C))
    (m_kind : HasMK P w K mg base CB "kind" 2 "self" "name" (spKindNamed CB C)) (m_taken : HasMK P w K mg base CB "taken" 3 "self" "word" (spSum CB C Row.takes)) (m_made : HasMK P w K mg base CB "made" 4 "self" "word" (spSum CB C Row.makes))
    {f : Addr} {fd : FuncData} (F : Fun K "__init__" "Evenly.__init__" s_Evenly___init__ f fd) : FnOk P w K mg base CX0 5 f fd ["self", "book", "deed", "times", "plain"] (spEInit CE CB C) := by
  obtain ⟨_, g_MOST_TIMES⟩ := T.times
  refine F.ok sc_EvenlyD_initD (fun vs H Q E h => ?_) (fun cdv A outer s H vs Q E hr h => ?_)
  · obtain ⟨_, _, _, _, _, _, _, _, _, _, rfl, _⟩ := h
    rfl
  · obtain ⟨x, dx, b, l, rs, qs, ds, n, p, H0, rfl, hx, nx, s0, hb, hl, ok, k⟩ := h
    refine ⟨_, (pss_cons (ps_expr (pe_has h_check_book (hr.mono (by decide)) (pa_cons (pv 1) pa_nil)))
      (pss_cons (ps_expr (pe_has h_check_word (hr.mono (by decide)) (pa_cons (pv 1) (pa_cons (pv 2) (pa_cons pe_int pa_nil)))))
      (pss_cons (ps_if (PW.pt (pw_or (pt_not (pt_val (pe_has his_count_to (hr.mono (by decide)) (pa_cons (pv 3) (pa_cons (pe_glob (v := .int 12) rfl g_MOST_TIMES ⟨_, rfl⟩) pa_nil))))) (pw_or1 (pt_cmpR op_eq (pv 3) pe_int (by first | exact nomark _ | rfl))))) (pss_one ps_never)
        pss_nil)
      (pss_cons (ps_if (pt_not (pt_val (pe_has h_is_plain (hr.mono (by decide)) (pa_cons (pe_hasM m_kind.m U.cl (hr.mono (by decide)) (pv 1) (pa_cons (pv 4) pa_nil)) pa_nil)))) (pss_one ps_never)
        pss_nil)
      (pss_cons (ps_fld (pv 0) (pv 1) rfl)
      (pss_cons (ps_fld (pv 0) (pe_callTy call_tuple_ofF (by rfl) B.n_tuple (by decide +kernel) (pa_cons (pv 2) pa_nil)) rfl)
      (pss_cons (ps_fld (pv 0) (pv 3) rfl)
      (pss_cons (ps_fld (pv 0) (pv 4) rfl)
      (pss_cons (ps_fld (pv 0) (pe_tup (pa_cons (pe_op op_mul (pv 3) (pe_hasM m_taken.m U.cl (hr.mono (by decide)) (pv 1) (pa_cons (pv 2) pa_nil))) (pa_cons pe_int pa_nil))) rfl)
      (pss_one (ps_fld (pv 0) (pe_tup (pa_cons (pe_op op_mul (pv 3) (pe_hasM m_made.m U.cl (hr.mono (by decide)) (pv 1) (pa_cons (pv 2) pa_nil))) (pa_cons pe_int pa_nil))) rfl))))))))))), ?_⟩
    obtain ⟨db, _, _, _, _, hbi, _⟩ := id hb
    refine ⟨_, rfl, b, rs, qs, rfl, hb.same s0, ?_⟩
    refine next_of ?_
    dsimp only
    refine ⟨_, rfl, _, rfl, b, l, rs, qs, ds, 1, rfl, hb.same s0, (hl.same s0).at, ok.word, List.length_pos_iff.mpr ok.ne, fun H1 s1 => ?_⟩
    have s01 := s0.trans s1
    refine next_of ?_
    dsimp only
    refine ⟨_, rfl, .int (n : Nat), 12, rfl, .int _ (slog (by have := ok.hi; omega)), _, rfl, ?_⟩
    have eg : goodI 12 (.int (n : Nat)) = true := by
      show (decide ((0 : Int) ≤ ((n : Nat) : Int)) && decide (((n : Nat) : Int) ≤ 12)) = true
      rw [decide_eq_true (Int.natCast_nonneg n), decide_eq_true (by have := ok.hi; omega)]
      rfl
    rw [eg]
    refine iteF ?_
    refine ⟨_, rfl, rfl, _, rfl, ite2 (fun c => absurd (V.int.inj (of_decide_eq_true c)) (by have := ok.lo; omega)) (fun _ => ?_)⟩
    refine next_of ?_
    dsimp only
    refine ⟨_, rfl, b, db, _, rfl, s01 _ _ hbi, rfl, _, rfl, b, rs, qs, p, rfl, hb.same s01, ok.mem, (ok.kind p ok.mem).name, fun a ha => ?_⟩
    refine ⟨a, p, rfl, ha, _, rfl, ?_⟩
    rw [decide_eq_true ok.ptk, decide_eq_true ok.pmk]
    refine iteF ?_
    refine next_of ?_
    dsimp only
    have hx1 := s1 _ _ hx
    refine ⟨_, rfl, _, rfl, x, CE, dx, _, rfl, hx1, T.cl, T.nb, by show 0 < 1000; decide, ?_⟩
    refine next_of ?_
    dsimp only
    have s2 := s01.mut (o := .ins CE dx [("_book", .ref b)]) nx
    refine ⟨_, rfl, l, wordV ds, rfl, .inr ⟨(hl.same s2).at.st, _, rfl, x, CE, dx, _, rfl, upd_same, T.cl, T.nd, by show 1 < 1000; decide, ?_⟩⟩
    refine next_of ?_
    dsimp only
    refine ⟨_, rfl, _, rfl, x, CE, dx, _, rfl, upd_same, T.cl, T.nt, by show 2 < 1000; decide, ?_⟩
    refine next_of ?_
    dsimp only
    refine ⟨_, rfl, _, rfl, x, CE, dx, _, rfl, upd_same, T.cl, T.np, by show 3 < 1000; decide, ?_⟩
    refine next_of ?_
    dsimp only
    generalize hG : upd (upd (upd (upd H1 x _) x _) x _) x _ = G
    have hxG : G x = some (.ins CE dx [("_book", .ref b), ("_deed", .ref l), ("_times", .int (n : Nat)), ("_plain", .str p.name)]) := hG ▸ upd_same
    have sG : Same H0 G := hG ▸ (((s01.mut nx).mut nx).mut nx).mut nx
    refine ⟨_, rfl, _, rfl, b, db, _, rfl, sG _ _ hbi, rfl, _, rfl, b, l, rs, qs, ds, rfl, hb.same sG, (hl.same sG).at, ok.word, fun H5 s5 => ?_⟩
    refine ⟨_, _, rfl, rfl, small_mul (Nat.le_trans ok.hi (by decide)) _, (by show 2 ≤ sizeLine; decide), fun c nc => ?_⟩
    rw [tk_is ok.dk]
    dsimp only
    rw [← Int.natCast_mul]
    have s6 := (sG.trans s5).trans (Same.new (o := .tup [.int ((n * tk ds : Nat) : Int), .int 1]) nc)
    have hx6 : (upd H5 c (.tup [.int ((n * tk ds : Nat) : Int), .int 1])) x = some (.ins CE dx [("_book", .ref b), ("_deed", .ref l), ("_times", .int (n : Nat)), ("_plain", .str p.name)]) := Same.new nc _ _ (s5 _ _ hxG)
    refine ⟨_, rfl, x, CE, dx, _, rfl, hx6, T.cl, T.sec.nc, by show 4 < 1000; decide, ?_⟩
    have cx : c ≠ x := fun e => by
      subst e
      rw [s5 _ _ hxG] at nc
      cases nc
    have s7 := s6.mut (o := .ins CE dx [("_book", .ref b), ("_deed", .ref l), ("_times", .int (n : Nat)), ("_plain", .str p.name), ("_counts", .ref c)]) nx
    generalize hG7 : upd (upd H5 c _) x _ = G7
    have e7 : G7 = upd (upd H5 c (.tup [.int ((n * tk ds : Nat) : Int), .int 1])) x (.ins CE dx [("_book", .ref b), ("_deed", .ref l), ("_times", .int (n : Nat)), ("_plain", .str p.name), ("_counts", .ref c)]) := hG7.symm
    have hx7 : G7 x = some (.ins CE dx [("_book", .ref b), ("_deed", .ref l), ("_times", .int (n : Nat)), ("_plain", .str p.name), ("_counts", .ref c)]) := e7 ▸ upd_same
    have hc7 : G7 c = some (.tup [.int ((n * tk ds : Nat) : Int), .int 1]) := by
      rw [e7, upd_ne cx]
      exact upd_same
    rw [← e7] at s7
    refine ⟨_, rfl, _, rfl, b, db, _, rfl, s7 _ _ hbi, rfl, _, rfl, b, l, rs, qs, ds, rfl, hb.same s7, (hl.same s7).at, ok.word, fun H8 s8 => ?_⟩
    refine ⟨_, _, rfl, rfl, small_mul (Nat.le_trans ok.hi (by decide)) _, (by show 2 ≤ sizeLine; decide), fun m nm => ?_⟩
    rw [mk_is ok.dk]
    dsimp only
    rw [← Int.natCast_mul]
    have s9 := Same.new (o := .tup [.int ((n * mk ds : Nat) : Int), .int 1]) nm
    have mx : m ≠ x := fun e => by
      subst e
      rw [s8 _ _ hx7] at nm
      cases nm
    refine ⟨_, rfl, x, CE, dx, _, rfl, s9 _ _ (s8 _ _ hx7), T.cl, T.sec.nm, by show 5 < 1000; decide, ?_⟩
    have sF := ((s7.trans s8).trans s9).mut (o := .ins CE dx (evenF b l c m n p)) nx
    exact k _ sF ⟨dx, l, c, m, upd_same, hb.same sF, hl.same sF, .inl ((upd_ne cx).trans (s9 _ _ (s8 _ _ hc7))), .inl ((upd_ne mx).trans upd_same), ok⟩
/-- Evenly(b, d, n, p) -/
structure EvenI (K : PySem.W.Frag) (mg : Str → Option Value) (CE : Addr) : Prop where
  i : InitN K mg "Evenly" CE "Evenly.__init__" s_Evenly___init__
theorem hEven4 (B : Blts mg) (U : BookT K mg CB) (T : EvenT K mg CE) (I : InitN K mg "Evenly" CE "Evenly.__init__" s_Evenly___init__) (h_check_book : Has P w K mg base "_check_book" 1 ["book"] (spCheckB CB C)) (h_check_word : Has P w K mg base "_check_word" 3 ["book", "word", "least"] (spCheckW CB C)) (his_count_to : Has P w K mg base "is_count_to" 3 ["value", "most"] spCountTo) (h_is_plain : Has P w K mg base "_is_plain" 3 ["kind"] (spPlain C))
    (m_kind : HasMK P w K mg base CB "kind" 2 "self" "name" (spKindNamed CB C)) (m_taken : HasMK P w K mg base CB "taken" 3 "self" "word" (spSum CB C Row.takes)) (m_made : HasMK P w K mg base CB "made" 4 "self" "word" (spSum CB C Row.makes)) :
    HasK P w K mg base "Evenly" CE 5 ["self", "book", "deed", "times", "plain"] (spEInit CE CB C) [] := by
  obtain ⟨f, fd, hm, M, F⟩ := I.ex
  exact ⟨f, fd, [], hm, M, F.binds (fun _ _ _ _ _ _ us hl => match us, hl with | [_, _, _, _, _], _ => rfl), .nil, ok_even B U T h_check_book h_check_word his_count_to h_is_plain m_kind m_taken m_made F⟩
abbrev s_Evenly_counts : Stmt := inClass (top 63) 8
theorem sc_Evenly_counts : FnScope ["self"] ["self"] (defScope s_Evenly_counts) := ⟨rfl, rfl, rfl, by decide +kernel, rfl, by decide +kernel, by decide +kernel⟩
theorem m_counts (S : SecC K CE) (F : MethAt K CE "counts" "Evenly.counts" s_Evenly_counts) : HasM P w K mg base CE "counts" 1 ["self"] (spCounts CE) := by
  refine hasM_of F sc_Evenly_counts (fun _ _ _ _ _ _ us hl => match us, hl with | [_], _ => rfl) (fun vs H Q E h => ?_) (fun f cdv A outer s H vs Q E hr h => ?_)
  · obtain ⟨_, _, _, _, _, rfl, _⟩ := h
    rfl
  · obtain ⟨x, a, b, g, u, rfl, hx, k⟩ := h
    obtain ⟨dx, fs, c, m, h1, h2, h3, h4, h5, h6, h7⟩ := id hx
    refine ⟨_, (pss_one (ps_ret (pe_fld (pv 0) rfl))), ?_⟩
    exact ⟨_, rfl, x, CE, dx, _, _, rfl, h1, S.own.cl, S.nc, h2, k c h4⟩
abbrev s_Evenly_made_counts : Stmt := inClass (top 63) 9
theorem sc_Evenly_made_counts : FnScope ["self"] ["self"] (defScope s_Evenly_made_counts) := ⟨rfl, rfl, rfl, by decide +kernel, rfl, by decide +kernel, by decide +kernel⟩
theorem m_made_counts (S : SecC K CE) (F : MethAt K CE "made_counts" "Evenly.made_counts" s_Evenly_made_counts) : HasM P w K mg base CE "made_counts" 1 ["self"] (spMadeC CE) := by
  refine hasM_of F sc_Evenly_made_counts (fun _ _ _ _ _ _ us hl => match us, hl with | [_], _ => rfl) (fun vs H Q E h => ?_) (fun f cdv A outer s H vs Q E hr h => ?_)
  · obtain ⟨_, _, _, _, _, rfl, _⟩ := h
    rfl
  · obtain ⟨x, a, b, g, u, rfl, hx, k⟩ := h
    obtain ⟨dx, fs, c, m, h1, h2, h3, h4, h5, h6, h7⟩ := id hx
    refine ⟨_, (pss_one (ps_ret (pe_fld (pv 0) rfl))), ?_⟩
    exact ⟨_, rfl, x, CE, dx, _, _, rfl, h1, S.own.cl, S.nm, h3, k m h5⟩
def spFits (CE : Addr) : Sp := fun vs H Q _ => ∃ (x : Addr) (a b g u : Nat) (v : V), vs = [.ref x, v] ∧ ProgAt CE H x a b g u ∧ Odd H v ∧ b < 1000000 ∧ Q (.bl (placeR a b v).isSome) H
abbrev s_Evenly_fits : Stmt := inClass (top 63) 5
theorem sc_Evenly_fits : FnScope ["self", "loops"] ["self", "loops"] (defScope s_Evenly_fits) := ⟨rfl, rfl, rfl, by decide +kernel, rfl, by decide +kernel, by decide +kernel⟩
theorem m_fits (S : SecC K CE) (F : MethAt K CE "fits" "Evenly.fits" s_Evenly_fits) (hplace_in : Has P w K mg base "place_in" 3 ["progression", "value"] spPlace) (m_counts : HasM P w K mg base CE "counts" 1 ["self"] (spCounts CE)) : HasM P w K mg base CE "fits" 4 ["self", "loops"] (spFits CE) := by
  refine hasM_of F sc_Evenly_fits (fun _ _ _ _ _ _ us hl => match us, hl with | [_, _], _ => rfl) (fun vs H Q E h => ?_) (fun f cdv A outer s H vs Q E hr h => ?_)
  · obtain ⟨_, _, _, _, _, _, rfl, _⟩ := h
    rfl
  · obtain ⟨x, a, b, g, u, v, rfl, hx, hv, hb, k⟩ := h
    obtain ⟨dx, fs, c, m, h1, h2, h3, h4, h5, h6, h7⟩ := id hx
    refine ⟨_, (pss_one (ps_ret (pe_cmpR op_notN (pe_has hplace_in (hr.mono (by decide)) (pa_cons (pe_hasM0 m_counts S.own.cl (hr.mono (by decide)) (pv 0)) (pa_cons (pv 1) pa_nil))) pe_non (by first | exact nomark _ | rfl)))), ?_⟩
    refine ⟨_, rfl, x, dx, fs, rfl, h1, h6, x, a, b, g, u, rfl, hx, fun c hc => ⟨_, rfl, c, a, b, v, rfl, hc, hv, hb, rfl, ?_⟩⟩
    cases hp : placeR a b v with
    | none =>
      rw [hp] at k
      exact k
    | some n =>
      rw [hp] at k
      exact k
abbrev s_Evenly_made : Stmt := inClass (top 63) 7
theorem sc_Evenly_made : FnScope ["self", "loops"] ["self", "loops"] (defScope s_Evenly_made) := ⟨rfl, rfl, rfl, by decide +kernel, rfl, by decide +kernel, by decide +kernel⟩
theorem m_tmade (S : SecC K CE) (F : MethAt K CE "made" "Evenly.made" s_Evenly_made) (h_made_of : HasX P w K mg base "_made_of" 5 ["text", "loops"] (spMadeOf CE CF)) : HasMX P w K mg base CE "made" 6 ["self", "loops"] (spMadeOf CE CF) := by
  refine hasMX_of F sc_Evenly_made (fun _ _ _ _ _ _ us hl => match us, hl with | [_, _], _ => rfl) (fun vs H Q E h => ?_) (fun f cdv A outer s H vs Q E hr h => ?_)
  · obtain ⟨_, _, _, _, _, _, rfl, _⟩ := h
    rfl
  · obtain ⟨x, a, b, g, u, v, rfl, h⟩ := h
    refine ⟨_, (pss_one (ps_ret (pe_hasX h_made_of (hr.mono (by decide)) (passes_call (takes_of rfl rfl rfl rfl) (fun _ _ _ _ h => h)) (pa_cons (pv 0) (pa_cons (pv 1) pa_nil))))), ?_⟩
    exact ⟨_, rfl, _, rfl, x, a, b, g, u, v, rfl, h⟩
abbrev s_Evenly_slope : Stmt := inClass (top 63) 10
theorem sc_Evenly_slope : FnScope ["self"] ["self"] (defScope s_Evenly_slope) := ⟨rfl, rfl, rfl, by decide +kernel, rfl, by decide +kernel, by decide +kernel⟩
theorem m_slope (F : MethAt K CE "slope" "Evenly.slope" s_Evenly_slope) (h_slope_of : Has P w K mg base "_slope_of" 2 ["text"] (spSlopeOf CE)) : HasM P w K mg base CE "slope" 3 ["self"] (spSlopeOf CE) := by
  refine hasM_of F sc_Evenly_slope (fun _ _ _ _ _ _ us hl => match us, hl with | [_], _ => rfl) (fun vs H Q E h => ?_) (fun f cdv A outer s H vs Q E hr h => ?_)
  · obtain ⟨_, _, _, _, _, rfl, _⟩ := h
    rfl
  · obtain ⟨x, a, b, g, u, rfl, h⟩ := h
    refine ⟨_, (pss_one (ps_ret (pe_has h_slope_of (hr.mono (by decide)) (pa_cons (pv 0) pa_nil)))), ?_⟩
    exact ⟨_, rfl, x, a, b, g, u, rfl, h⟩
end
end N

set_option maxHeartbeats 4000000
namespace N
open PySem L2
theorem gname_of {i : Nat} {v : V} {σ : L2.St} {H : Hp} {N : L2.St → Hp → Prop} (h : N (σ.set i (some v)) H) : gName i v σ H N := h
/-! ### the word of a text that is worked evenly -/
def evE (n m k : Nat) : Nat := k * m / (n + 1)
def evB (ds : List Row) (n : Nat) (p : Row) (m i : Nat) : List Run := [(ds, 1), ([p], evE n m (i + 2) - evE n m (i + 1))]
def evR (ds : List Row) (n : Nat) (p : Row) (m j : Nat) : List Run := ([p], evE n m 1) :: (List.range j).flatMap (evB ds n p m)
theorem evR_succ (ds : List Row) (n : Nat) (p : Row) (m j : Nat) : evR ds n p m (j + 1) = evR ds n p m j ++ evB ds n p m j := by
  unfold evR
  rw [List.range_succ, List.flatMap_append]
  simp
theorem evR_len (ds : List Row) (n : Nat) (p : Row) (m : Nat) : ∀ j, (evR ds n p m j).length = 2 * j + 1
  | 0 => rfl
  | j + 1 => by
    rw [evR_succ, List.length_append, evR_len ds n p m j]
    simp [evB]
    omega
theorem evE_le {n m k : Nat} (h : k ≤ n + 1) : evE n m k ≤ m := by
  unfold evE
  exact Nat.div_le_of_le_mul (Nat.mul_le_mul_right m h)
theorem evE_mono {n m k : Nat} : evE n m k ≤ evE n m (k + 1) := Nat.div_le_div_right (Nat.mul_le_mul_right m (Nat.le_succ k))
theorem evR_mem {ds : List Row} {n : Nat} {p : Row} {m j : Nat} {r : Run} (hj : j ≤ n) (h : r ∈ evR ds n p m j) : (r.1 = ds ∨ r.1 = [p]) ∧ r.2 ≤ m + 1 := by
  unfold evR at h
  rcases List.mem_cons.mp h with e | h
  · subst e
    exact ⟨.inr rfl, Nat.le_succ_of_le (evE_le (by omega))⟩
  · obtain ⟨i, hi, hr⟩ := List.mem_flatMap.mp h
    have hi' := List.mem_range.mp hi
    unfold evB at hr
    rcases List.mem_cons.mp hr with e | hr
    · subst e
      exact ⟨.inl rfl, by show 1 ≤ m + 1; omega⟩
    · rcases List.mem_cons.mp hr with e | hr
      · subst e
        refine ⟨.inr rfl, ?_⟩
        have := evE_le (n := n) (m := m) (k := i + 2) (by omega)
        show evE n m (i + 2) - evE n m (i + 1) ≤ m + 1
        omega
      · cases hr
theorem log_le {a b : Nat} (h : a ≤ b) (hb : b.log2 < 1920) : a.log2 < 1920 := by
  by_cases z : a = 0
  · subst z
    decide
  · have zb : b ≠ 0 := by omega
    exact (Nat.log2_lt z).mpr (Nat.lt_of_le_of_lt h ((Nat.log2_lt zb).mp hb))
theorem log_int {a : Nat} (h : a.log2 < 1920) : ((a : Nat) : Int).natAbs.log2 < 1920 := by rwa [Int.natAbs_natCast]
theorem log_succ {m : Nat} (h : m.log2 < 1900) : (m + 1).log2 < 1920 := by
  by_cases z : m = 0
  · subst z
    decide
  · have h1 := (Nat.log2_lt z).mp h
    refine (Nat.log2_lt (by omega)).mpr (Nat.lt_of_le_of_lt (show m + 1 ≤ 2 ^ 1900 by omega) ?_)
    exact Nat.pow_lt_pow_right (by decide) (by decide)
theorem ends_at {n m k N : Nat} (h : k < N) : ((List.range N).map fun i => V.int ((evE n m i : Nat) : Int))[k]? = some (.int ((evE n m k : Nat) : Int)) := by
  rw [List.getElem?_map, List.getElem?_range h]
  rfl
theorem evE_int (n m i : Nat) : (0 + (i : Int)) * (m : Int) / ((n : Int) + 1) = ((evE n m i : Nat) : Int) := by
  unfold evE
  rw [Int.zero_add, Int.natCast_ediv, Int.natCast_mul]
  rfl
theorem KindOk.strOk {r : Row} (h : KindOk r) : PyData.strOk r.name = true := h.name.sign
theorem EvenOk.parts {rs ds : List Row} {n : Nat} {p : Row} {m : Nat} (ok : EvenOk rs ds n p) (lm : m.log2 < 1900) : PartsOk rs (evR ds n p m n) := by
  refine ⟨by rw [evR_len]; have := ok.hi; omega, fun r hr => ?_⟩
  obtain ⟨e, hb⟩ := evR_mem (Nat.le_refl n) hr
  have lg := log_int (log_le hb (log_succ lm))
  rcases e with e | e
  · rw [e]
    exact ⟨⟨by rw [e]; exact ok.word.1, by rw [e]; exact fun u hu => (ok.dk u hu).strOk⟩, ok.word, lg⟩
  · rw [e]
    exact ⟨⟨by rw [e]; show 1 ≤ 240; decide, by
      rw [e]
      intro u hu
      obtain rfl := List.mem_singleton.mp hu
      exact (ok.kind _ ok.mem).strOk⟩, ⟨by show 1 ≤ 240; decide, fun u hu => by
      obtain rfl := List.mem_singleton.mp hu
      exact ok.mem⟩, lg⟩
def spTWord (K : PySem.W.Frag) (CE CL CB C CF : Addr) : Sp := fun vs H Q E => ∃ (x b : Addr) (rs qs ds : List Row) (n : Nat) (p : Row) (v : V), vs = [.ref x, v] ∧ EvenAt CE CB C H x b rs qs ds n p ∧ Odd H v ∧
  (∀ m, placeR (n * tk ds) 1 v = some m → m.log2 < 1900 ∧ ∀ a H', H a = none → Same H H' → LongAt true K CL CB C H' a b rs qs (tidyR (evR ds n p m n)) → Q (.ref a) H') ∧
  (placeR (n * tk ds) 1 v = none → ∀ d H', Same H H' → H' d = some (.xd [("loops", v), ("section", .int 0)]) → E (.ref CF) (some d) H')
section
variable {P : Program} {w : World} {K : PySem.W.Frag} {mg : Str → Option Value} {base : Heap} {C CB CE CF CL : Addr} {Cs : Nat → Addr}
abbrev s_Evenly_word : Stmt := inClass (top 63) 6
theorem sc_Evenly_word : FnScope ["self", "loops", "many", "ends", "place", "plain", "parts"] ["self", "loops"] (defScope s_Evenly_word) := ⟨rfl, rfl, rfl, by decide +kernel, rfl, by decide +kernel, by decide +kernel⟩
theorem m_tword (B : Blts mg) (T : EvenT K mg CE) (F : MethAt K CE "word" "Evenly.word" s_Evenly_word) (h_place_of : HasX P w K mg base "_place_of" 4 ["text", "loops"] (spPlaceOf CE CF)) (hLong2 : HasK P w K mg base "LongWord" CL 4 ["self", "book", "parts"] (spLInit true K CL CB C) []) : HasMX P w K mg base CE "word" 6 ["self", "loops"] (spTWord K CE CL CB C CF) := by
  refine hasMX_of F sc_Evenly_word (fun _ _ _ _ _ _ us hl => match us, hl with | [_, _], _ => rfl) (fun vs H Q E h => ?_) (fun f cdv A outer s H vs Q E hr h => ?_)
  · obtain ⟨_, _, _, _, _, _, _, _, rfl, _⟩ := h
    rfl
  · obtain ⟨x, b, rs, qs, ds, n, p, v, rfl, hx, hv, k1, k2⟩ := h
    obtain ⟨dx, l, c, m', h1, hb, hl, hc, hm, ok⟩ := id hx
    refine ⟨_, (pss_cons (ps_set (i := 2) sc_Evenly_word.nd rfl (Or.inr rfl) (pe_hasX h_place_of (hr.mono (by decide)) (passes_call (takes_of rfl rfl rfl rfl) (fun _ _ _ _ h => h)) (pa_cons (pv 0) (pa_cons (pv 1) pa_nil))))
      (pss_cons (ps_setLc (i := 3) (own := [("place", 4)]) rfl sc_Evenly_word.nd rfl rfl (sw_true rfl rfl rfl (by decide +kernel)) (pi_range1 (by rfl) B.n_range (pa_cons (pe_op op_add (pe_fld (pv 0) rfl) pe_int) pa_nil)) (blkOk_by (own := [("place", 4)]) (N := ["self", "loops", "many", "ends", "place", "plain", "parts"]) (sc := defScope s_Evenly_word) (by decide +kernel)) (fun _ _ _ _ _ => by exact (pg_name (i := 4) sc_Evenly_word.nd rfl (Or.inl rfl))) (fun _ _ _ _ _ => by exact pts_nil) (fun _ _ _ _ _ => by exact (pe_op op_fdiv (pe_op op_mul (pv 4) (pv 2)) (pe_op op_add (pe_fldK K (pv 0) rfl) pe_int))))
      (pss_cons (ps_set (i := 5) sc_Evenly_word.nd rfl (Or.inl rfl) (pe_tupF (pa_cons (pe_fld (pv 0) rfl) pa_nil)))
      (pss_cons (ps_set (i := 6) sc_Evenly_word.nd rfl (Or.inl rfl) (pe_lst (pa_cons (pe_tup (pa_cons (pv 5) (pa_cons (pe_ix ix_list (pv 3) pe_int (fun _ _ => rfl)) pa_nil))) pa_nil)))
      (pss_cons (ps_for (passes_of rfl) rfl (pi_range2 (by rfl) B.n_range (pa_cons pe_int (pa_cons (pe_op op_add (pe_fld (pv 0) rfl) pe_int) pa_nil))) (pg_name (i := 4) sc_Evenly_word.nd rfl (Or.inl rfl))
        (pss_one (ps_expr (pe_bm PySem.F.plainAttrs_list PySem.F.slot_list_extend PySem.F.type_list_extend mt_extend (pv 6) (pa_cons (pe_lst (pa_cons (pe_tup (pa_cons (pe_fld (pv 0) rfl) (pa_cons pe_int pa_nil))) (pa_cons (pe_tup (pa_cons (pv 5) (pa_cons (pe_op op_sub (pe_ix ix_list (pv 3) (pe_op op_add (pv 4) pe_int) (fun _ _ => rfl)) (pe_ix ix_list (pv 3) (pv 4) (fun _ _ => rfl))) pa_nil))) pa_nil))) pa_nil)))))
      (pss_one (ps_ret (pe_hasK hLong2 (hr.mono (by decide)) (pa_cons (pe_fld (pv 0) rfl) (pa_cons (pv 6) pa_nil)))))))))), ?_⟩
    refine ⟨_, rfl, _, rfl, x, _, _, _, _, v, rfl, hx.prog, hv, by decide, fun m hm' => ?_, k2⟩
    obtain ⟨lm, kq⟩ := k1 m hm'
    refine next_of ?_
    dsimp only
    have hn := ok.hi
    refine ⟨_, rfl, x, CE, dx, _, _, rfl, h1, T.cl, T.nt, rfl, _, _, rfl, rfl, _, rfl, by omega, by omega, fun D nD => ?_⟩
    refine lc_map (walk_range (lo := 0) (n := ((n : Int) + 2).toNat)) (fun i => .int ((evE n m i : Nat) : Int)) nD (by omega) (fun _ _ => trivial) ?_ ?_
    · rintro i y H3 H4 hi s3 ⟨rfl, rfl⟩ R hR'
      refine ⟨rfl, _, rfl, _, rfl, _, _, rfl, rfl, ?_, _, rfl, x, CE, dx, _, _, rfl, s3 _ _ h1, T.cl, T.nt, rfl, _, _, rfl, rfl, _, _, rfl, rfl, ⟨by omega, by omega⟩, ?_⟩
      · rw [Int.zero_add]
        exact small_mul (by omega) _
      · have q := hR' _ (Same.refl _)
        have e := evE_int n m i
        show R (.int ((0 + (i : Int)) * (m : Int) / ((n : Int) + 1))) _
        rw [e]
        exact q
    · intro H5 s5 hD
      refine next_of ?_
      dsimp only
      have eN : ((n : Int) + 2).toNat = n + 2 := by omega
      rw [eN] at hD
      refine ⟨_, rfl, x, CE, dx, _, _, rfl, s5 _ _ h1, T.cl, T.np, rfl, (by show 1 ≤ sizeLine; decide), fun t o ot od nt => ?_⟩
      have s6 := Same.new (o := .frz o (.tup [V.str p.name])) nt
      have hD6 := s6 _ _ hD
      have ht6 : FrzT (upd H5 t (.frz o (.tup [V.str p.name]))) t (wordV [p]) := ⟨o, ot, od, upd_same⟩
      generalize upd H5 t (.frz o (.tup [V.str p.name])) = H6 at *
      have s06 := s5.trans s6
      refine next_of ?_
      dsimp only
      refine ⟨_, rfl, _, rfl, D, _, 1, _, rfl, rfl, SqL.of hD6, atI_nat (ends_at (k := 1) (by omega)), (by show 2 ≤ sizeLine; decide), fun u nu => ⟨(by show 1 ≤ sizeLine; decide), fun q nq => ?_⟩⟩
      have s7 := Same.new (o := .tup [V.ref t, V.int ((evE n m 1 : Nat) : Int)]) nu
      have rv0 : RunV true (upd H6 u (.tup [V.ref t, V.int ((evE n m 1 : Nat) : Int)])) (.ref u) ([p], evE n m 1) := ⟨u, t, rfl, .inl upd_same, ht6.same s7⟩
      generalize upd H6 u (.tup [V.ref t, V.int ((evE n m 1 : Nat) : Int)]) = H7 at *
      have s07 := s06.trans s7
      refine next_of ?_
      dsimp only
      have hq0 := Same.new (o := .lst [V.ref u]) nq
      refine ⟨_, rfl, x, CE, dx, _, _, rfl, hq0 _ _ (s07 _ _ h1), T.cl, T.nt, rfl, _, _, rfl, rfl, _, _, rfl, ⟨by decide, by decide, by omega, by omega⟩, for_range (n := ((n : Int) + 1 - 1).toNat) (fun i σ H' => ∃ v4 : Option V, σ = [some (.ref x), some v, some (.int (m : Nat)), some (.ref D), v4, some (.ref t), some (.ref q)] ∧ Same H7 H' ∧ ∃ vs, H' q = some (.lst vs) ∧ Paired (RunV true H') vs (evR ds n p m i)) ⟨none, rfl, hq0, _, upd_same, .cons (rv0.same hq0) .nil⟩ (fun i σ H' hi h => ?_) (fun σ H' h => ?_)⟩
      · obtain ⟨v4, rfl, e7, vs, hvs, hP⟩ := h
        have hi' : i < n := by omega
        have hxx := e7 _ _ (s07 _ _ h1)
        have hDD := e7 _ _ (s7 _ _ hD6)
        have lenv := paired_len hP
        rw [evR_len] at lenv
        refine gname_of ?_
        dsimp only
        refine ⟨_, rfl, .inl ⟨rfl, _, SqL.of hvs⟩, ?_⟩
        refine ⟨_, rfl, x, CE, dx, _, _, rfl, hxx, T.cl, T.nd, rfl, (by show 2 ≤ sizeLine; decide), fun t1 nt1 => ?_⟩
        have s8 := Same.new (o := .tup [V.ref l, V.int 1]) nt1
        refine ⟨_, rfl, _, rfl, _, rfl, _, _, rfl, rfl, D, _, _, _, rfl, rfl, SqL.of (s8 _ _ hDD), (by
          rw [show (1 + (i : Int) + 1) = ((i + 2 : Nat) : Int) by omega]
          exact atI_nat (ends_at (k := i + 2) (by omega))), _, rfl, _, rfl, D, _, _, _, rfl, rfl, SqL.of (s8 _ _ hDD), (by
          rw [show (1 + (i : Int)) = ((i + 1 : Nat) : Int) by omega]
          exact atI_nat (ends_at (k := i + 1) (by omega))), _, _, rfl, rfl, (by show 2 ≤ sizeLine; decide), fun t2 nt2 => ⟨(by show 2 ≤ sizeLine; decide), fun q2 nq2 => ?_⟩⟩
        have ed : ((evE n m (i + 2) : Nat) : Int) - ((evE n m (i + 1) : Nat) : Int) = ((evE n m (i + 2) - evE n m (i + 1) : Nat) : Int) := (Int.ofNat_sub evE_mono).symm
        have s9 := Same.new (o := .tup [V.ref t, V.int (((evE n m (i + 2) : Nat) : Int) - ((evE n m (i + 1) : Nat) : Int))]) nt2
        have s10 := Same.new (o := .lst [V.ref t1, V.ref t2]) nq2
        have s810 := (s8.trans s9).trans s10
        have hqq := s810 _ _ hvs
        refine ⟨q, q2, _, _, rfl, rfl, hqq, upd_same, ?_, ?_⟩
        · have h2 : vs.length + 2 ≤ sizeLine := by
            rw [sizeLine_eq]
            omega
          exact h2
        · refine next_of ?_
          dsimp only
          have kf : KeepF H' (upd (upd (upd (upd H' t1 (.tup [V.ref l, V.int 1])) t2 (.tup [V.ref t, V.int (((evE n m (i + 2) : Nat) : Int) - ((evE n m (i + 1) : Nat) : Int))])) q2 (.lst [V.ref t1, V.ref t2])) q (.lst (vs ++ [V.ref t1, V.ref t2]))) := (KeepF.same s810).trans (KeepF.mut hqq)
          have t1q : t1 ≠ q := fun e => by
            subst e
            rw [hvs] at nt1
            cases nt1
          have t2q : t2 ≠ q := fun e => by
            subst e
            rw [s8 _ _ hvs] at nt2
            cases nt2
          refine ⟨_, rfl, (e7.trans s810).mut nq, _, upd_same, ?_⟩
          rw [evR_succ]
          refine paired_app (L2.Paired.mapP hP fun _ _ h => h.keep kf) (.cons ⟨t1, l, rfl, .inl ((upd_ne t1q).trans (s10 _ _ (s9 _ _ upd_same))), ((hl.same (s07.trans e7)).keep kf)⟩ (.cons ⟨t2, t, rfl, .inl ((upd_ne t2q).trans (s10 _ _ (by rw [← ed]; exact upd_same))), (ht6.same (s7.trans e7)).keep kf⟩ .nil))
      · obtain ⟨v4, rfl, e7, vs, hvs, hP⟩ := h
        have eN2 : ((n : Int) + 1 - 1).toNat = n := by omega
        rw [eN2] at hP
        have s0 := s07.trans e7
        refine ⟨_, rfl, x, CE, dx, _, _, rfl, s0 _ _ h1, T.cl, T.nb, rfl, _, rfl, fun a da ha hda ne => ?_⟩
        have sm := made_odd (C := CL) ha hda ne
        refine ⟨a, da, b, q, vs, rs, qs, evR ds n p m n, rfl, upd_same, hb.same (s0.trans sm), .inl (sm _ _ hvs), L2.Paired.mapP hP fun _ _ h => h.same sm, ok.parts lm, fun tt ys H9 e9 h9 hR => ⟨rfl, ?_⟩⟩
        have s9 := made_same ha hda e9
        exact kq a H9 (s0.free ha) (s0.trans s9) ⟨da, tt, ys, h9, hb.same (s0.trans s9), hR, (ok.parts lm).runs⟩
end
end N

set_option maxHeartbeats 4000000
namespace N
open PySem L2
def u0 : Row := ⟨"k", 1, 1, some "p", some "k", 1⟩
def u1 : Row := ⟨"p", 1, 1, some "k", some "p", 1⟩
def u2 : Row := ⟨"yo", 0, 1, some "yo", some "yo", 1⟩
def u3 : Row := ⟨"ktog", 2, 1, some "ptog", some "ssk", 1⟩
def u7 : Row := ⟨"cdd", 3, 1, none, some "cdd", 1⟩
def u8 : Row := ⟨"kfb", 1, 2, none, some "kfb", 1⟩
def u9 : Row := ⟨"bo", 1, 0, some "bo", some "bo", 1⟩
def deedR : List (List Row) := [[u3], [u2], [u8, u0], [u0, u2, u9], [u7], [u1], [u0, u0]]
theorem deed_ok : ∀ ds ∈ deedR, ds ≠ [] ∧ ds.length ≤ 3 ∧ ∀ u ∈ ds, u ∈ usualK := by decide +kernel
theorem plain_ok : ∀ p ∈ [u0, u1], p ∈ usualK ∧ p.takes = 1 ∧ p.makes = 1 := by decide +kernel
def FrzD (H : Hp) (v : V) : Prop := ∃ t ds, v = .ref t ∧ ds ∈ deedR ∧ FrzT H t (wordV ds)
def spDrawn : Sp := fun vs H Q _ => ∃ p : Addr, vs = [.ref p] ∧ Pot H p ∧ ∀ (tt t : Addr) (ds : List Row) (n : Nat) (pr : Row) H', ds ∈ deedR → 1 ≤ n → n ≤ 12 → pr ∈ [u0, u1] → H tt = none → H' tt = some (.tup [.ref t, .int (n : Nat), .str pr.name]) → FrzT H' t (wordV ds) → Pot H' p → But p H H' → Q (.ref tt) H'
def runsL (n m : Nat) : List Nat := (List.range (n + 1)).map fun i => evE n m (i + 1) - evE n m i
def spRuns : Sp := fun vs H Q _ => ∃ n m : Nat, vs = [.int (n : Nat), .int (m : Nat)] ∧ n ≤ 12 ∧ ∀ q H', H q = none → H' q = some (.lst ((runsL n m).map fun i => .int ((i : Nat) : Int))) → Same H H' → Q (.ref q) H'
section
variable {P : Program} {w : World} {K : PySem.W.Frag} {mg : Str → Option Value} {base : Heap} {C CB CE CF CL : Addr} {Cs : Nat → Addr}
abbrev s__law_drawn : Stmt := top 75
theorem sc__law_drawn : FnScope ["_law_pot_here", "_law_deed"] ["_law_pot_here"] (defScope s__law_drawn) := ⟨rfl, rfl, rfl, by decide +kernel, rfl, by decide +kernel, by decide +kernel⟩
theorem h_law_drawn (F : FunAt K mg "_law_drawn" "_law_drawn" s__law_drawn) (h_law_pick : Has P w K mg base "_law_pick" 2 ["_law_pot_here", "_law_some"] (spPick K)) : Has P w K mg base "_law_drawn" 3 ["_law_pot_here"] spDrawn := by
  refine has_of F sc__law_drawn (fun _ _ _ _ _ _ us hl => match us, hl with | [_], _ => rfl) (fun vs H Q E h => ?_) (fun f cdv A outer s H vs Q E hr h => ?_)
  · obtain ⟨_, rfl, _⟩ := h
    rfl
  · obtain ⟨p, rfl, hp, k⟩ := h
    refine ⟨_, (pss_cons (ps_set (i := 1) sc__law_drawn.nd rfl (Or.inl rfl) (pe_has h_law_pick (hr.mono (by decide)) (pa_cons (pv 0) (pa_cons (pe_lst (pa_cons (pe_tupF (pa_cons pe_str pa_nil)) (pa_cons (pe_tupF (pa_cons pe_str pa_nil)) (pa_cons (pe_tupF (pa_cons pe_str (pa_cons pe_str pa_nil))) (pa_cons (pe_tupF (pa_cons pe_str (pa_cons pe_str (pa_cons pe_str pa_nil)))) (pa_cons (pe_tupF (pa_cons pe_str pa_nil)) (pa_cons (pe_tupF (pa_cons pe_str pa_nil)) (pa_cons (pe_tupF (pa_cons pe_str (pa_cons pe_str pa_nil))) pa_nil)))))))) pa_nil))))
      (pss_one (ps_ret (pe_tup (pa_cons (pv 1) (pa_cons (pe_has h_law_pick (hr.mono (by decide)) (pa_cons (pv 0) (pa_cons (pe_lst (pa_cons pe_int (pa_cons pe_int (pa_cons pe_int (pa_cons pe_int (pa_cons pe_int (pa_cons pe_int (pa_cons pe_int (pa_cons pe_int pa_nil))))))))) pa_nil))) (pa_cons (pe_has h_law_pick (hr.mono (by decide)) (pa_cons (pv 0) (pa_cons (pe_lst (pa_cons pe_str (pa_cons pe_str pa_nil))) pa_nil))) pa_nil))))))), ?_⟩
    have S0 : Same H H := Same.refl _
    refine ⟨_, rfl, (by show 1 ≤ sizeLine; decide), fun t1 o1 a1 b1 n1 => ?_⟩
    have s1 := Same.new (o := .frz o1 (.tup [V.str "ktog"])) n1
    have f1 : FrzT (upd H t1 (.frz o1 (.tup [V.str "ktog"]))) t1 (wordV [u3]) := ⟨o1, a1, b1, upd_same⟩
    generalize upd H t1 (.frz o1 (.tup [V.str "ktog"])) = H1 at *
    have S1 := S0.trans s1
    refine ⟨(by show 1 ≤ sizeLine; decide), fun t2 o2 a2 b2 n2 => ?_⟩
    have s2 := Same.new (o := .frz o2 (.tup [V.str "yo"])) n2
    have f2 : FrzT (upd H1 t2 (.frz o2 (.tup [V.str "yo"]))) t2 (wordV [u2]) := ⟨o2, a2, b2, upd_same⟩
    generalize upd H1 t2 (.frz o2 (.tup [V.str "yo"])) = H2 at *
    have S2 := S1.trans s2
    refine ⟨(by show 2 ≤ sizeLine; decide), fun t3 o3 a3 b3 n3 => ?_⟩
    have s3 := Same.new (o := .frz o3 (.tup [V.str "kfb", V.str "k"])) n3
    have f3 : FrzT (upd H2 t3 (.frz o3 (.tup [V.str "kfb", V.str "k"]))) t3 (wordV [u8, u0]) := ⟨o3, a3, b3, upd_same⟩
    generalize upd H2 t3 (.frz o3 (.tup [V.str "kfb", V.str "k"])) = H3 at *
    have S3 := S2.trans s3
    refine ⟨(by show 3 ≤ sizeLine; decide), fun t4 o4 a4 b4 n4 => ?_⟩
    have s4 := Same.new (o := .frz o4 (.tup [V.str "k", V.str "yo", V.str "bo"])) n4
    have f4 : FrzT (upd H3 t4 (.frz o4 (.tup [V.str "k", V.str "yo", V.str "bo"]))) t4 (wordV [u0, u2, u9]) := ⟨o4, a4, b4, upd_same⟩
    generalize upd H3 t4 (.frz o4 (.tup [V.str "k", V.str "yo", V.str "bo"])) = H4 at *
    have S4 := S3.trans s4
    refine ⟨(by show 1 ≤ sizeLine; decide), fun t5 o5 a5 b5 n5 => ?_⟩
    have s5 := Same.new (o := .frz o5 (.tup [V.str "cdd"])) n5
    have f5 : FrzT (upd H4 t5 (.frz o5 (.tup [V.str "cdd"]))) t5 (wordV [u7]) := ⟨o5, a5, b5, upd_same⟩
    generalize upd H4 t5 (.frz o5 (.tup [V.str "cdd"])) = H5 at *
    have S5 := S4.trans s5
    refine ⟨(by show 1 ≤ sizeLine; decide), fun t6 o6 a6 b6 n6 => ?_⟩
    have s6 := Same.new (o := .frz o6 (.tup [V.str "p"])) n6
    have f6 : FrzT (upd H5 t6 (.frz o6 (.tup [V.str "p"]))) t6 (wordV [u1]) := ⟨o6, a6, b6, upd_same⟩
    generalize upd H5 t6 (.frz o6 (.tup [V.str "p"])) = H6 at *
    have S6 := S5.trans s6
    refine ⟨(by show 2 ≤ sizeLine; decide), fun t7 o7 a7 b7 n7 => ?_⟩
    have s7 := Same.new (o := .frz o7 (.tup [V.str "k", V.str "k"])) n7
    have f7 : FrzT (upd H6 t7 (.frz o7 (.tup [V.str "k", V.str "k"]))) t7 (wordV [u0, u0]) := ⟨o7, a7, b7, upd_same⟩
    generalize upd H6 t7 (.frz o7 (.tup [V.str "k", V.str "k"])) = H7 at *
    have S7 := S6.trans s7
    refine ⟨(by show 7 ≤ sizeLine; decide), fun q nq => ?_⟩
    have sq := Same.new (o := .lst [V.ref t1, V.ref t2, V.ref t3, V.ref t4, V.ref t5, V.ref t6, V.ref t7]) nq
    have all : ∀ v ∈ [V.ref t1, V.ref t2, V.ref t3, V.ref t4, V.ref t5, V.ref t6, V.ref t7], FrzD (upd H7 q (.lst [V.ref t1, V.ref t2, V.ref t3, V.ref t4, V.ref t5, V.ref t6, V.ref t7])) v := by
      intro v hv
      simp only [List.mem_cons, List.mem_nil_iff, or_false] at hv
      rcases hv with rfl | rfl | rfl | rfl | rfl | rfl | rfl
      · exact ⟨t1, [u3], rfl, by decide +kernel, (((((((f1).same s2).same s3).same s4).same s5).same s6).same s7).same sq⟩
      · exact ⟨t2, [u2], rfl, by decide +kernel, ((((((f2).same s3).same s4).same s5).same s6).same s7).same sq⟩
      · exact ⟨t3, [u8, u0], rfl, by decide +kernel, (((((f3).same s4).same s5).same s6).same s7).same sq⟩
      · exact ⟨t4, [u0, u2, u9], rfl, by decide +kernel, ((((f4).same s5).same s6).same s7).same sq⟩
      · exact ⟨t5, [u7], rfl, by decide +kernel, (((f5).same s6).same s7).same sq⟩
      · exact ⟨t6, [u1], rfl, by decide +kernel, ((f6).same s7).same sq⟩
      · exact ⟨t7, [u0, u0], rfl, by decide +kernel, (f7).same sq⟩
    have hp7 := Pot.same hp S7
    refine ⟨p, q, _, rfl, Pot.same hp7 sq, SqL.of upd_same, Pot.ne hp7 nq, by simp, by simp, fun v H9 hv hp9 b9 => ?_⟩
    obtain ⟨t, ds, rfl, hds, fz⟩ := all v hv
    have fz9 : FrzT H9 t (wordV ds) := fz.keep (kf_pot (Pot.same hp7 sq) b9)
    have B9 : But p H H9 := (But.same (S7.trans sq)).trans b9
    generalize upd H7 q _ = H8 at *
    refine next_of ?_
    dsimp only
    refine ⟨_, rfl, _, rfl, (by show 8 ≤ sizeLine; decide), fun q2 nq2 => ?_⟩
    have sq2 := Same.new (o := .lst [V.int 1, V.int 2, V.int 3, V.int 4, V.int 5, V.int 7, V.int 11, V.int 12]) nq2
    refine ⟨p, q2, _, rfl, Pot.same hp9 sq2, SqL.of upd_same, Pot.ne hp9 nq2, by simp, by simp, fun v2 H10 hv2 hp10 b10 => ?_⟩
    have hn : ∃ n : Nat, v2 = .int (n : Nat) ∧ 1 ≤ n ∧ n ≤ 12 := by
      simp only [List.mem_cons, List.mem_nil_iff, or_false] at hv2
      rcases hv2 with rfl | rfl | rfl | rfl | rfl | rfl | rfl | rfl
      · exact ⟨1, rfl, by decide, by decide⟩
      · exact ⟨2, rfl, by decide, by decide⟩
      · exact ⟨3, rfl, by decide, by decide⟩
      · exact ⟨4, rfl, by decide, by decide⟩
      · exact ⟨5, rfl, by decide, by decide⟩
      · exact ⟨7, rfl, by decide, by decide⟩
      · exact ⟨11, rfl, by decide, by decide⟩
      · exact ⟨12, rfl, by decide, by decide⟩
    obtain ⟨n, rfl, n1', n12⟩ := hn
    have fz10 : FrzT H10 t (wordV ds) := (fz9.same sq2).keep (kf_pot (Pot.same hp9 sq2) b10)
    have B10 : But p H H10 := B9.trans ((But.same sq2).trans b10)
    refine ⟨_, rfl, (by show 2 ≤ sizeLine; decide), fun q3 nq3 => ?_⟩
    have sq3 := Same.new (o := .lst [V.str "k", V.str "p"]) nq3
    refine ⟨p, q3, _, rfl, Pot.same hp10 sq3, SqL.of upd_same, Pot.ne hp10 nq3, by simp, by simp, fun v3 H11 hv3 hp11 b11 => ?_⟩
    have hpr : ∃ pr ∈ [u0, u1], v3 = .str pr.name := by
      simp only [List.mem_cons, List.mem_nil_iff, or_false] at hv3
      rcases hv3 with rfl | rfl
      · exact ⟨u0, by simp, rfl⟩
      · exact ⟨u1, by simp, rfl⟩
    obtain ⟨pr, hpr, rfl⟩ := hpr
    have fz11 : FrzT H11 t (wordV ds) := (fz10.same sq3).keep (kf_pot (Pot.same hp10 sq3) b11)
    have B11 : But p H H11 := B10.trans ((But.same sq3).trans b11)
    refine ⟨(by show 3 ≤ sizeLine; decide), fun tt ntt => ?_⟩
    have st := Same.new (o := .tup [V.ref t, V.int (n : Nat), V.str pr.name]) ntt
    refine k tt t ds n pr _ hds n1' n12 hpr ?_ upd_same (fz11.same st) (Pot.same hp11 st) (B11.trans (But.same st))
    cases e : H tt with
    | none => rfl
    | some o =>
      by_cases z : tt = p
      · subst z
        obtain ⟨o', ho⟩ := Pot.at hp11
        rw [ho] at ntt
        cases ntt
      · rw [B11 _ _ e z] at ntt
        cases ntt
abbrev s__law_runs : Stmt := top 76
theorem sc__law_runs : FnScope ["_law_times", "_law_many", "_law_run"] ["_law_times", "_law_many"] (defScope s__law_runs) := ⟨rfl, rfl, rfl, by decide +kernel, rfl, by decide +kernel, by decide +kernel⟩
theorem h_law_runs (B : Blts mg) (F : FunAt K mg "_law_runs" "_law_runs" s__law_runs) : Has P w K mg base "_law_runs" 1 ["_law_times", "_law_many"] spRuns := by
  refine has_of F sc__law_runs (fun _ _ _ _ _ _ us hl => match us, hl with | [_, _], _ => rfl) (fun vs H Q E h => ?_) (fun f cdv A outer s H vs Q E hr h => ?_)
  · obtain ⟨_, _, rfl, _⟩ := h
    rfl
  · obtain ⟨n, m, rfl, hn, k⟩ := h
    refine ⟨_, (pss_one (ps_ret (pe_lc (own := [("_law_run", 2)]) rfl sc__law_runs.nd (pi_range1 (by rfl) B.n_range (pa_cons (pe_op op_add (pv 0) pe_int) pa_nil)) (blkOk_by (own := [("_law_run", 2)]) (N := ["_law_times", "_law_many", "_law_run"]) (sc := defScope s__law_runs) (by decide +kernel)) (fun _ _ _ _ _ => by exact (pg_name (i := 2) sc__law_runs.nd rfl (Or.inl rfl))) (fun _ _ _ _ _ => by exact pts_nil) (fun _ _ _ _ _ => by exact (pe_op op_sub (pe_op op_fdiv (pe_op op_mul (pe_op op_add (pv 2) pe_int) (pv 1)) (pe_op op_add (pv 0) pe_int)) (pe_op op_fdiv (pe_op op_mul (pv 2) (pv 1)) (pe_op op_add (pv 0) pe_int))))))), ?_⟩
    refine ⟨_, rfl, _, _, rfl, rfl, _, rfl, by omega, by omega, fun D nD => ?_⟩
    refine lc_map (walk_range (lo := 0) (n := ((n : Int) + 1).toNat)) (fun i => .int ((evE n m (i + 1) - evE n m i : Nat) : Int)) nD (by omega) (fun _ _ => trivial) ?_ ?_
    · rintro i y H3 H4 hi s3 ⟨rfl, rfl⟩ R hR'
      have q := hR' _ (Same.refl _)
      refine ⟨rfl, _, rfl, _, _, rfl, rfl, _, rfl, _, _, rfl, rfl, ?_, _, rfl, _, _, rfl, rfl, _, _, rfl, rfl, ⟨by omega, by omega⟩, _, rfl, _, rfl, _, _, rfl, rfl, ?_, _, rfl, _, _, rfl, rfl, _, _, rfl, rfl, ⟨by omega, by omega⟩, _, _, rfl, rfl, ?_⟩
      · rw [show (0 + (i : Int) + 1) = ((i + 1 : Nat) : Int) by omega]
        exact small_mul (by omega) _
      · rw [Int.zero_add]
        exact small_mul (by omega) _
      · have e1 := evE_int n m i
        have e2 : (0 + (i : Int) + 1) * (m : Int) / ((n : Int) + 1) = ((evE n m (i + 1) : Nat) : Int) := by
          rw [← evE_int n m (i + 1)]
          congr 2
        show R (.int ((0 + (i : Int) + 1) * (m : Int) / ((n : Int) + 1) - (0 + (i : Int)) * (m : Int) / ((n : Int) + 1))) _
        rw [e1, e2, ← Int.ofNat_sub evE_mono]
        exact q
    · intro H5 s5 hD
      have eN : ((n : Int) + 1).toNat = n + 1 := by omega
      rw [eN] at hD
      refine k D H5 nD ?_ s5
      rw [hD, runsL, List.map_map]
      rfl
end
end N

set_option maxHeartbeats 4000000
/-! a try whose one clause puts a list of two fields of the error behind a list: met.append([e.f, e.g]) -/
namespace L2
open PySem PySem.Spec PyProof.Rows
theorem ps_try_two {X : Cx} {x n l f g : Str} {C : Addr} {i j : Nat} {body : List Stmt} {np p1 p2 p3 p4 p5 p6 p7 p8 p9 pos pos' : Pos} {tb : WX → TS} (hs : X.stack = X.env :: X.outer) (hf : X.env.frame = some X.env.locals) (hN : X.N.Nodup) (hi : X.N[i]? = some n) (hln : X.env.kindOf n = some .local) (hc : Names X x (.ref C))
    (hb : ∀ (W : WX) (pn : List (Addr × Obj)) (xe : Value → Shared → Prop), Takes (X.tr pn xe) W → PassesOwn (model X.prog X.w) X.A X.env xe → PSs (X.tr pn xe) body (tb W))
    (vn : Vis X.env.scope n) (dn : (n == ("__debug__" : Str)) = false) (dn2 : (n == ("__classdict__" : Str)) = false) (hj : X.N[j]? = some l) (vl : Vis X.env.scope l) (dl : (l == ("__debug__" : Str)) = false) (dl2 : (l == ("__classdict__" : Str)) = false) (T : XfC X.K C) (nf : PySem.W.findIn X.K (.ref C) f = some none) (ng : PySem.W.findIn X.K (.ref C) g = some none)
    (hline : (p2.endLine == p7.line) = true) (hq : ∀ a oe pn, swapsWith (.Call (.Attribute (.Name l p1) "append" p2) [.List [.Attribute (.Name n p3) f p4, .Attribute (.Name n p5) g p6] p9] [] p7) none p8.line (X.suite a ((a, oe) :: pn)).env = pure false) :
    PS X (.Try body [.ExceptHandler (some (.Name x np)) (some n) [.Expr (.Call (.Attribute (.Name l p1) "append" p2) [.List [.Attribute (.Name n p3) f p4, .Attribute (.Name n p5) g p6] p9] [] p7) p8] pos'] [] [] pos)
      (fun D σ H => tb (wAs X.K (.ref C) i (fun a cls d => tDrop (tBM X.K "list" rAppend (tVar j) (tCons (tLst (tCons (tXf a cls d C f (tVar i)) (tCons (tXf a cls d C g (tVar i)) tNil))) tNil))) (fun _ _ _ _ => False) D) D σ H) := by
  refine ps_try_as hs hf hN hi hln hc takes0 hb fun a oe cls d pn hz hf => ?_
  exact pss_one (ps_expr (pe_bm PySem.F.plainAttrs_list PySem.F.slot_list_append PySem.F.type_list_append mt_append (pe_var hj vl dl dl2) (pa_cons (pe_lst (pa_cons (pe_xf T nf hz hf (pe_var hi vn dn dn2)) (pa_cons (pe_xf T ng hz hf (pe_var hi vn dn dn2)) pa_nil))) pa_nil) (hline := hline)) (hq a oe pn))
end L2

set_option maxHeartbeats 4000000
namespace N
open PySem L2
def refD (n : Nat) : PyData := .list [.list [.int 0, .int (n : Nat)], .list [.int 0, .int (n : Nat)]]
theorem ref_shaped (n : Nat) : SeqAt.shaped (refD n) = true := by simp [refD, SeqAt.shaped, PyData.canLay0, PyData.canLayAll0, PyData.depth, PyData.depthAll]
theorem ref_eqv (n : Nat) : PyData.eqv (refD n) (refD n) = true := by simp [refD, PyData.eqv, PyData.eqvAll]
theorem dp_ref {K : PySem.W.Frag} {H : Hp} {q l1 l2 : Addr} {n : Nat} (h : H q = some (.lst [.ref l1, .ref l2])) (h1 : H l1 = some (.lst [.int 0, .int (n : Nat)])) (h2 : H l2 = some (.lst [.int 0, .int (n : Nat)])) : Dp K H (.ref q) (refD n) :=
  .lst (SqL.of h) (.cons (.lst (SqL.of h1) (.cons (.int _) (.cons (.int _) .nil))) (.cons (.lst (SqL.of h2) (.cons (.int _) (.cons (.int _) .nil))) .nil))
def spIsRef (CE CB C : Addr) : Sp := fun vs H Q _ => ∃ (x b : Addr) (rs qs ds : List Row) (n : Nat) (p : Row) (m : Nat), vs = [.ref x, .int (m : Nat)] ∧ EvenAt CE CB C H x b rs qs ds n p ∧ m.log2 < 1920 ∧ m < n * tk ds ∧ ∀ H', Same H H' → Q (.bl true) H'
section
variable {P : Program} {w : World} {K : PySem.W.Frag} {mg : Str → Option Value} {base : Heap} {C CB CE CF CL : Addr} {Cs : Nat → Addr}
abbrev s__law_is_refused : Stmt := top 78
theorem sc__law_is_refused : FnScope ["_law_text", "_law_loops", "_law_met", "e"] ["_law_text", "_law_loops"] (defScope s__law_is_refused) := ⟨rfl, rfl, rfl, by decide +kernel, rfl, by decide +kernel, by decide +kernel⟩
theorem h_law_is_refused (T : EvenT K mg CE) (TF : FitC K mg CF s_NotFitting___init__) (xff : PySem.W.exmOne K (.ref CF) (.ref CF) = some true) (F : FunAt K mg "_law_is_refused" "_law_is_refused" s__law_is_refused) (m_tword : HasMX P w K mg base CE "word" 6 ["self", "loops"] (spTWord K CE CL CB C CF)) (m_tmade : HasMX P w K mg base CE "made" 6 ["self", "loops"] (spMadeOf CE CF)) : Has P w K mg base "_law_is_refused" 7 ["_law_text", "_law_loops"] (spIsRef CE CB C) := by
  refine has_of F sc__law_is_refused (fun _ _ _ _ _ _ us hl => match us, hl with | [_, _], _ => rfl) (fun vs H Q E h => ?_) (fun f cdv A outer s H vs Q E hr h => ?_)
  · obtain ⟨_, _, _, _, _, _, _, _, rfl, _⟩ := h
    rfl
  · obtain ⟨x, b, rs, qs, ds, n, p, m, rfl, hx, lm, hlt, k⟩ := h
    obtain ⟨dx, l, c, m', h1, hb, hl, hc, hm, ok⟩ := id hx
    refine ⟨_, pss_cons (ps_set (i := 2) sc__law_is_refused.nd rfl (Or.inl rfl) (pe_lst pa_nil))
      (pss_cons (ps_try_two (i := 3) (j := 2) (C := CF) rfl rfl sc__law_is_refused.nd rfl rfl ⟨rfl, by decide, .inl TF.1.g⟩ (fun W pn xe tk _ => pss_one (ps_expr (pe_hasMXW m_tword T.cl (hr.mono (by decide)) tk (pv 0) (pa_cons (pv 1) pa_nil)))) (Or.inl rfl) (by decide) (by decide) rfl (Or.inl rfl) (by decide) (by decide) TF.1.r (TF.2 _ (by simp)) (TF.2 _ (by simp)) (by rfl) (fun _ _ _ => rfl))
      (pss_cons (ps_try_two (i := 3) (j := 2) (C := CF) rfl rfl sc__law_is_refused.nd rfl rfl ⟨rfl, by decide, .inl TF.1.g⟩ (fun W pn xe tk _ => pss_one (ps_expr (pe_hasMXW m_tmade T.cl (hr.mono (by decide)) tk (pv 0) (pa_cons (pv 1) pa_nil)))) (Or.inl rfl) (by decide) (by decide) rfl (Or.inl rfl) (by decide) (by decide) TF.1.r (TF.2 _ (by simp)) (TF.2 _ (by simp)) (by rfl) (fun _ _ _ => rfl))
      (pss_one (ps_ret (pe_cmpR (op_eqD hr.units) (pv 2) (pe_lst (pa_cons (pe_lst (pa_cons pe_int (pa_cons (pv 1) pa_nil))) (pa_cons (pe_lst (pa_cons pe_int (pa_cons (pv 1) pa_nil))) pa_nil))) (by first | exact nomark _ | rfl)))))), ?_⟩
    have hp : placeR (n * tk ds) 1 (.int (m : Nat)) = none := placeR_low hlt
    refine ⟨by decide, fun q nq => ?_⟩
    refine next_of ?_
    dsimp only
    have s1 := Same.new (o := .lst []) nq
    have hq1 : (upd H q (.lst [])) q = some (.lst []) := upd_same
    generalize upd H q (.lst []) = H1 at *
    have nq' := nq
    have o64 : Odd H1 (.int (m : Nat)) := .int _ (log_int lm)
    let Ech : Hp → XK := fun G cls d H' => ∃ dd : Addr, d = some dd ∧ H' dd = some (.xd [("loops", .int (m : Nat)), ("section", .int 0)]) ∧ cls = .ref CF ∧ Same G H'
    refine ⟨_, rfl, x, dx, _, rfl, s1 _ _ h1, rfl, _, rfl, Ech H1, ?_, x, b, rs, qs, ds, n, p, _, rfl, hx.same s1, o64, fun m2 e2 => (nomatch hp.symm.trans e2), fun _ d H2 s2 hd => ⟨d, rfl, hd, rfl, s2⟩⟩
    rintro cls d H2 ⟨dd, rfl, hd2, rfl, s2⟩
    refine ⟨true, xff, fun _ a na => ?_, fun z => by cases z⟩
    have hq2 := s2 _ _ hq1
    refine ⟨_, rfl, .inl ⟨rfl, _, SqL.of hq2⟩, _, rfl, rfl, rfl, dd, _, _, rfl, hd2, rfl, _, rfl, rfl, rfl, dd, _, _, rfl, hd2, rfl, (by show 2 ≤ sizeLine; decide), fun l1 nl1 => ?_⟩
    have s3 := Same.new (o := .lst [V.int 0, V.int (m : Nat)]) nl1
    refine ⟨q, _, _, rfl, rfl, s3 _ _ hq2, by decide, ?_⟩
    have l1q : l1 ≠ q := fun e => by
      subst e
      rw [hq2] at nl1
      cases nl1
    have s4 : Same H (upd (upd H2 l1 (.lst [V.int 0, V.int (m : Nat)])) q (.lst ([] ++ [V.ref l1]))) := ((s1.trans s2).trans s3).mut nq
    have hq4 : (upd (upd H2 l1 (.lst [V.int 0, V.int (m : Nat)])) q (.lst ([] ++ [V.ref l1]))) q = some (.lst [V.ref l1]) := upd_same
    have hl4 : (upd (upd H2 l1 (.lst [V.int 0, V.int (m : Nat)])) q (.lst ([] ++ [V.ref l1]))) l1 = some (.lst [V.int 0, V.int (m : Nat)]) := (upd_ne l1q).trans upd_same
    generalize upd (upd H2 l1 (.lst [V.int 0, V.int (m : Nat)])) q (.lst ([] ++ [V.ref l1])) = H4 at *
    have o64' : Odd H4 (.int (m : Nat)) := .int _ (log_int lm)
    refine next_of ?_
    dsimp only
    refine ⟨_, rfl, x, dx, _, rfl, s4 _ _ h1, rfl, _, rfl, Ech H4, ?_, x, _, _, _, _, _, rfl, (hx.same s4).prog, o64', by decide, by decide, fun m2 e2 => (nomatch hp.symm.trans e2), fun _ d H2 s2 hd => ⟨d, rfl, hd, rfl, s2⟩⟩
    rintro cls d H5 ⟨d5, rfl, hd5, rfl, s5⟩
    refine ⟨true, xff, fun _ a na => ?_, fun z => by cases z⟩
    have hq5 := s5 _ _ hq4
    refine ⟨_, rfl, .inl ⟨rfl, _, SqL.of hq5⟩, _, rfl, rfl, rfl, d5, _, _, rfl, hd5, rfl, _, rfl, rfl, rfl, d5, _, _, rfl, hd5, rfl, (by show 2 ≤ sizeLine; decide), fun l2 nl2 => ?_⟩
    have s6 := Same.new (o := .lst [V.int 0, V.int (m : Nat)]) nl2
    refine ⟨q, _, _, rfl, rfl, s6 _ _ hq5, (by show 1 < sizeLine; decide), ?_⟩
    have l2q : l2 ≠ q := fun e => by
      subst e
      rw [hq5] at nl2
      cases nl2
    have s7 : Same H (upd (upd H5 l2 (.lst [V.int 0, V.int (m : Nat)])) q (.lst ([V.ref l1] ++ [V.ref l2]))) := ((s4.trans s5).trans s6).mut nq
    have hq7 : (upd (upd H5 l2 (.lst [V.int 0, V.int (m : Nat)])) q (.lst ([V.ref l1] ++ [V.ref l2]))) q = some (.lst [V.ref l1, V.ref l2]) := upd_same
    have hl7 : (upd (upd H5 l2 (.lst [V.int 0, V.int (m : Nat)])) q (.lst ([V.ref l1] ++ [V.ref l2]))) l2 = some (.lst [V.int 0, V.int (m : Nat)]) := (upd_ne l2q).trans upd_same
    have hk7 : (upd (upd H5 l2 (.lst [V.int 0, V.int (m : Nat)])) q (.lst ([V.ref l1] ++ [V.ref l2]))) l1 = some (.lst [V.int 0, V.int (m : Nat)]) := (upd_ne l1q).trans (s6 _ _ (s5 _ _ hl4))
    generalize upd (upd H5 l2 (.lst [V.int 0, V.int (m : Nat)])) q (.lst ([V.ref l1] ++ [V.ref l2])) = H7 at *
    refine next_of ?_
    dsimp only
    refine ⟨_, rfl, _, rfl, (by show 2 ≤ sizeLine; decide), fun l3 nl3 => ?_⟩
    have s8 := Same.new (o := .lst [V.int 0, V.int (m : Nat)]) nl3
    have h38 : (upd H7 l3 (.lst [V.int 0, V.int (m : Nat)])) l3 = some (.lst [V.int 0, V.int (m : Nat)]) := upd_same
    generalize upd H7 l3 (.lst [V.int 0, V.int (m : Nat)]) = H8 at *
    refine ⟨_, rfl, (by show 2 ≤ sizeLine; decide), fun l4 nl4 => ?_⟩
    have s9 := Same.new (o := .lst [V.int 0, V.int (m : Nat)]) nl4
    have h49 : (upd H8 l4 (.lst [V.int 0, V.int (m : Nat)])) l4 = some (.lst [V.int 0, V.int (m : Nat)]) := upd_same
    generalize upd H8 l4 (.lst [V.int 0, V.int (m : Nat)]) = H9 at *
    refine ⟨(by show 2 ≤ sizeLine; decide), fun l5 nl5 => ?_⟩
    have s10 := Same.new (o := .lst [V.ref l3, V.ref l4]) nl5
    have s710 := (s8.trans s9).trans s10
    refine ⟨refD m, refD m, dp_ref (s710 _ _ hq7) (s710 _ _ hk7) (s710 _ _ hl7), dp_ref upd_same (s10 _ _ (s9 _ _ h38)) (s10 _ _ h49), ref_shaped m, ref_shaped m, ?_⟩
    rw [ref_eqv]
    exact k _ (s7.trans s710)
end
end N

set_option maxHeartbeats 4000000
namespace N
open PySem L2
/-! ### the runs of plain stitches -/
def runE (n m i : Nat) : Nat := evE n m (i + 1) - evE n m i
theorem runsL_at (n m : Nat) : runsL n m = (List.range (n + 1)).map (runE n m) := rfl
theorem evE_zero (n m : Nat) : evE n m 0 = 0 := by
  unfold evE
  rw [Nat.zero_mul, Nat.zero_div]
theorem evE_top (n m : Nat) : evE n m (n + 1) = m := by
  unfold evE
  exact Nat.mul_div_cancel_left m (Nat.succ_pos n)
theorem run_sum (n m : Nat) : ∀ j, ((List.range j).map (runE n m)).sum = evE n m j
  | 0 => (evE_zero n m).symm
  | j + 1 => by
    rw [List.range_succ, List.map_append, List.sum_append, run_sum n m j]
    have := evE_mono (n := n) (m := m) (k := j)
    simp only [List.map_cons, List.map_nil, List.sum_cons, List.sum_nil, runE]
    omega
theorem runs_sum (n m : Nat) : (runsL n m).sum = m := by rw [runsL_at, run_sum, evE_top]
theorem run_near (n m i : Nat) : m / (n + 1) ≤ runE n m i ∧ runE n m i ≤ m / (n + 1) + 1 := by
  have N : 0 < n + 1 := Nat.succ_pos n
  have h1 := Nat.div_add_mod (i * m) (n + 1)
  have h2 := Nat.div_add_mod m (n + 1)
  have l1 := Nat.mod_lt (i * m) N
  have l2 := Nat.mod_lt m N
  have e : (i + 1) * m = (n + 1) * (i * m / (n + 1) + m / (n + 1)) + (i * m % (n + 1) + m % (n + 1)) := by
    rw [Nat.succ_mul, Nat.mul_add]
    omega
  have d : (i + 1) * m / (n + 1) = (i * m / (n + 1) + m / (n + 1)) + (i * m % (n + 1) + m % (n + 1)) / (n + 1) := by
    rw [e, Nat.mul_add_div N]
  have b : (i * m % (n + 1) + m % (n + 1)) / (n + 1) < 2 := Nat.div_lt_of_lt_mul (by omega)
  unfold runE evE
  rw [d]
  generalize (i * m % (n + 1) + m % (n + 1)) / (n + 1) = z at *
  generalize i * m / (n + 1) = a at *
  generalize m / (n + 1) = y at *
  omega
theorem rep_one (p : Row) : ∀ k, repR [p] k = List.replicate k p
  | 0 => rfl
  | k + 1 => by rw [repR_succ, rep_one p k]; rfl
def dueL (ds : List Row) (n : Nat) (p : Row) (m j : Nat) : List Row := (List.range j).flatMap fun i => List.replicate (runE n m i) p ++ ds
theorem dueL_succ (ds : List Row) (n : Nat) (p : Row) (m j : Nat) : dueL ds n p m (j + 1) = dueL ds n p m j ++ (List.replicate (runE n m j) p ++ ds) := by
  unfold dueL
  rw [List.range_succ, List.flatMap_append]
  simp
theorem dueL_is (ds : List Row) (n : Nat) (p : Row) (m : Nat) : ∀ j, dueL ds n p m (j + 1) = expR (evR ds n p m j) ++ ds
  | 0 => by
    rw [dueL_succ]
    have e : expR (evR ds n p m 0) = List.replicate (evE n m 1) p := by
      show expR [([p], evE n m 1)] = _
      rw [expR_cons, rep_one]
      simp [expR]
    rw [e]
    simp [dueL, runE, evE_zero]
  | j + 1 => by
    rw [dueL_succ, dueL_is ds n p m j, evR_succ, expR_app]
    have e : expR (evB ds n p m j) = ds ++ List.replicate (runE n m (j + 1)) p := by
      show expR [(ds, 1), ([p], evE n m (j + 2) - evE n m (j + 1))] = _
      rw [expR_cons, expR_cons, rep_one]
      simp [expR, repR, runE]
    rw [e]
    simp [List.append_assoc]
theorem dueL_len (ds : List Row) (n : Nat) (p : Row) (m : Nat) : ∀ j, (dueL ds n p m j).length = evE n m j + j * ds.length
  | 0 => by simp [dueL, evE_zero]
  | j + 1 => by
    rw [dueL_succ, List.length_append, dueL_len ds n p m j, List.length_append, List.length_replicate, Nat.succ_mul]
    have := evE_mono (n := n) (m := m) (k := j)
    unfold runE
    omega
theorem exp_ev_len (ds : List Row) (n : Nat) (p : Row) (m : Nat) : (expR (evR ds n p m n)).length = m + n * ds.length := by
  have h1 := dueL_len ds n p m (n + 1)
  rw [dueL_is, List.length_append, evE_top, Nat.succ_mul] at h1
  omega
theorem wordV_rep1 (p : Row) (k : Nat) : (List.replicate k [V.str p.name]).flatten = wordV (List.replicate k p) := by
  induction k with
  | zero => rfl
  | succ k ih =>
    rw [List.replicate_succ, List.flatten_cons, ih]
    rfl
theorem tidy_len_exp (ws : List Run) : (expR (tidyR ws)).length = (expR ws).length := by
  have := congrArg List.length (tidy_nm ws)
  rwa [nmS_len, nmS_len] at this
theorem cut_to {xs : List V} {j : Nat} : cutV xs none (some (j : Nat)) = xs.take j := by
  unfold cutV
  rw [HT.sIx_nat, HT.sIx_none, List.drop_zero, Nat.sub_zero]
  by_cases b : j ≤ xs.length
  · rw [Nat.min_eq_left b]
  · rw [Nat.min_eq_right (by omega), List.take_of_length_le (Nat.le_refl _), List.take_of_length_le (by omega)]
end N

set_option maxHeartbeats 4000000
namespace N
open PySem L2
theorem iteF' {b : Bool} {P Q : Prop} (e : b = false) (h : Q) : if b = true then P else Q := by
  subst e
  exact h
theorem log_small {m : Nat} (h : m ≤ 1000000) : m.log2 < 1900 := by
  by_cases z : m = 0
  · subst z
    decide
  · exact Nat.lt_trans ((Nat.log2_lt z).mpr (Nat.lt_of_le_of_lt h (by decide : 1000000 < 2 ^ 20))) (by decide)
theorem expR_mem {ws : List Run} {u : Row} (h : u ∈ expR ws) : ∃ r ∈ ws, u ∈ r.1 := by
  unfold expR at h
  obtain ⟨l, hl, hu⟩ := List.mem_flatten.mp h
  obtain ⟨r, hr, rfl⟩ := List.mem_map.mp hl
  unfold repR at hu
  obtain ⟨l2, hl2, hu2⟩ := List.mem_flatten.mp hu
  rw [List.eq_of_mem_replicate hl2] at hu2
  exact ⟨r, hr, hu2⟩
def spSmall (CE CB C : Addr) : Sp := fun vs H Q _ => ∃ (x b l : Addr) (rs qs ds : List Row) (n : Nat) (p : Row) (need loops : Nat), vs = [.ref x, .ref l, .int (n : Nat), .str p.name, .int (need : Nat), .int (loops : Nat)] ∧ EvenAt CE CB C H x b rs qs ds n p ∧ FrzT H l (wordV ds) ∧ ds.length ≤ 3 ∧ need = n * tk ds ∧ loops ≤ 300 ∧ ∀ H', Same H H' → Q (.bl true) H'
section
variable {P : Program} {w : World} {K : PySem.W.Frag} {mg : Str → Option Value} {base : Heap} {C CB CE CF CL : Addr} {Cs : Nat → Addr}
abbrev s__law_small_right : Stmt := top 77
theorem sc__law_small_right : FnScope ["_law_text", "_law_deed", "_law_times", "_law_plain", "_law_need", "_law_loops", "_law_runs_here", "_law_due", "_law_run", "_law_word"] ["_law_text", "_law_deed", "_law_times", "_law_plain", "_law_need", "_law_loops"] (defScope s__law_small_right) := ⟨rfl, rfl, rfl, by decide +kernel, rfl, by decide +kernel, by decide +kernel⟩
theorem h_law_small_right (B : Blts mg) (T : EvenT K mg CE) (TL : LongT K mg CL) (F : FunAt K mg "_law_small_right" "_law_small_right" s__law_small_right) (m_fits : HasM P w K mg base CE "fits" 4 ["self", "loops"] (spFits CE)) (h_law_is_refused : Has P w K mg base "_law_is_refused" 7 ["_law_text", "_law_loops"] (spIsRef CE CB C)) (h_law_runs : Has P w K mg base "_law_runs" 1 ["_law_times", "_law_many"] spRuns)
    (m_tword : HasMX P w K mg base CE "word" 6 ["self", "loops"] (spTWord K CE CL CB C CF)) (m_letters : HasMT P w K mg base CL "letters" 4 "self" "first" "many" (spLLetters K CL CB C)) (p_length : PL P w K mg base CL CB C "length" 2 (fun ws => .int (lenR ws : Nat))) : Has P w K mg base "_law_small_right" 9 ["_law_text", "_law_deed", "_law_times", "_law_plain", "_law_need", "_law_loops"] (spSmall CE CB C) := by
  refine has_of F sc__law_small_right (fun _ _ _ _ _ _ us hl => match us, hl with | [_, _, _, _, _, _], _ => rfl) (fun vs H Q E h => ?_) (fun f cdv A outer s H vs Q E hr h => ?_)
  · obtain ⟨_, _, _, _, _, _, _, _, _, _, rfl, _⟩ := h
    rfl
  · obtain ⟨x, b, l, rs, qs, ds, n, p, need, loops, rfl, hx, hl, d3, en, l300, k⟩ := h
    obtain ⟨dx, ld, c, m', h1, hb, hld, hc, hm, ok⟩ := id hx
    refine ⟨_, (pss_cons (ps_if (pt_cmpR op_lt (pv 5) (pv 4) (by first | exact nomark _ | rfl)) (pss_one (ps_ret (pe_and (pe_not (pe_hasM m_fits T.cl (hr.mono (by decide)) (pv 0) (pa_cons (pv 5) pa_nil))) (pe_one (pe_has h_law_is_refused (hr.mono (by decide)) (pa_cons (pv 0) (pa_cons (pv 5) pa_nil)))))))
        pss_nil)
      (pss_cons (ps_par (i := 6) (j := 7) (by rfl) sc__law_small_right.nd rfl rfl (by decide) rfl rfl (pa_cons (pe_has h_law_runs (hr.mono (by decide)) (pa_cons (pv 2) (pa_cons (pe_op op_sub (pv 5) (pv 4)) pa_nil))) (pa_cons (pe_lst pa_nil) pa_nil)) (by rfl))
      (pss_cons (ps_if (PW.pt (pw_or (pt_cmpR op_ne (pe_callB (cr_sum rfl) (by rfl) B.n_sum (by decide +kernel) (pa_cons (pv 6) pa_nil)) (pe_op op_sub (pv 5) (pv 4)) (by first | exact nomark _ | rfl)) (pw_or1 (pt_cmpR op_gt (pe_op op_sub (pe_callB (cr_max rfl) (by rfl) B.n_max (by decide +kernel) (pa_cons (pv 6) pa_nil)) (pe_callB (cr_min rfl) (by rfl) B.n_min (by decide +kernel) (pa_cons (pv 6) pa_nil))) pe_int (by first | exact nomark _ | rfl))))) (pss_one (ps_ret pe_bl))
        pss_nil)
      (pss_cons (ps_for PassesOwn.never rfl (pi_list (pv 6)) (pg_name (i := 8) sc__law_small_right.nd rfl (Or.inl rfl))
        (pss_one (ps_expr (pe_bm PySem.F.plainAttrs_list PySem.F.slot_list_extend PySem.F.type_list_extend mt_extend (pv 7) (pa_cons (pe_op op_cat (pe_op op_rep (pe_lst (pa_cons (pv 3) pa_nil)) (pv 8)) (pe_callTy call_list_of (by rfl) B.n_list (by decide +kernel) (pa_cons (pv 1) pa_nil))) pa_nil)))))
      (pss_cons (ps_set (i := 7) sc__law_small_right.nd rfl (Or.inl rfl) (pe_slice sl_list (pv 7) po_none (po_some (pe_op op_sub (pe_callB call_len (by rfl) B.n_len PySem.boot_len (pa_cons (pv 7) pa_nil)) (pe_callB call_len (by rfl) B.n_len PySem.boot_len (pa_cons (pv 1) pa_nil))))))
      (pss_cons (ps_set (i := 9) sc__law_small_right.nd rfl (Or.inl rfl) (pe_hasMX m_tword T.cl (hr.mono (by decide)) passL (pv 0) (pa_cons (pv 5) pa_nil)))
      (pss_one (ps_ret (pe_and (pe_hasM m_fits T.cl (hr.mono (by decide)) (pv 0) (pa_cons (pv 5) pa_nil)) (pe_and (pe_cmpR (op_eqD hr.units) (pe_hasM m_letters.m TL.cl (hr.mono (by decide)) (pv 9) (pa_cons pe_int (pa_cons pe_int pa_nil))) (pv 7) (by first | exact nomark _ | rfl)) (pe_one (pe_cmpR op_eq (pe_hasP p_length TL.cl (hr.mono (by decide)) (pv 9)) (pe_callB call_len (by rfl) B.n_len PySem.boot_len (pa_cons (pv 7) pa_nil)) (by first | exact nomark _ | rfl))))))))))))), ?_⟩
    have ol : ∀ G, Odd G (.int (loops : Nat)) := fun G => .int _ (log_int (log_le l300 (by decide)))
    refine ⟨_, rfl, _, rfl, _, _, rfl, rfl, _, rfl, ite2 (fun cc => ?_) (fun cc => ?_)⟩
    · have hlt : loops < need := by have := of_decide_eq_true cc; omega
      have hp : placeR (n * tk ds) 1 (.int (loops : Nat)) = none := placeR_low (en ▸ hlt)
      refine ⟨_, rfl, x, dx, _, rfl, h1, rfl, _, rfl, x, _, _, _, _, _, rfl, hx.prog, ol _, by decide, ?_⟩
      rw [hp]
      exact ⟨false, rfl, true, rfl, iteT ⟨_, rfl, _, rfl, x, b, rs, qs, ds, n, p, loops, rfl, hx, log_le l300 (by decide), en ▸ hlt, k⟩⟩
    · have hge : need ≤ loops := by
        have : ¬ ((loops : Int) < (need : Int)) := by simpa using cc
        omega
      refine next_of ?_
      dsimp only
      have esub : ((loops : Int) - (need : Int)) = ((loops - need : Nat) : Int) := by omega
      refine ⟨_, rfl, _, rfl, _, rfl, _, _, rfl, rfl, n, loops - need, (by
        show [V.int (n : Nat), V.int ((loops : Int) - (need : Int))] = _
        rw [esub]), ok.hi, fun q H1 nq hq s1 => ⟨by decide, fun d nd => ⟨_, _, rfl, ?_⟩⟩⟩
      dsimp only
      obtain ⟨m, em⟩ : ∃ m, m = loops - need := ⟨_, rfl⟩
      rw [← em] at hq
      have m300 : m ≤ 300 := by omega
      have hq' : (upd H1 d (.lst [])) q = some (.lst (((runsL n m).map fun i : Nat => (i : Int)).map V.int)) := by
        rw [List.map_map]
        exact Same.new nd _ _ hq
      have s12 := Same.new (o := .lst []) nd
      have s2 := s1.trans s12
      have hd2 : (upd H1 d (.lst [])) d = some (.lst []) := upd_same
      generalize upd H1 d (.lst []) = H2 at *
      have esum : ((runsL n m).map fun i : Nat => (i : Int)).sum = (m : Int) := by rw [sum_cast, runs_sum]
      refine ⟨_, rfl, q, _, rfl, SqL.of hq', _, rfl, _, rfl, _, _, rfl, rfl, rfl, _, rfl, ?_⟩
      have e1 : (!decide (V.int ((runsL n m).map fun i : Nat => (i : Int)).sum = V.int ((loops : Int) - (need : Int)))) = false := by
        rw [esum, esub, ← em]
        simp
      refine iteF' e1 ?_
      have lenr : 0 < ((runsL n m).map fun i : Nat => (i : Int)).length := by
        rw [List.length_map, runsL_at, List.length_map, List.length_range]
        omega
      refine ⟨_, rfl, q, _, rfl, SqL.of hq', lenr, fun mx hmx _ => ⟨_, rfl, q, _, rfl, SqL.of hq', lenr, fun mn hmn _ => ⟨_, _, rfl, rfl, _, _, rfl, rfl, _, rfl, ?_⟩⟩⟩
      have near : ∀ z ∈ (runsL n m).map fun i : Nat => (i : Int), ((m / (n + 1) : Nat) : Int) ≤ z ∧ z ≤ ((m / (n + 1) : Nat) : Int) + 1 := by
        intro z hz
        obtain ⟨i, hi, rfl⟩ := List.mem_map.mp hz
        rw [runsL_at] at hi
        obtain ⟨j, _, rfl⟩ := List.mem_map.mp hi
        have := run_near n m j
        omega
      have e2 : decide ((1 : Int) < mx - mn) = false := decide_eq_false (by have := near mx hmx; have := near mn hmn; omega)
      refine iteF' e2 ?_
      refine next_of ?_
      dsimp only
      have rlen : (((runsL n m).map fun i : Nat => (i : Int)).map V.int).length = n + 1 := by rw [List.length_map, List.length_map, runsL_at, List.length_map, List.length_range]
      refine ⟨_, rfl, q, rfl, ⟨_, SqL.of hq'⟩, for_list (K := K) (a := q) (xs := ((runsL n m).map fun i : Nat => (i : Int)).map V.int) (fun i σ H' => ∃ v8 : Option V, σ = [some (.ref x), some (.ref l), some (.int (n : Nat)), some (.str p.name), some (.int (need : Nat)), some (.int (loops : Nat)), some (.ref q), some (.ref d), v8, none] ∧ Same H1 H' ∧ H' d = some (.lst (wordV (dueL ds n p m i)))) ⟨none, rfl, ?_, hd2⟩ (fun i σ H' _ h => ?_) (fun i y σ H' hx' h => ?_) (fun σ H' h => ?_)⟩
      · exact s12
      · obtain ⟨_, _, e, _⟩ := h
        exact SqL.of (by
          have := e _ _ hq
          rw [this, List.map_map]
          rfl)
      · obtain ⟨v8, rfl, e, hdv⟩ := h
        have hi : i < n + 1 := by
          have := (List.getElem?_eq_some_iff.mp hx').1
          rwa [rlen] at this
        have ey : y = .int ((runE n m i : Nat) : Int) := by
          rw [List.getElem?_map, List.getElem?_map, runsL_at, List.getElem?_map, List.getElem?_range hi] at hx'
          exact (Option.some.inj hx').symm
        subst ey
        have rl : runE n m i ≤ 301 := by
          have := (run_near n m i).2
          have : m / (n + 1) ≤ m := Nat.div_le_self _ _
          omega
        have dl : (dueL ds n p m i).length ≤ 1000 := by
          rw [dueL_len]
          have a1 : evE n m i ≤ m := evE_le (by omega)
          have a2 : i * ds.length ≤ 13 * 3 := Nat.mul_le_mul (by have := ok.hi; omega) d3
          omega
        refine gname_of ?_
        dsimp only
        have kk : (-(2 ^ 63) : Int) ≤ ((runE n m i : Nat) : Int) ∧ ((runE n m i : Nat) : Int) < 2 ^ 63 := by
          have h1 : (1000 : Int) < 2 ^ 63 := by decide
          have h2 : (-(2 ^ 63) : Int) ≤ 0 := by decide
          exact ⟨Int.le_trans h2 (Int.natCast_nonneg _), Int.lt_of_le_of_lt (by omega) h1⟩
        refine ⟨_, rfl, .inl ⟨rfl, _, SqL.of hdv⟩, _, rfl, (by show 1 ≤ sizeLine; decide), fun u nu => ?_⟩
        have s3 := Same.new (o := .lst [V.str p.name]) nu
        refine ⟨_, rfl, u, _, _, rfl, rfl, upd_same, kk.1, kk.2, ?_, fun v nv => ?_⟩
        · rw [Int.toNat_natCast]
          show 1 * runE n m i ≤ sizeLine
          rw [sizeLine_eq]
          omega
        have er : (List.replicate ((runE n m i : Nat) : Int).toNat [V.str p.name]).flatten = wordV (List.replicate (runE n m i) p) := by rw [Int.toNat_natCast, wordV_rep1]
        rw [er]
        have s4 := Same.new (o := .lst (wordV (List.replicate (runE n m i) p))) nv
        have s34 := s3.trans s4
        refine ⟨_, rfl, l, _, rfl, .inr (((hl.same s1).same e).at.same s34).st, fun z nz => ?_⟩
        have s5 := Same.new (o := .lst (wordV ds)) nz
        refine ⟨v, z, _, _, rfl, rfl, s5 _ _ upd_same, upd_same, ?_, fun g ng => ?_⟩
        · rw [wordV_len, wordV_len, List.length_replicate, sizeLine_eq]
          omega
        rw [wordV_app]
        have s6 := Same.new (o := .lst (wordV (List.replicate (runE n m i) p ++ ds))) ng
        have s36 := (s34.trans s5).trans s6
        refine ⟨d, g, _, _, rfl, rfl, s36 _ _ hdv, upd_same, ?_, ?_⟩
        · rw [wordV_len, wordV_len, List.length_append, List.length_replicate, sizeLine_eq]
          omega
        refine next_of ?_
        dsimp only
        refine ⟨_, rfl, (e.trans s36).mut nd, ?_⟩
        rw [upd_same, wordV_app, dueL_succ]
      · obtain ⟨v8, rfl, e, hdv⟩ := h
        rw [rlen, dueL_is] at hdv
        have sH := s1.trans e
        refine next_of ?_
        dsimp only
        have hlH := (hl.same sH).at.st (K := K)
        refine ⟨_, rfl, _, rfl, _, _, rfl, .inl ⟨_, SqL.of hdv, rfl⟩, _, rfl, _, _, rfl, .inr ⟨_, hlH, rfl⟩, _, _, rfl, rfl, _, rfl, d, _, rfl, SqL.of hdv, fun D nD => ?_⟩
        have edue : cutV (wordV (expR (evR ds n p m n) ++ ds)) none (some (((wordV (expR (evR ds n p m n) ++ ds)).length : Int) - ((wordV ds).length : Int))) = wordV (expR (evR ds n p m n)) := by
          have e3 : ((wordV (expR (evR ds n p m n) ++ ds)).length : Int) - ((wordV ds).length : Int) = (((expR (evR ds n p m n)).length : Nat) : Int) := by
            rw [wordV_len, wordV_len, List.length_append]
            omega
          rw [e3, cut_to]
          unfold wordV
          rw [List.map_append, ← List.length_map (f := fun u : Row => V.str u.name), List.take_left']
          rfl
        rw [edue]
        refine next_of ?_
        dsimp only
        have sD := sH.trans (Same.new (o := .lst (wordV (expR (evR ds n p m n)))) nD)
        have hDD : (upd H' D (.lst (wordV (expR (evR ds n p m n))))) D = some (.lst (wordV (expR (evR ds n p m n)))) := upd_same
        generalize upd H' D (.lst (wordV (expR (evR ds n p m n)))) = H5 at *
        have hp : placeR (n * tk ds) 1 (.int (loops : Nat)) = some m := by
          rw [placeR_one (by omega), em, en]
        refine ⟨_, rfl, x, dx, _, rfl, sD _ _ h1, rfl, _, rfl, x, b, rs, qs, ds, n, p, _, rfl, hx.same sD, ol _, fun m2 e2 => ?_, fun e2 => (nomatch hp.symm.trans e2)⟩
        obtain rfl : m = m2 := Option.some.inj (hp.symm.trans e2)
        refine ⟨log_small (by omega), fun a H6 na s6 hL => ?_⟩
        refine next_of ?_
        dsimp only
        have s06 := sD.trans s6
        refine ⟨_, rfl, x, dx, _, rfl, s06 _ _ h1, rfl, _, rfl, x, _, _, _, _, _, rfl, (hx.same s06).prog, ol _, by decide, ?_⟩
        rw [hp]
        refine ⟨true, rfl, iteT ?_⟩
        obtain ⟨da, ta, ya, haa, hba, hRa, rok⟩ := id hL
        have gw : ∀ r ∈ tidyR (evR ds n p m n), GoodR r := fun r hr => (rok.2 r hr).1
        have xl : (expR (evR ds n p m n)).length ≤ 400 := by
          rw [exp_ev_len]
          have := Nat.mul_le_mul ok.hi d3
          omega
        have tl : (expR (tidyR (evR ds n p m n))).length = (expR (evR ds n p m n)).length := tidy_len_exp _
        refine ⟨_, rfl, a, da, _, rfl, haa, rfl, a, b, rs, qs, _, 0, 400, rfl, hL.low, by decide, by decide, fun z H7 nz hz s7 => ?_⟩
        have ew : wordV (lfR (tidyR (evR ds n p m n)) 0 400 []) = wordV (expR (evR ds n p m n)) := by
          rw [lfR_is gw (by simp), List.nil_append, List.drop_zero, List.length_nil, Nat.sub_zero, List.take_of_length_le (by omega), wordV_nm, tidy_nm, ← wordV_nm]
        rw [ew] at hz
        have so : ∀ s ∈ nmS (expR (evR ds n p m n)), PyData.strOk s = true := by
          refine nmS_ok fun u hu => ?_
          obtain ⟨r, hr, hur⟩ := expR_mem hu
          exact ((ok.parts (log_small (by omega))).2 r hr).1.2 u hur
        have dpw : ∀ {G : Hp} {g : Addr}, G g = some (.lst (wordV (expR (evR ds n p m n)))) → Dp K G (.ref g) (.list ((nmS (expR (evR ds n p m n))).map PyData.str)) := fun h => .lst (SqL.of h) (by rw [wordV_nm]; exact dp_strs _)
        have hD7 := s7 _ _ (s6 _ _ hDD)
        refine ⟨_, rfl, _, _, dpw hz, dpw hD7, shaped_strs so, shaped_strs so, _, rfl, ?_⟩
        rw [eqv_strsLL]
        refine iteT ?_
        refine ⟨_, rfl, a, da, _, rfl, s7 _ _ haa, a, b, rs, qs, _, rfl, hL.low.same s7, ok.kind, fun H8 s8 => ?_⟩
        refine ⟨_, rfl, _, _, rfl, .inl ⟨_, SqL.of (s8 _ _ hD7), rfl⟩, rfl, ?_⟩
        have el : decide (V.int ((lenR (tidyR (evR ds n p m n)) : Nat) : Int) = V.int ((wordV (expR (evR ds n p m n))).length : Nat)) = true := by
          rw [← expR_len, tl, wordV_len]
          exact decide_eq_true rfl
        rw [el]
        exact k _ ((s06.trans s7).trans s8)
end
end N

set_option maxHeartbeats 4000000
namespace N
open PySem L2
/-! ### far words, pure -/
theorem due_pre {ds : List Row} {n : Nat} {p : Row} {m i : Nat} : ∀ k, ∃ t, dueL ds n p m (i + k) = dueL ds n p m i ++ t
  | 0 => ⟨[], by simp⟩
  | k + 1 => by
    obtain ⟨t, ht⟩ := due_pre (ds := ds) (n := n) (p := p) (m := m) (i := i) k
    exact ⟨t ++ (List.replicate (runE n m (i + k)) p ++ ds), by rw [← Nat.add_assoc, dueL_succ, ht, List.append_assoc]⟩
theorem exp_due (ds : List Row) (n : Nat) (p : Row) (m : Nat) : expR (evR ds n p m n) = dueL ds n p m n ++ List.replicate (runE n m n) p := by
  have h := dueL_is ds n p m n
  rw [dueL_succ, ← List.append_assoc] at h
  exact (List.append_cancel_right h).symm
theorem at_run (ds : List Row) (n : Nat) (p : Row) (m : Nat) {i : Nat} (hi : i < n) : ∃ t, expR (evR ds n p m n) = (dueL ds n p m i ++ (List.replicate (runE n m i) p ++ ds)) ++ t := by
  obtain ⟨k, rfl⟩ : ∃ k, n = i + 1 + k := ⟨n - (i + 1), by omega⟩
  obtain ⟨t, ht⟩ := due_pre (ds := ds) (n := i + 1 + k) (p := p) (m := m) (i := i + 1) k
  refine ⟨t ++ List.replicate (runE (i + 1 + k) m (i + 1 + k)) p, ?_⟩
  rw [exp_due, ht, dueL_succ, List.append_assoc]
theorem rep_two (p : Row) {k : Nat} (h : 2 ≤ k) : List.replicate k p = List.replicate (k - 2) p ++ [p, p] := by
  obtain ⟨j, rfl⟩ : ∃ j, k = j + 2 := ⟨k - 2, by omega⟩
  rw [Nat.add_sub_cancel, show ([p, p] : List Row) = List.replicate 2 p from rfl, List.replicate_append_replicate]
theorem window (A ds t : List Row) (p : Row) {k : Nat} (h : 2 ≤ k) : (((A ++ (List.replicate k p ++ ds)) ++ t).drop (A.length + k - 2)).take (2 + ds.length) = [p, p] ++ ds := by
  have e : (A ++ (List.replicate k p ++ ds)) ++ t = (A ++ List.replicate (k - 2) p) ++ (([p, p] ++ ds) ++ t) := by
    rw [rep_two p h]
    simp [List.append_assoc]
  rw [e, List.drop_left' (by rw [List.length_append, List.length_replicate]; omega), List.take_left' (by simp; omega)]
theorem window2 (A : List Row) (p : Row) {k : Nat} (h : 2 ≤ k) : ((A ++ List.replicate k p).drop A.length).take 2 = [p, p] := by
  rw [List.drop_left' rfl]
  obtain ⟨j, rfl⟩ : ∃ j, k = j + 2 := ⟨k - 2, by omega⟩
  rfl
theorem sumOf_rep (g : Row → Int) (p : Row) : ∀ k : Nat, sumOf g (List.replicate k p) = (k : Int) * g p
  | 0 => by simp [sumOf]
  | k + 1 => by
    have := sumOf_rep g p k
    unfold sumOf at this ⊢
    rw [List.replicate_succ, List.map_cons, List.sum_cons, this, Int.natCast_add, Int.add_mul]
    omega
theorem sumOf_due (g : Row → Int) (ds : List Row) (n : Nat) (p : Row) (m : Nat) : ∀ j : Nat, sumOf g (dueL ds n p m j) = ((evE n m j : Nat) : Int) * g p + (j : Int) * sumOf g ds
  | 0 => by simp [dueL, sumOf, evE_zero]
  | j + 1 => by
    rw [dueL_succ, sumOf_app, sumOf_due g ds n p m j, sumOf_app, sumOf_rep]
    have h := evE_mono (n := n) (m := m) (k := j)
    have e : ((evE n m (j + 1) : Nat) : Int) = ((evE n m j : Nat) : Int) + ((runE n m j : Nat) : Int) := by
      unfold runE
      omega
    rw [e, Int.add_mul, Int.natCast_add, Int.add_mul]
    omega
theorem sumOf_exp (g : Row → Int) (ds : List Row) (n : Nat) (p : Row) (m : Nat) : sumOf g (expR (evR ds n p m n)) = (m : Int) * g p + (n : Int) * sumOf g ds := by
  rw [exp_due, sumOf_app, sumOf_due, sumOf_rep]
  have e : ((evE n m n : Nat) : Int) + ((runE n m n : Nat) : Int) = (m : Int) := by
    have h := evE_mono (n := n) (m := m) (k := n)
    have t := evE_top n m
    unfold runE
    omega
  rw [← e, Int.add_mul]
  omega
theorem cnt_due (ds : List Row) (n : Nat) (p : Row) (m : Nat) : ∀ j : Nat, (nmS (dueL ds n p m j)).count p.name = evE n m j + j * (nmS ds).count p.name
  | 0 => by simp [dueL, nmS, evE_zero]
  | j + 1 => by
    rw [dueL_succ, nmS_app, nmS_app, List.count_append, List.count_append, cnt_due ds n p m j]
    have h := evE_mono (n := n) (m := m) (k := j)
    have e : (nmS (List.replicate (runE n m j) p)).count p.name = runE n m j := by
      unfold nmS
      rw [List.map_replicate, List.count_replicate_self]
    rw [e, Nat.succ_mul]
    unfold runE
    omega
theorem cnt_exp (ds : List Row) (n : Nat) (p : Row) (m : Nat) : (nmS (expR (evR ds n p m n))).count p.name = m + n * (nmS ds).count p.name := by
  rw [exp_due, nmS_app, List.count_append, cnt_due]
  have e : (nmS (List.replicate (runE n m n) p)).count p.name = runE n m n := by
    unfold nmS
    rw [List.map_replicate, List.count_replicate_self]
  have h := evE_mono (n := n) (m := m) (k := n)
  have t := evE_top n m
  rw [e]
  unfold runE
  omega
theorem sum_tidy {rs : List Row} (nd : (rs.map (·.name)).Nodup) {ws : List Run} (h1 : ∀ u ∈ expR (tidyR ws), u ∈ rs) (h2 : ∀ u ∈ expR ws, u ∈ rs) (g : Row → Int) : sumW g (tidyR ws) = sumOf g (expR ws) := by
  rw [sumW_is, ← sels nd g h1, ← sels nd g h2]
  have := tidy_nm ws
  unfold nmS at this
  rw [this]
theorem lf_names {rs : List Row} {ds : List Row} {n : Nat} {p : Row} {m a k : Nat} (gw : ∀ r ∈ tidyR (evR ds n p m n), GoodR r) : nmS (lfR (tidyR (evR ds n p m n)) a k []) = ((nmS (expR (evR ds n p m n))).drop a).take k := by
  rw [lfR_is gw (by simp), List.nil_append, List.length_nil, Nat.sub_zero, ← tidy_nm]
  unfold nmS
  rw [List.map_take, List.map_drop]
theorem nm_cut (us : List Row) (a k : Nat) : ((nmS us).drop a).take k = nmS ((us.drop a).take k) := by
  unfold nmS
  rw [List.map_take, List.map_drop]
theorem cut_m1 {xs : List V} : cutV xs none (some (-1)) = xs.take (xs.length - 1) := by
  unfold cutV
  have e : HT.sIx xs.length xs.length (some (-1)) = xs.length - 1 := by
    show (if (-1 : Int) < 0 then ((-1 : Int) + (xs.length : Int)).toNat else min (-1 : Int).toNat xs.length) = _
    rw [if_pos (by decide)]
    omega
  rw [e, HT.sIx_none, List.drop_zero, Nat.sub_zero]
theorem atI_m1 {xs : List V} {v : V} {k : Nat} (hl : xs.length = k + 1) (h : xs[k]? = some v) : atI xs (-1) = some v := by
  have hx : xs = xs.take k ++ [v] := by
    have h1 : xs.take (k + 1) = xs.take k ++ [v] := take_at h
    rw [← h1, List.take_of_length_le (by omega)]
  rw [hx]
  exact atI_last (xs.take k) v
theorem log_plus {m c : Nat} (h : m.log2 < 1890) (hc : c ≤ 1000000) : (m + c).log2 < 1900 := by
  by_cases z : m = 0
  · subst z
    rw [Nat.zero_add]
    exact log_small hc
  · have h1 := (Nat.log2_lt z).mp h
    have h2 : (2 : Nat) ^ 1891 = 2 ^ 1890 + 2 ^ 1890 := by rw [Nat.pow_succ]; omega
    have h3 : (1000000 : Nat) < 2 ^ 1890 := Nat.lt_of_lt_of_le (by decide : 1000000 < 2 ^ 20) (Nat.pow_le_pow_right (by decide) (by decide))
    refine (Nat.log2_lt (by omega)).mpr (Nat.lt_of_lt_of_le (show m + c < 2 ^ 1891 by omega) (Nat.pow_le_pow_right (by decide) (by decide)))
theorem iteT' {b : Bool} {P Q : Prop} (e : b = true) (h : P) : if b = true then P else Q := by
  subst e
  exact h
def spFar (CE CB C : Addr) : Sp := fun vs H Q _ => ∃ (x b l : Addr) (rs qs ds : List Row) (n : Nat) (p : Row) (need loops : Nat), vs = [.ref x, .ref l, .int (n : Nat), .str p.name, .int (need : Nat), .int (loops : Nat)] ∧ EvenAt CE CB C H x b rs qs ds n p ∧ FrzT H l (wordV ds) ∧ ds.length ≤ 3 ∧ need = n * tk ds ∧ need + 100 ≤ loops ∧ loops.log2 < 1890 ∧ ∀ H', Same H H' → Q (.bl true) H'
section
variable {P : Program} {w : World} {K : PySem.W.Frag} {mg : Str → Option Value} {base : Heap} {C CB CE CF CL : Addr} {Cs : Nat → Addr}
abbrev s__law_far_right : Stmt := top 79
theorem sc__law_far_right : FnScope ["_law_text", "_law_deed", "_law_times", "_law_plain", "_law_need", "_law_loops", "_law_word", "_law_runs_here", "_law_place", "_law_run", "_law_due"] ["_law_text", "_law_deed", "_law_times", "_law_plain", "_law_need", "_law_loops"] (defScope s__law_far_right) := ⟨rfl, rfl, rfl, by decide +kernel, rfl, by decide +kernel, by decide +kernel⟩
theorem h_law_far_right (B : Blts mg) (T : EvenT K mg CE) (TL : LongT K mg CL) (F : FunAt K mg "_law_far_right" "_law_far_right" s__law_far_right) (h_law_runs : Has P w K mg base "_law_runs" 1 ["_law_times", "_law_many"] spRuns)
    (m_tword : HasMX P w K mg base CE "word" 6 ["self", "loops"] (spTWord K CE CL CB C CF)) (m_tmade : HasMX P w K mg base CE "made" 6 ["self", "loops"] (spMadeOf CE CF)) (m_letters : HasMT P w K mg base CL "letters" 4 "self" "first" "many" (spLLetters K CL CB C)) (m_letter : HasMK P w K mg base CL "letter" 4 "self" "place" (spLetter K CL CB C)) (m_count : HasM P w K mg base CL "count" 4 ["self", "name"] (spLCount K CL CB C))
    (p_length : PL P w K mg base CL CB C "length" 2 (fun ws => .int (lenR ws : Nat))) (p_ltakes : PL P w K mg base CL CB C "takes" 4 (fun ws => .int (sumW Row.takes ws))) (p_lmakes : PL P w K mg base CL CB C "makes" 4 (fun ws => .int (sumW Row.makes ws))) : Has P w K mg base "_law_far_right" 9 ["_law_text", "_law_deed", "_law_times", "_law_plain", "_law_need", "_law_loops"] (spFar CE CB C) := by
  refine has_of F sc__law_far_right (fun _ _ _ _ _ _ us hl => match us, hl with | [_, _, _, _, _, _], _ => rfl) (fun vs H Q E h => ?_) (fun f cdv A outer s H vs Q E hr h => ?_)
  · obtain ⟨_, _, _, _, _, _, _, _, _, _, rfl, _⟩ := h
    rfl
  · obtain ⟨x, b, l, rs, qs, ds, n, p, need, loops, rfl, hx, hl, d3, en, hge, llog, k⟩ := h
    obtain ⟨dx, ld, c, m', h1, hb, hld, hc, hm, ok⟩ := id hx
    refine ⟨_, (pss_cons (ps_par3 (i := 6) (j := 7) (l := 8) (by rfl) sc__law_far_right.nd rfl rfl rfl (by decide) (by decide) (by decide) rfl rfl rfl (pa_cons (pe_hasMX m_tword T.cl (hr.mono (by decide)) passL (pv 0) (pa_cons (pv 5) pa_nil)) (pa_cons (pe_has h_law_runs (hr.mono (by decide)) (pa_cons (pv 2) (pa_cons (pe_op op_sub (pv 5) (pv 4)) pa_nil))) (pa_cons pe_int pa_nil))) (by rfl))
      (pss_cons (ps_for PassesOwn.never rfl (pi_list (pe_slice sl_list (pv 7) po_none (po_some (pe_un un_neg pe_int)))) (pg_name (i := 9) sc__law_far_right.nd rfl (Or.inl rfl))
        (pss_cons (ps_set (i := 8) sc__law_far_right.nd rfl (Or.inl rfl) (pe_op op_add (pv 8) (pv 9)))
        (pss_cons (ps_if (pt_cmpR (op_neD hr.units) (pe_hasM m_letters.m TL.cl (hr.mono (by decide)) (pv 6) (pa_cons (pe_op op_sub (pv 8) pe_int) (pa_cons (pe_op op_add pe_int (pe_callB call_len (by rfl) B.n_len PySem.boot_len (pa_cons (pv 1) pa_nil))) pa_nil))) (pe_op op_cat (pe_lst (pa_cons (pv 3) (pa_cons (pv 3) pa_nil))) (pe_callTy call_list_of (by rfl) B.n_list (by decide +kernel) (pa_cons (pv 1) pa_nil))) (by first | exact nomark _ | rfl)) (pss_one (ps_ret pe_bl))
          pss_nil)
        (pss_one (ps_set (i := 8) sc__law_far_right.nd rfl (Or.inl rfl) (pe_op op_add (pv 8) (pe_callB call_len (by rfl) B.n_len PySem.boot_len (pa_cons (pv 1) pa_nil))))))))
      (pss_cons (ps_if (PW.pt (pw_or (pt_cmpR op_ne (pe_hasP p_length TL.cl (hr.mono (by decide)) (pv 6)) (pe_op op_add (pv 8) (pe_ix ix_list (pv 7) (pe_un un_neg pe_int) (fun _ _ => rfl))) (by first | exact nomark _ | rfl)) (pw_or (pt_cmpR (op_neD hr.units) (pe_hasM m_letters.m TL.cl (hr.mono (by decide)) (pv 6) (pa_cons (pv 8) (pa_cons pe_int pa_nil))) (pe_lst (pa_cons (pv 3) (pa_cons (pv 3) pa_nil))) (by first | exact nomark _ | rfl)) (pw_or1 (pt_cmpR op_ne (pe_hasP p_ltakes TL.cl (hr.mono (by decide)) (pv 6)) (pv 5) (by first | exact nomark _ | rfl)))))) (pss_one (ps_ret pe_bl))
        pss_nil)
      (pss_cons (ps_set (i := 10) sc__law_far_right.nd rfl (Or.inl rfl) (pe_op op_add (pe_op op_sub (pv 5) (pv 4)) (pe_op op_mul (pv 2) (pe_bmF PySem.F.plainAttrs_tuple PySem.F.slot_tuple_count PySem.F.type_tuple_count mt_tcount (pv 1) (pa_cons (pv 3) pa_nil)))))
      (pss_one (ps_ret (pe_and (pe_cmpR op_eq (pe_hasM m_count TL.cl (hr.mono (by decide)) (pv 6) (pa_cons (pv 3) pa_nil)) (pv 10) (by first | exact nomark _ | rfl)) (pe_and (pe_cmpR op_eq (pe_hasP p_lmakes TL.cl (hr.mono (by decide)) (pv 6)) (pe_hasMX m_tmade T.cl (hr.mono (by decide)) passL (pv 0) (pa_cons (pv 5) pa_nil)) (by first | exact nomark _ | rfl)) (pe_one (pe_cmpR op_eq (pe_hasM m_letter.m TL.cl (hr.mono (by decide)) (pv 6) (pa_cons (pe_op op_sub (pe_hasP p_length TL.cl (hr.mono (by decide)) (pv 6)) pe_int) pa_nil)) (pv 3) (by first | exact nomark _ | rfl))))))))))), ?_⟩
    obtain ⟨m, em⟩ : ∃ m, m = loops - need := ⟨_, rfl⟩
    have ol : ∀ G, Odd G (.int (loops : Nat)) := fun G => .int _ (log_int (Nat.lt_of_lt_of_le llog (by decide)))
    have lm : m.log2 < 1900 := by
      by_cases z : m = 0
      · rw [z]
        decide
      · have zl : loops ≠ 0 := by omega
        refine (Nat.log2_lt z).mpr (Nat.lt_of_le_of_lt (show m ≤ loops by omega) (Nat.lt_trans ((Nat.log2_lt zl).mp llog) ?_))
        exact Nat.pow_lt_pow_right (by decide) (by decide)
    have esub : ((loops : Int) - (need : Int)) = ((m : Nat) : Int) := by omega
    have hp : placeR (n * tk ds) 1 (.int (loops : Nat)) = some m := by
      rw [placeR_one (by omega), em, en]
    refine ⟨_, rfl, x, dx, _, rfl, h1, rfl, _, rfl, x, b, rs, qs, ds, n, p, _, rfl, hx, ol _, fun m2 e2 => ?_, fun e2 => (nomatch hp.symm.trans e2)⟩
    obtain rfl : m = m2 := Option.some.inj (hp.symm.trans e2)
    refine ⟨lm, fun a H1 na s1 hL => ?_⟩
    refine ⟨_, rfl, _, rfl, _, rfl, _, _, rfl, rfl, n, m, (by
        show [V.int (n : Nat), V.int ((loops : Int) - (need : Int))] = _
        rw [esub]), ok.hi, fun q H2 nq hq s2 => ?_⟩
    refine ⟨_, _, _, rfl, ?_⟩
    dsimp only
    have m100 : 100 ≤ m := by omega
    have lml : m.log2 < 1890 := by
      have zl : loops ≠ 0 := by omega
      exact (Nat.log2_lt (by omega)).mpr (Nat.lt_of_le_of_lt (show m ≤ loops by omega) ((Nat.log2_lt zl).mp llog))
    have n12 := ok.hi
    have rge : ∀ i, 7 ≤ runE n m i := fun i => by
      have h := (run_near n m i).1
      have : 7 ≤ m / (n + 1) := (Nat.le_div_iff_mul_le (Nat.succ_pos n)).mpr (by omega)
      omega
    have nds : n * ds.length ≤ 36 := Nat.le_trans (Nat.mul_le_mul n12 d3) (by decide)
    have xlen : (expR (evR ds n p m n)).length = m + n * ds.length := exp_ev_len ds n p m
    obtain ⟨da, ta, ya, haa, hba, hRa, rok⟩ := id hL
    have gw : ∀ r ∈ tidyR (evR ds n p m n), GoodR r := fun r hr => (rok.2 r hr).1
    have so : ∀ u ∈ expR (evR ds n p m n), KindOk u ∧ u ∈ rs := by
      intro u hu
      obtain ⟨r, hr, hur⟩ := expR_mem hu
      have hm2 := ((ok.parts lm).2 r hr).2.1.2 u hur
      exact ⟨ok.kind u hm2, hm2⟩
    have S2 := s1.trans s2
    have pok : KindOk p := ok.kind p ok.mem
    have sopp : ∀ us : List Row, (∀ u ∈ us, u = p ∨ u ∈ ds) → ∀ s ∈ nmS us, PyData.strOk s = true := fun us h => nmS_ok fun u hu => by
      rcases h u hu with e | e
      · rw [e]
        exact pok.strOk
      · exact (ok.dk u e).strOk
    have dpw : ∀ {G : Hp} {g : Addr} {us : List Row}, G g = some (.lst (wordV us)) → Dp K G (.ref g) (.list ((nmS us).map PyData.str)) := fun h => .lst (SqL.of h) (by rw [wordV_nm]; exact dp_strs _)
    have ylen : ((runsL n m).map fun i : Nat => V.int ((i : Nat) : Int)).length = n + 1 := by rw [List.length_map, runsL_at, List.length_map, List.length_range]
    have yat : ∀ i, i < n + 1 → ((runsL n m).map fun i : Nat => V.int ((i : Nat) : Int))[i]? = some (.int ((runE n m i : Nat) : Int)) := fun i hi => by
      rw [List.getElem?_map, runsL_at, List.getElem?_map, List.getElem?_range hi]
      rfl
    refine ⟨_, rfl, _, rfl, _, rfl, q, _, rfl, SqL.of hq, fun D nD => ?_⟩
    have s3 := Same.new (o := .lst (cutV ((runsL n m).map fun i : Nat => V.int ((i : Nat) : Int)) none (some (-1)))) nD
    have hD : (upd H2 D (.lst (cutV ((runsL n m).map fun i : Nat => V.int ((i : Nat) : Int)) none (some (-1))))) D = some (.lst (((runsL n m).map fun i : Nat => V.int ((i : Nat) : Int)).take n)) := by
      rw [upd_same, cut_m1, ylen]
      rfl
    generalize upd H2 D _ = H3 at *
    refine ⟨D, rfl, ⟨_, SqL.of hD⟩, for_list (K := K) (a := D) (xs := ((runsL n m).map fun i : Nat => V.int ((i : Nat) : Int)).take n) (fun i σ H' => ∃ v9 : Option V, σ = [some (.ref x), some (.ref l), some (.int (n : Nat)), some (.str p.name), some (.int (need : Nat)), some (.int (loops : Nat)), some (.ref a), some (.ref q), some (.int (((dueL ds n p m i).length : Nat) : Int)), v9, none] ∧ Same H3 H') ⟨none, rfl, Same.refl _⟩ (fun i σ H' _ h => ?_) (fun i y σ H' hx' h => ?_) (fun σ H' h => ?_)⟩
    · obtain ⟨_, _, e⟩ := h
      exact SqL.of (e _ _ hD)
    · obtain ⟨v9, rfl, e⟩ := h
      have hi : i < n := by
        have := (List.getElem?_eq_some_iff.mp hx').1
        rw [List.length_take, ylen] at this
        omega
      rw [List.getElem?_take_of_lt hi, yat i (by omega)] at hx'
      obtain rfl : V.int ((runE n m i : Nat) : Int) = y := Option.some.inj hx'
      have sH := (S2.trans s3).trans e
      have sa := (s2.trans s3).trans e
      have rg := rge i
      have dl : (dueL ds n p m i).length = evE n m i + i * ds.length := dueL_len ds n p m i
      have de : evE n m (i + 1) = evE n m i + runE n m i := by
        have := evE_mono (n := n) (m := m) (k := i)
        unfold runE
        omega
      have dle : evE n m (i + 1) ≤ m := evE_le (by omega)
      have ids : i * ds.length ≤ 36 := Nat.le_trans (Nat.mul_le_mul (show i ≤ 12 by omega) d3) (by decide)
      refine gname_of ?_
      dsimp only
      refine ⟨_, rfl, _, rfl, _, _, rfl, rfl, ?_⟩
      refine next_of ?_
      dsimp only
      have e1 : (((dueL ds n p m i).length : Nat) : Int) + ((runE n m i : Nat) : Int) - 2 = (((dueL ds n p m i).length + runE n m i - 2 : Nat) : Int) := by omega
      refine ⟨_, rfl, a, da, _, rfl, sa _ _ haa, rfl, _, rfl, _, _, rfl, rfl, _, rfl, _, _, rfl, .inr ⟨_, (hl.same sH).at.st, rfl⟩, _, _, rfl, rfl, a, b, rs, qs, _, (dueL ds n p m i).length + runE n m i - 2, 2 + ds.length, ?_, hL.low.same sa, ?_, by omega, fun z H4 nz hz s4 => ?_⟩
      · show [V.ref a, V.int ((((dueL ds n p m i).length : Nat) : Int) + ((runE n m i : Nat) : Int) - 2), V.int (2 + ((wordV ds).length : Int))] = _
        rw [e1, wordV_len]
        rfl
      · refine log_int (log_le (b := m + 100) (by omega) (Nat.lt_trans (log_plus lml (by decide)) (by decide)))
      · obtain ⟨tl, htl⟩ := at_run ds n p m hi
        have ew : wordV (lfR (tidyR (evR ds n p m n)) ((dueL ds n p m i).length + runE n m i - 2) (2 + ds.length) []) = wordV ([p, p] ++ ds) := by
          rw [wordV_nm, lf_names (rs := rs) gw, nm_cut, htl, window _ _ _ _ (by omega), ← wordV_nm]
        rw [ew] at hz
        have sh := shaped_strs (sopp ([p, p] ++ ds) (fun u hu => by
          rcases List.mem_append.mp hu with h | h
          · left
            simpa using h
          · exact .inr h))
        refine ⟨_, rfl, _, rfl, (by show 2 ≤ sizeLine; decide), fun u nu => ?_⟩
        have s5 := Same.new (o := .lst [V.str p.name, V.str p.name]) nu
        refine ⟨_, rfl, l, _, rfl, .inr (((hl.same sH).same s4).at.same s5).st, fun t nt => ?_⟩
        have s6 := Same.new (o := .lst (wordV ds)) nt
        refine ⟨u, t, _, _, rfl, rfl, s6 _ _ upd_same, upd_same, ?_, fun g ng => ?_⟩
        · rw [wordV_len]
          show 2 + ds.length ≤ sizeLine
          rw [sizeLine_eq]
          omega
        have s7 := Same.new (o := .lst ([V.str p.name, V.str p.name] ++ wordV ds)) ng
        have s47 := ((s4.trans s5).trans s6).trans s7
        refine ⟨_, _, dpw (((s5.trans s6).trans s7) _ _ hz), dpw (us := [p, p] ++ ds) upd_same, sh, sh, _, rfl, ?_⟩
        rw [eqv_strsLL]
        refine iteF' rfl ?_
        refine next_of ?_
        dsimp only
        refine ⟨_, rfl, _, rfl, _, _, rfl, .inr ⟨_, ((hl.same sH).same s47).at.st, rfl⟩, _, _, rfl, rfl, ?_⟩
        refine next_of ?_
        dsimp only
        refine ⟨some (.int ((runE n m i : Nat) : Int)), ?_, e.trans s47⟩
        have e9 : (((dueL ds n p m i).length : Nat) : Int) + ((runE n m i : Nat) : Int) + ((wordV ds).length : Int) = (((dueL ds n p m (i + 1)).length : Nat) : Int) := by
          rw [dueL_succ, List.length_append, List.length_append, List.length_replicate, wordV_len]
          omega
        rw [← e9]
        rfl
    · obtain ⟨v9, rfl, e⟩ := h
      rw [List.length_take, ylen, Nat.min_eq_left (by omega)]
      have sH := (S2.trans s3).trans e
      have sa := (s2.trans s3).trans e
      have sq := s3.trans e
      have rn := rge n
      have dl : (dueL ds n p m n).length = evE n m n + n * ds.length := dueL_len ds n p m n
      have de : m = evE n m n + runE n m n := by
        have := evE_mono (n := n) (m := m) (k := n)
        have t := evE_top n m
        unfold runE
        omega
      have hL' := hL.low.same sa
      refine next_of ?_
      dsimp only
      refine ⟨_, rfl, a, da, _, rfl, sa _ _ haa, a, b, rs, qs, _, rfl, hL', ok.kind, fun H4 s4 => ?_⟩
      refine ⟨_, rfl, _, rfl, _, rfl, q, _, _, _, rfl, rfl, SqL.of (s4 _ _ (sq _ _ hq)), atI_m1 ylen (yat n (by omega)), _, _, rfl, rfl, rfl, _, rfl, ?_⟩
      have el : lenR (tidyR (evR ds n p m n)) = (dueL ds n p m n).length + runE n m n := by
        rw [← expR_len, tidy_len_exp, xlen]
        omega
      refine iteF' (by
        show (!decide (V.int ((lenR (tidyR (evR ds n p m n)) : Nat) : Int) = V.int ((((dueL ds n p m n).length : Nat) : Int) + ((runE n m n : Nat) : Int)))) = false
        rw [el, ← Int.natCast_add]
        simp) ?_
      refine ⟨_, rfl, a, da, _, rfl, s4 _ _ (sa _ _ haa), rfl, _, rfl, a, b, rs, qs, _, (dueL ds n p m n).length, 2, rfl, hL'.same s4, log_int (log_le (b := m + 100) (by omega) (Nat.lt_trans (log_plus lml (by decide)) (by decide))), by decide, fun z H5 nz hz s5 => ?_⟩
      have ew : wordV (lfR (tidyR (evR ds n p m n)) (dueL ds n p m n).length 2 []) = wordV [p, p] := by
        rw [wordV_nm, lf_names (rs := rs) gw, nm_cut, exp_due, window2 _ _ (by omega), ← wordV_nm]
      rw [ew] at hz
      have sh := shaped_strs (sopp [p, p] (fun u hu => by
        left
        simpa using hu))
      refine ⟨_, rfl, _, rfl, (by show 2 ≤ sizeLine; decide), fun u nu => ?_⟩
      have s6 := Same.new (o := .lst [V.str p.name, V.str p.name]) nu
      refine ⟨_, _, dpw (s6 _ _ hz), dpw (us := [p, p]) upd_same, sh, sh, _, rfl, ?_⟩
      rw [eqv_strsLL]
      refine iteF' rfl ?_
      have s46 := (s4.trans s5).trans s6
      refine ⟨_, rfl, a, da, _, rfl, s46 _ _ (sa _ _ haa), a, b, rs, qs, _, rfl, hL'.same s46, ok.kind, fun H7 s7 => ?_⟩
      have nd : (rs.map (·.name)).Nodup := let ⟨_, _, _, _, _, _, _, _, _, _, z⟩ := hb; z
      have tk_eq : sumW Row.takes (tidyR (evR ds n p m n)) = (loops : Int) := by
        rw [sum_tidy nd ?_ (fun u hu => (so u hu).2), sumOf_exp, ok.ptk, tk_is ok.dk]
        · have : ((n * tk ds : Nat) : Int) = (n : Int) * ((tk ds : Nat) : Int) := Int.natCast_mul _ _
          omega
        · intro u hu
          obtain ⟨r, hr, hur⟩ := expR_mem hu
          exact (rok.2 r hr).2.2 u hur
      refine ⟨_, rfl, rfl, _, rfl, iteF' (by
        show (!decide (V.int (sumW Row.takes (tidyR (evR ds n p m n))) = V.int (loops : Int))) = false
        rw [tk_eq]
        simp) ?_⟩
      refine next_of ?_
      dsimp only
      have s47 := s46.trans s7
      have SH7 := sH.trans s47
      obtain ⟨o, oc, od, ho⟩ := hl.same SH7
      have cle : (nmS ds).count p.name ≤ 3 := Nat.le_trans List.count_le_length (by rw [nmS_len]; exact d3)
      refine ⟨_, rfl, _, rfl, _, _, rfl, rfl, _, rfl, _, rfl, ⟨l, o, _, rfl, ho, oc, od⟩, _, rfl, l, nmS ds, p.name, rfl, rfl, ?_, _, _, rfl, rfl, small_mul (by omega) _, _, _, rfl, rfl, ?_⟩
      · rw [← wordV_nm]
        exact (hl.same SH7).at.st
      refine next_of ?_
      dsimp only
      have hL7 := (hL.same sa).same s47
      refine ⟨_, rfl, a, da, _, rfl, s47 _ _ (sa _ _ haa), rfl, _, rfl, a, b, rs, qs, _, p, rfl, hL7, ok.mem, pok.name, fun H8 s8 => ?_⟩
      have ec : cntR (tidyR (evR ds n p m n)) p.name = m + n * (nmS ds).count p.name := by
        rw [cntR_is, tidy_nm, cnt_exp]
      refine ⟨_, rfl, rfl, _, rfl, ?_⟩
      have e1 : decide (V.int ((cntR (tidyR (evR ds n p m n)) p.name : Nat) : Int) = V.int ((loops : Int) - (need : Int) + (n : Int) * (((nmS ds).count p.name : Nat) : Int))) = true := by
        rw [ec, esub, ← Int.natCast_mul, ← Int.natCast_add]
        simp
      refine iteT' e1 ?_
      refine ⟨_, rfl, a, da, _, rfl, s8 _ _ (s47 _ _ (sa _ _ haa)), a, b, rs, qs, _, rfl, hL7.low.same s8, ok.kind, fun H9 s9 => ?_⟩
      have s49 := (s47.trans s8).trans s9
      have S9 := sH.trans s49
      refine ⟨_, rfl, x, dx, _, rfl, S9 _ _ h1, rfl, _, rfl, x, _, _, _, _, _, rfl, (hx.same S9).prog, ol _, by decide, by decide, fun n2 e2 => ?_, fun e2 => (nomatch hp.symm.trans e2)⟩
      obtain rfl : m = n2 := Option.some.inj (hp.symm.trans e2)
      refine ⟨rfl, _, rfl, ?_⟩
      have mk_eq : sumW Row.makes (tidyR (evR ds n p m n)) = ((n * mk ds + m * 1 : Nat) : Int) := by
        rw [sum_tidy nd ?_ (fun u hu => (so u hu).2), sumOf_exp, ok.pmk, mk_is ok.dk]
        · have : ((n * mk ds : Nat) : Int) = (n : Int) * ((mk ds : Nat) : Int) := Int.natCast_mul _ _
          omega
        · intro u hu
          obtain ⟨r, hr, hur⟩ := expR_mem hu
          exact (rok.2 r hr).2.2 u hur
      have e2' : decide (V.int (sumW Row.makes (tidyR (evR ds n p m n))) = V.int ((n * mk ds + m * 1 : Nat) : Int)) = true := by
        rw [mk_eq]
        simp
      refine iteT' e2' ?_
      refine ⟨_, rfl, a, da, _, rfl, s49 _ _ (sa _ _ haa), rfl, _, rfl, a, da, _, rfl, s49 _ _ (sa _ _ haa), a, b, rs, qs, _, rfl, hL'.same s49, ok.kind, fun H10 s10 => ?_⟩
      have hlast : (lenR (tidyR (evR ds n p m n)) : Int) - 1 = ((lenR (tidyR (evR ds n p m n)) - 1 : Nat) : Int) := by omega
      refine ⟨_, _, rfl, rfl, a, b, rs, qs, _, lenR (tidyR (evR ds n p m n)) - 1, ?_, (hL'.same s49).same s10, ok.kind, by omega, ?_, fun u H11 hu s11 => ?_⟩
      · show [V.ref a, V.int ((lenR (tidyR (evR ds n p m n)) : Int) - 1)] = _
        rw [hlast]
      · exact log_int (log_le (b := m + 100) (by omega) (Nat.lt_trans (log_plus lml (by decide)) (by decide)))
      have eu : u.name = p.name := by
        have h2 := lf_names (rs := rs) (ds := ds) (n := n) (p := p) (m := m) (a := lenR (tidyR (evR ds n p m n)) - 1) (k := 1) gw
        have h3 : (nmS (lfR (tidyR (evR ds n p m n)) (lenR (tidyR (evR ds n p m n)) - 1) 1 []))[0]? = some u.name := by
          rw [nm_at, hu]
          rfl
        rw [h2, exp_due, nmS_app, List.getElem?_take_of_lt (by decide), List.getElem?_drop, List.getElem?_append_right (by rw [nmS_len]; omega), nm_at, List.getElem?_replicate] at h3
        rw [if_pos (by rw [nmS_len]; omega)] at h3
        exact (Option.some.inj h3).symm
      refine ⟨_, rfl, rfl, ?_⟩
      rw [eu, decide_eq_true rfl]
      exact k _ ((S9.trans s10).trans s11)
end
end N

set_option maxHeartbeats 4000000
namespace N
open PySem L2
def XB (p : Addr) (H H' : Hp) : Prop := ∀ b o, H b = some o → b ≠ p → (∀ ps, o ≠ .tbl ps) → H' b = some o
theorem XB.of {p : Addr} {H H' : Hp} (e : But p H H') : XB p H H' := fun b o h n _ => e b o h n
theorem XB.ext {p : Addr} {H H' : Hp} (e : LamX.ExtN H H') : XB p H H' := fun b o h _ n => e b o h n
theorem XB.trans {p : Addr} {H H1 H2 : Hp} (a : XB p H H1) (b : XB p H1 H2) : XB p H H2 := fun c o h n t => b c o (a c o h n t) n t
theorem XB.refl {p : Addr} {H : Hp} : XB p H H := fun _ _ h _ _ => h
theorem lst_tbl {xs : List V} (ps : Array Value) : HO.lst xs ≠ .tbl ps := fun z => by cases z
theorem tabs_but {T : List (Addr × Str)} {p : Addr} {H H' : Hp} (hp : Pot H p) (t : LamX.Tabs T H) (e : But p H H') : LamX.Tabs T H' := fun q hq => by
  obtain ⟨x, y, ep, _⟩ := hp
  obtain ⟨ps, h1, h2, h3⟩ := t q hq
  refine ⟨ps, e _ _ h1 (fun z => by rw [z, ep] at h1; cases h1), h2, fun pos cv hc => ?_⟩
  obtain ⟨c, e1, e2⟩ := h3 pos cv hc
  refine ⟨c, e1, e _ _ e2 fun z => ?_⟩
  rw [z, ep] at e2
  have z2 := Option.some.inj e2
  unfold LamX.CodeO at z2
  cases z2
theorem EvenAt.kf {CE CB C : Addr} {H H' : Hp} {x b : Addr} {rs qs ds : List Row} {n : Nat} {p : Row} (h : EvenAt CE CB C H x b rs qs ds n p) (e : KeepF H H') : EvenAt CE CB C H' x b rs qs ds n p :=
  let ⟨dx, l, c, m, h1, h2, h3, h4, h5, h6⟩ := h; ⟨dx, l, c, m, e _ _ h1 (fun _ z => by cases z), h2.kf e, h3.keep e, h4.keep e, h5.keep e, h6⟩
theorem deed_tk : ∀ ds ∈ deedR, tk ds ≤ 3 := by decide +kernel
structure SitE (CE CB C : Addr) (T : List (Addr × Str)) (q x b l : Addr) (ds : List Row) (n : Nat) (p : Row) (H H' : Hp) : Prop where
  pot : Pot H' q
  even : EvenAt CE CB C H' x b usualK (rowsSorted usualK) ds n p
  deed : FrzT H' l (wordV ds)
  tabs : LamX.Tabs T H'
  xb : XB q H H'
theorem SitE.same {CE CB C : Addr} {T : List (Addr × Str)} {q x b l : Addr} {ds : List Row} {n : Nat} {p : Row} {H H1 H2 : Hp} (S : SitE CE CB C T q x b l ds n p H H1) (e : Same H1 H2) : SitE CE CB C T q x b l ds n p H H2 :=
  ⟨Pot.same S.pot e, S.even.same e, S.deed.same e, LamX.Tabs.ext S.tabs e, S.xb.trans (XB.of (But.same e))⟩
theorem SitE.but {CE CB C : Addr} {T : List (Addr × Str)} {q x b l : Addr} {ds : List Row} {n : Nat} {p : Row} {H H1 H2 : Hp} (S : SitE CE CB C T q x b l ds n p H H1) (hp : Pot H2 q) (e : But q H1 H2) : SitE CE CB C T q x b l ds n p H H2 :=
  ⟨hp, S.even.kf (kf_pot S.pot e), S.deed.keep (kf_pot S.pot e), tabs_but S.pot S.tabs e, S.xb.trans (XB.of e)⟩
def pairD (a b : Int) : PyData := .tuple [.int a, .int b]
theorem pair_shaped (a b : Int) : SeqAt.shaped (pairD a b) = true := by simp [pairD, SeqAt.shaped, PyData.canLay0, PyData.canLayAll0, PyData.depth, PyData.depthAll]
theorem pair_eqv (a b : Int) : PyData.eqv (pairD a b) (pairD a b) = true := by simp [pairD, PyData.eqv, PyData.eqvAll]
theorem dp_pair {K : PySem.W.Frag} {H : Hp} {c : Addr} {a b : Int} (h : SqT K H c [.int a, .int b]) : Dp K H (.ref c) (pairD a b) := .tup h (.cons (.int _) (.cons (.int _) .nil))
def spRight (T : List (Addr × Str)) : Sp := fun vs H Q _ => ∃ p : Addr, vs = [.ref p] ∧ Pot H p ∧ LamX.Tabs T H ∧ ∀ H', Pot H' p → XB p H H' → LamX.Tabs T H' → Q (.bl true) H'
section
variable {P : Program} {w : World} {K : PySem.W.Frag} {mg : Str → Option Value} {base : Heap} {C CB CE CF CL : Addr} {Cs : Nat → Addr}
abbrev s__law_right : Stmt := top 80
theorem sc__law_right : FnScope ["_law_pot_here", "_law_book", "_law_deed", "_law_times", "_law_plain", "_law_text", "_law_need", "_law_makes", "_law_loops", "_law_far"] ["_law_pot_here"] (defScope s__law_right) := ⟨rfl, rfl, rfl, by decide +kernel, rfl, by decide +kernel, by decide +kernel⟩
theorem h_law_right {T : List (Addr × Str)} {mc : Value} {pU gU : Addr} (B : Blts mg) (U : BookT K mg CB) (TE : EvenT K mg CE) (F : FunAt K mg "_law_right" "_law_right" s__law_right) (CR : ClX.CRead K CB mc) (CM : ClX.CMet K CB mc "usual" pU gU) (FU : FnR P w K mg base CX0 8 gU (spUsual CB C T))
    (hEven4 : HasK P w K mg base "Evenly" CE 5 ["self", "book", "deed", "times", "plain"] (spEInit CE CB C) []) (m_taken : HasMK P w K mg base CB "taken" 3 "self" "word" (spSum CB C Row.takes)) (m_made : HasMK P w K mg base CB "made" 4 "self" "word" (spSum CB C Row.makes)) (m_counts : HasM P w K mg base CE "counts" 1 ["self"] (spCounts CE)) (m_made_counts : HasM P w K mg base CE "made_counts" 1 ["self"] (spMadeC CE)) (m_slope : HasM P w K mg base CE "slope" 3 ["self"] (spSlopeOf CE)) (m_tmade : HasMX P w K mg base CE "made" 6 ["self", "loops"] (spMadeOf CE CF))
    (h_law_draw : Has P w K mg base "_law_draw" 1 ["_law_pot_here", "_law_many"] spDraw) (h_law_pick : Has P w K mg base "_law_pick" 2 ["_law_pot_here", "_law_some"] (spPick K)) (h_law_drawn : Has P w K mg base "_law_drawn" 3 ["_law_pot_here"] spDrawn) (h_law_small_right : Has P w K mg base "_law_small_right" 9 ["_law_text", "_law_deed", "_law_times", "_law_plain", "_law_need", "_law_loops"] (spSmall CE CB C)) (h_law_far_right : Has P w K mg base "_law_far_right" 9 ["_law_text", "_law_deed", "_law_times", "_law_plain", "_law_need", "_law_loops"] (spFar CE CB C)) :
    Has P w K mg base "_law_right" 11 ["_law_pot_here"] (spRight T) := by
  refine has_of F sc__law_right (fun _ _ _ _ _ _ us hl => match us, hl with | [_], _ => rfl) (fun vs H Q E h => ?_) (fun f cdv A outer s H vs Q E hr h => ?_)
  · obtain ⟨_, rfl, _⟩ := h
    rfl
  · obtain ⟨q, rfl, hq, hT, k⟩ := h
    refine ⟨_, (pss_cons (ps_asg (pe_tup (pa_cons (pe_cmeth0 (pe_glob (v := .ref CB) rfl U.g rfl) CR CM FU (hr.mono (by decide)) pass0) (pa_cons (pe_has h_law_drawn (hr.mono (by decide)) (pa_cons (pv 0) pa_nil)) pa_nil))) (pg_tup rfl (pgs_cons (pg_name (i := 1) sc__law_right.nd rfl (Or.inl rfl)) (pgs_cons (pg_tup rfl (pgs_cons (pg_name (i := 2) sc__law_right.nd rfl (Or.inl rfl)) (pgs_cons (pg_name (i := 3) sc__law_right.nd rfl (Or.inl rfl)) (pgs_cons (pg_name (i := 4) sc__law_right.nd rfl (Or.inl rfl)) pgs_nil)))) pgs_nil))))
      (pss_cons (ps_set (i := 5) sc__law_right.nd rfl (Or.inl rfl) (pe_hasK hEven4 (hr.mono (by decide)) (pa_cons (pv 1) (pa_cons (pv 2) (pa_cons (pv 3) (pa_cons (pv 4) pa_nil))))))
      (pss_cons (ps_par (i := 6) (j := 7) (by rfl) sc__law_right.nd rfl rfl (by decide) rfl rfl (pa_cons (pe_op op_mul (pv 3) (pe_hasM m_taken.m U.cl (hr.mono (by decide)) (pv 1) (pa_cons (pv 2) pa_nil))) (pa_cons (pe_op op_mul (pv 3) (pe_hasM m_made.m U.cl (hr.mono (by decide)) (pv 1) (pa_cons (pv 2) pa_nil))) pa_nil)) (by rfl))
      (pss_cons (ps_if (PW.pt (pw_or (pt_cmpR (op_neD hr.units) (pe_hasM0 m_counts TE.cl (hr.mono (by decide)) (pv 5)) (pe_tup (pa_cons (pv 6) (pa_cons pe_int pa_nil))) (by first | exact nomark _ | rfl)) (pw_or (pt_cmpR (op_neD hr.units) (pe_hasM0 m_made_counts TE.cl (hr.mono (by decide)) (pv 5)) (pe_tup (pa_cons (pv 7) (pa_cons pe_int pa_nil))) (by first | exact nomark _ | rfl)) (pw_or1 (pt_cmpR (op_neD hr.units) (pe_hasM0 m_slope TE.cl (hr.mono (by decide)) (pv 5)) (pe_tup (pa_cons pe_int (pa_cons pe_int pa_nil))) (by first | exact nomark _ | rfl)))))) (pss_one (ps_ret pe_bl))
        pss_nil)
      (pss_cons (ps_for PassesOwn.never rfl (pi_list (pe_callB cr_sorted (by rfl) B.n_sorted (by decide +kernel) (pa_cons (pe_lst (pa_cons (pe_has h_law_draw (hr.mono (by decide)) (pa_cons (pv 0) (pa_cons pe_int pa_nil))) (pa_cons (pe_has h_law_draw (hr.mono (by decide)) (pa_cons (pv 0) (pa_cons pe_int pa_nil))) (pa_cons (pv 6) (pa_cons (pe_callB (call_max2 rfl) (by rfl) B.n_max (by decide +kernel) (pa_cons pe_int (pa_cons (pe_op op_sub (pv 6) pe_int) pa_nil))) pa_nil))))) pa_nil))) (pg_name (i := 8) sc__law_right.nd rfl (Or.inl rfl))
        (pss_cons (ps_if (pt_not (pt_val (pe_has h_law_small_right (hr.mono (by decide)) (pa_cons (pv 5) (pa_cons (pv 2) (pa_cons (pv 3) (pa_cons (pv 4) (pa_cons (pv 6) (pa_cons (pv 8) pa_nil))))))))) (pss_one (ps_ret pe_bl))
          pss_nil)
        (pss_one (ps_if (PW.pt (pw_and (pt_cmpR op_ge (pv 8) (pv 6) (by first | exact nomark _ | rfl)) (pw_and1 (pt_cmpR op_ne (pe_hasMX m_tmade TE.cl (hr.mono (by decide)) passL (pv 5) (pa_cons (pv 8) pa_nil)) (pe_op op_sub (pe_op op_add (pv 7) (pv 8)) (pv 6)) (by first | exact nomark _ | rfl))))) (pss_one (ps_ret pe_bl))
          pss_nil))))
      (pss_cons (ps_set (i := 9) sc__law_right.nd rfl (Or.inl rfl) (pe_op op_add (pe_op op_add (pe_op op_add (pv 6) pe_int) (pe_has h_law_draw (hr.mono (by decide)) (pa_cons (pv 0) (pa_cons pe_int pa_nil)))) (pe_op op_mul (pe_has h_law_draw (hr.mono (by decide)) (pa_cons (pv 0) (pa_cons pe_int pa_nil))) (pe_has h_law_pick (hr.mono (by decide)) (pa_cons (pv 0) (pa_cons (pe_lst (pa_cons pe_int (pa_cons (pe_op op_pow pe_int pe_int) (pa_cons (pe_op op_pow pe_int pe_int) pa_nil)))) pa_nil))))))
      (pss_one (ps_ret (pe_has h_law_far_right (hr.mono (by decide)) (pa_cons (pv 5) (pa_cons (pv 2) (pa_cons (pv 3) (pa_cons (pv 4) (pa_cons (pv 6) (pa_cons (pv 9) pa_nil))))))))))))))), ?_⟩
    refine ⟨rfl, rfl, hT, fun b H1 nb x1 T1 hb1 => ?_⟩
    have hq1 : Pot H1 q := let ⟨a, c, e, z⟩ := hq; ⟨a, c, x1 _ _ e (fun _ z => by cases z), z⟩
    refine ⟨_, rfl, q, rfl, hq1, fun tt l ds n p H2 hds n1 n12 hp ntt htt hl hq2 b2 => ?_⟩
    refine ⟨(by show 2 ≤ sizeLine; decide), fun t nt => ?_⟩
    have s3 := Same.new (o := .tup [V.ref b, V.ref tt]) nt
    have hb2 : BookAt CB C H2 b usualK (rowsSorted usualK) := hb1.kf (kf_pot hq1 b2)
    have T2 := tabs_but hq1 T1 b2
    refine ⟨t, _, rfl, SqT.of upd_same, rfl, _, _, rfl, _, _, rfl, tt, _, rfl, SqT.of (s3 _ _ htt), rfl, _, _, rfl, _, _, rfl, _, _, rfl, rfl, rfl, ?_⟩
    refine next_of ?_
    dsimp only
    have hq3 := Pot.same hq2 s3
    have hb3 := hb2.same s3
    have hl3 := hl.same s3
    have T3 := LamX.Tabs.ext T2 s3
    have X3 : XB q H (upd H2 t (.tup [.ref b, .ref tt])) := (XB.ext x1).trans (XB.of (b2.trans (But.same s3)))
    generalize upd H2 t (.tup [.ref b, .ref tt]) = H3 at *
    obtain ⟨dne, dl3, dmem⟩ := deed_ok ds hds
    obtain ⟨pmem, ptk, pmk⟩ := plain_ok p hp
    have ok : EvenOk usualK ds n p := ⟨⟨by omega, dmem⟩, dne, n1, n12, pmem, ptk, pmk, usual_ok⟩
    refine ⟨_, rfl, _, rfl, _, rfl, _, rfl, fun x dx nx ndx ne => ?_⟩
    have so := made_odd (C := CE) nx ndx ne
    refine ⟨x, dx, b, l, usualK, rowsSorted usualK, ds, n, p, H3, rfl, upd_same, nx, so, hb3, hl3, ok, fun H4 s4 hE => ⟨rfl, ?_⟩⟩
    have S4 : SitE CE CB C T q x b l ds n p H H4 := ⟨Pot.same hq3 s4, hE, hl3.same s4, LamX.Tabs.ext T3 s4, X3.trans (XB.of (But.same s4))⟩
    clear hE hq3 hb3 hl3 T3 X3 s4 so
    refine next_of ?_
    dsimp only
    obtain ⟨dx5, ld, c, m', h1, hb, hld, hc, hm, _⟩ := id S4.even
    obtain ⟨db, _, _, _, _, hbi, _⟩ := id hb
    refine ⟨_, rfl, _, rfl, b, db, _, rfl, hbi, rfl, _, rfl, b, l, usualK, rowsSorted usualK, ds, rfl, hb, S4.deed.at, ok.word, fun H5 s5 => ?_⟩
    refine ⟨_, _, rfl, rfl, small_mul (by omega) _, ?_⟩
    refine ⟨_, rfl, _, rfl, b, db, _, rfl, s5 _ _ hbi, rfl, _, rfl, b, l, usualK, rowsSorted usualK, ds, rfl, hb.same s5, (S4.deed.same s5).at, ok.word, fun H6 s6 => ?_⟩
    refine ⟨_, _, rfl, rfl, small_mul (by omega) _, _, _, rfl, ?_⟩
    dsimp only
    rw [tk_is ok.dk, mk_is ok.dk, ← Int.natCast_mul, ← Int.natCast_mul]
    obtain ⟨need, en⟩ : ∃ z, z = n * tk ds := ⟨_, rfl⟩
    obtain ⟨maks, em⟩ : ∃ z, z = n * mk ds := ⟨_, rfl⟩
    rw [← en, ← em]
    have n36 : need ≤ 36 := by rw [en]; exact Nat.le_trans (Nat.mul_le_mul n12 (deed_tk ds hds)) (by decide)
    have S6 := (S4.same s5).same s6
    have hp6 : ProgAt CE H6 x need 1 maks 1 := by
      rw [en, em]
      exact S6.even.prog
    have h16 := s6 _ _ (s5 _ _ h1)
    refine ⟨_, rfl, x, dx5, _, rfl, h16, rfl, x, need, 1, maks, 1, rfl, hp6, fun c1 hc1 => ⟨_, rfl, (by show 2 ≤ sizeLine; decide), fun t1 nt1 => ?_⟩⟩
    have s7 := Same.new (o := .tup [V.int (need : Nat), V.int 1]) nt1
    refine ⟨pairD (need : Nat) 1, pairD (need : Nat) 1, dp_pair (hc1.same s7).st, dp_pair (SqT.of upd_same), pair_shaped _ _, pair_shaped _ _, _, rfl, ?_⟩
    rw [pair_eqv]
    refine iteF' rfl ?_
    refine ⟨_, rfl, x, dx5, _, rfl, s7 _ _ h16, rfl, x, need, 1, maks, 1, rfl, hp6.same s7, fun c2 hc2 => ⟨_, rfl, (by show 2 ≤ sizeLine; decide), fun t2 nt2 => ?_⟩⟩
    have s8 := Same.new (o := .tup [V.int (maks : Nat), V.int 1]) nt2
    refine ⟨pairD (maks : Nat) 1, pairD (maks : Nat) 1, dp_pair (hc2.same s8).st, dp_pair (SqT.of upd_same), pair_shaped _ _, pair_shaped _ _, _, rfl, ?_⟩
    rw [pair_eqv]
    refine iteF' rfl ?_
    have s78 := s7.trans s8
    refine ⟨_, rfl, x, dx5, _, rfl, s78 _ _ h16, rfl, x, need, 1, maks, 1, rfl, hp6.same s78, by decide, fun t3 nt3 => ⟨(by show 2 ≤ sizeLine; decide), fun t4 nt4 => ?_⟩⟩
    have s9 := Same.new (o := .tup [V.int ((slopeR 1 1).1 : Nat), V.int ((slopeR 1 1).2 : Nat)]) nt3
    have s10 := Same.new (o := .tup [V.int 1, V.int 1]) nt4
    refine ⟨pairD 1 1, pairD 1 1, dp_pair (SqT.of (s10 _ _ upd_same)), dp_pair (SqT.of upd_same), pair_shaped _ _, pair_shaped _ _, _, rfl, ?_⟩
    rw [pair_eqv]
    refine iteF' rfl ?_
    have s610 := (s78.trans s9).trans s10
    have S10 := S6.same s610
    have hp10 := hp6.same s610
    have h110 := s610 _ _ h16
    generalize upd (upd (upd (upd H6 t1 _) t2 _) t3 _) t4 _ = H10 at *
    clear s7 s8 s78 s9 s10 hc1 hc2 nt1 nt2 nt3 nt4
    refine next_of ?_
    dsimp only
    refine ⟨_, rfl, q, 61, rfl, S10.pot, by decide, by decide, fun d1 H11 d10 d1l hq11 b11 => ?_⟩
    have S11 := S10.but hq11 b11
    refine ⟨_, rfl, q, 61, rfl, hq11, by decide, by decide, fun d2 H12 d20 d2l hq12 b12 => ?_⟩
    have S12 := S11.but hq12 b12
    refine ⟨_, rfl, _, rfl, _, _, rfl, rfl, _, _, rfl, (by show 4 ≤ sizeLine; decide), fun l1 nl1 => ?_⟩
    have s13 := Same.new (o := .lst [V.int d1, V.int d2, V.int (need : Nat), V.int (if ((need : Nat) : Int) - 1 > 0 then ((need : Nat) : Int) - 1 else 0)]) nl1
    refine ⟨l1, [d1, d2, ((need : Nat) : Int), if ((need : Nat) : Int) - 1 > 0 then ((need : Nat) : Int) - 1 else 0], rfl, SqL.of upd_same, (by show 4 < 64; decide), fun ns' l2 pm _ nl2 => ?_⟩
    have s14 := Same.new (o := .lst (ns'.map V.int)) nl2
    have S14 := (S12.same s13).same s14
    have hl2 : (upd (upd H12 l1 (.lst [V.int d1, V.int d2, V.int (need : Nat), V.int (if ((need : Nat) : Int) - 1 > 0 then ((need : Nat) : Int) - 1 else 0)])) l2 (.lst (ns'.map V.int))) l2 = some (.lst (ns'.map V.int)) := upd_same
    generalize upd (upd H12 l1 _) l2 _ = H14 at *
    clear s13 s14
    have small : ∀ z ∈ ns', 0 ≤ z ∧ z ≤ 60 := by
      intro z hz
      have hz' := pm.mem_iff.mp hz
      simp only [List.mem_cons, List.mem_nil_iff, or_false] at hz'
      rcases hz' with rfl | rfl | rfl | rfl
      · exact ⟨d10, by omega⟩
      · exact ⟨d20, by omega⟩
      · exact ⟨by omega, by omega⟩
      · split <;> omega
    refine ⟨l2, rfl, ⟨_, SqL.of hl2⟩, for_list (K := K) (a := l2) (xs := ns'.map V.int) (fun i σ H' => ∃ v8 : Option V, σ = [some (.ref q), some (.ref b), some (.ref l), some (.int (n : Nat)), some (.str p.name), some (.ref x), some (.int (need : Nat)), some (.int (maks : Nat)), v8, none] ∧ Same H14 H') ⟨none, rfl, Same.refl _⟩ (fun i σ H' _ h => ?_) (fun i y σ H' hx' h => ?_) (fun σ H' h => ?_)⟩
    · obtain ⟨_, _, e⟩ := h
      exact SqL.of (e _ _ hl2)
    · obtain ⟨v8, rfl, e⟩ := h
      obtain ⟨z, hz, rfl⟩ := map_at hx'
      obtain ⟨z0, z60⟩ := small z (List.mem_of_getElem? hz)
      obtain ⟨m, rfl⟩ := Int.eq_ofNat_of_zero_le z0
      have m60 : m ≤ 60 := by omega
      have S := S14.same e
      refine gname_of ?_
      dsimp only
      refine ⟨_, rfl, _, rfl, _, rfl, _, rfl, _, rfl, _, rfl, x, b, l, usualK, rowsSorted usualK, ds, n, p, need, m, rfl, S.even, S.deed, dl3, en, by omega, fun H15 s15 => ⟨_, rfl, iteF ?_⟩⟩
      have S15 := S.same s15
      have hp15 : ProgAt CE H15 x need 1 maks 1 := by
        rw [en, em]
        exact S15.even.prog
      obtain ⟨dx9, _, _, _, h19, _⟩ := id S15.even
      refine next_of ?_
      dsimp only
      refine ⟨_, rfl, _, rfl, _, _, rfl, rfl, _, rfl, ite2 (fun cc => ?_) (fun cc => ?_)⟩
      · have hge : need ≤ m := by have := of_decide_eq_true cc; omega
        have hpl := placeR_one hge
        refine ⟨_, rfl, x, dx9, _, rfl, h19, rfl, _, rfl, x, need, 1, maks, 1, _, rfl, hp15, .int _ (log_int (log_le m60 (by decide))), by decide, by decide, fun n2 e2 => ?_, fun e2 => (nomatch hpl.symm.trans e2)⟩
        obtain rfl : m - need = n2 := Option.some.inj (hpl.symm.trans e2)
        refine ⟨_, rfl, _, rfl, _, _, rfl, rfl, _, rfl, _, _, rfl, rfl, rfl, _, rfl, ?_⟩
        have e3 : (!decide (V.int ((maks + (m - need) * 1 : Nat) : Int) = V.int ((maks : Int) + (m : Int) - (need : Int)))) = false := by
          have : ((maks + (m - need) * 1 : Nat) : Int) = (maks : Int) + (m : Int) - (need : Int) := by omega
          rw [this]
          simp
        refine iteF' e3 ?_
        exact next_of ⟨_, rfl, e.trans s15⟩
      · exact iteF (next_of ⟨_, rfl, e.trans s15⟩)
    · obtain ⟨v8, rfl, e⟩ := h
      have S := S14.same e
      refine next_of ?_
      dsimp only
      refine ⟨_, rfl, _, _, rfl, rfl, _, rfl, q, 1000, rfl, S.pot, by decide, by decide, fun e1 H16 e10 e1l hq16 b16 => ?_⟩
      have S16 := S.but hq16 b16
      refine ⟨_, _, rfl, rfl, _, rfl, q, 1000, rfl, hq16, by decide, by decide, fun e2 H17 e20 e2l hq17 b17 => ?_⟩
      have S17 := S16.but hq17 b17
      refine ⟨_, rfl, _, _, rfl, rfl, ⟨by decide, by decide, by decide⟩, _, _, rfl, rfl, ⟨by decide, by decide, by decide⟩, (by show 3 ≤ sizeLine; decide), fun l3 nl3 => ?_⟩
      have s18 := Same.new (o := .lst [V.int 1000, V.int (10 ^ 12), V.int (10 ^ 24)]) nl3
      have S18 := S17.same s18
      refine ⟨q, l3, [V.int 1000, V.int (10 ^ 12), V.int (10 ^ 24)], rfl, S18.pot, SqL.of upd_same, Pot.ne S17.pot nl3, by simp, by simp, fun v H19 hv hq19 b19 => ?_⟩
      have S19 := S18.but hq19 b19
      have hz : ∃ z : Nat, v = .int (z : Nat) ∧ z ≤ 10 ^ 24 := by
        simp only [List.mem_cons, List.mem_nil_iff, or_false] at hv
        rcases hv with rfl | rfl | rfl
        · exact ⟨1000, rfl, by decide⟩
        · exact ⟨10 ^ 12, rfl, by decide⟩
        · exact ⟨10 ^ 24, rfl, by decide⟩
      obtain ⟨z, rfl, hz⟩ := hz
      obtain ⟨m1, rfl⟩ := Int.eq_ofNat_of_zero_le e10
      obtain ⟨m2, rfl⟩ := Int.eq_ofNat_of_zero_le e20
      refine ⟨_, _, rfl, rfl, small_mul (by omega) _, _, _, rfl, rfl, ?_⟩
      refine next_of ?_
      dsimp only
      obtain ⟨loops, el⟩ : ∃ loops, loops = need + 100 + m1 + m2 * z := ⟨_, rfl⟩
      have e9 : ((need : Int) + 100 + (m1 : Int) + (m2 : Int) * (z : Int)) = ((loops : Nat) : Int) := by
        rw [el, Int.natCast_add, Int.natCast_add, Int.natCast_add, Int.natCast_mul]
        rfl
      rw [e9]
      have lz : m2 * z ≤ 1000 * 10 ^ 24 := Nat.mul_le_mul (by omega) hz
      have ll : loops ≤ 10 ^ 28 := by
        have : (1000 * 10 ^ 24 + 2000 : Nat) ≤ 10 ^ 28 := by decide
        omega
      refine ⟨_, rfl, _, rfl, _, rfl, _, rfl, _, rfl, _, rfl, x, b, l, usualK, rowsSorted usualK, ds, n, p, need, loops, rfl, S19.even, S19.deed, dl3, en, by omega, ?_, fun H20 s20 => ?_⟩
      · exact Nat.lt_of_le_of_lt (Nat.le_of_lt_succ ((Nat.log2_lt (by omega)).mpr (Nat.lt_of_le_of_lt ll (by decide : 10 ^ 28 < 2 ^ 101)))) (by decide)
      · have S20 := S19.same s20
        exact k _ S20.pot S20.xb S20.tabs
end
end N

set_option maxHeartbeats 4000000
/-! a def whose code object has a table -/
namespace L2
open PySem PySem.Spec PyProof.Rows
structure FunAtC (K : PySem.W.Frag) (mg : Str → Option Value) (x qual : Str) (st : Stmt) (c : Addr) : Prop where
  ex : ∃ (f : Addr) (oc : Value) (od : Option Addr) (kV doc pm : Value) (an : Option Addr) (ct : Value) (osl : Array (Option Value)), mg x = some (.ref f) ∧
    K.lookup f = some ⟨oc, od, .func (PySem.W.fnOf x qual (defArgs st) (defBody st) (defScope st) .none kV doc pm an (.ref c) ct), osl⟩ ∧ PySem.W.codeIn K (.ref c) qual = true ∧ PySem.W.keepIn K (.ref f) = true
section
variable {P : Program} {w : World} {K : PySem.W.Frag} {mg : Str → Option Value} {base : Heap}
theorem hasGC_of {x qual : Str} {st : Stmt} {c : Addr} {N ps : List Str} {k : Nat} {sp : Sp} (F : FunAtC K mg x qual st c) (S : FnScope N ps (defScope st))
    (hb : ∀ (kV doc pm : Value) (an : Option Addr) (cdv ct : Value) (us : List Value), us.length = ps.length → bindArgs (PySem.W.fnOf x qual (defArgs st) (defBody st) (defScope st) .none kV doc pm an cdv ct) ⟨us, []⟩ = pure (ps.zip us))
    (len : ∀ vs H Q E, sp vs H Q E → vs.length = ps.length)
    (body : ∀ (f : Addr) (A : Around) (outer : List Env) (s : Shared) (H : Hp) (vs : List V) (Q : VK) (E : XK),
      Calm (A.deeper (envOfC qual (defScope st) s.heap.objs.size f (.ref c))) → Room k (A.deeper (envOfC qual (defScope st) s.heap.objs.size f (.ref c))) → sp vs H Q E →
      ∃ t, PSs (cxOf CX0 P w K mg base N qual (defScope st) f (.ref c) A outer s H E).nox (defBody st) t ∧ t { nx := fun _ H' => Q .non H', rt := Q } (start N vs) H) :
    HasG P w K mg base x (k + 1) ps sp := by
  obtain ⟨f, oc, od, kV, doc, pm, an, ct, osl, hm, lk, hcd, hk⟩ := F.ex
  refine ⟨f, _, hm, hk, .all (hb kV doc pm an (.ref c) ct), len, fun A outer s H args us vs Q E hr hG e0 hbd r hsp => ?_⟩
  have KX : K.In s.heap := e0.mod.kin.keeps fun b o e => (e0.bs b o e).1
  have nl : s.heap.NoLimit := e0.mod.nolimit.keeps fun b o e => (e0.bs b o e).1
  have kinds : ∀ y ∈ ps.zip us, (defScope st).names.lookup y.1 = some .local ∨ ((defScope st).names.lookup y.1 = some .cell ∧ ((cellsFrom (s.heap.objs.size + 1) (defScope st).names []).lookup y.1).isSome = true) := by
    rintro ⟨n, v⟩ hy
    exact (S.par n (List.of_mem_zip hy).1).imp id fun q => ⟨q, PySem.W.cellsFrom_some _ _ _ (.inl q)⟩
  refine codeAny_call_function hr.depth (KX _ _ lk) rfl S.co S.gen rfl (PySem.W.codeRec_of KX hcd) (hbd _ _ _ _ (wpAny_newFunctionEnv_cells S.kind kinds fun env he s1 x => ?_))
  cases he
  obtain ⟨t, ht, hq⟩ := body f A outer s H vs Q E hG (hr.deeper _) hsp
  have I := inv_start (CX := CX0) (P := P) (w := w) (K := K) (mg := mg) (base := base) (qual := qual) (cd := .ref c) (E := E) S hr.hd e0 (len _ _ _ _ hsp) r x
  refine ⟨nl.keeps x.toInCall.keep, codeAny_func (wpAny_mono (ht.nox.run [] s1 (start N vs) H _ I hq) (fun fl s' hs => ?_) fun _ _ z => z)⟩
  have fin : ∀ {σ' : St} {H' : Hp} {v : V} {u : Value}, Inv (cxOf CX0 P w K mg base N qual (defScope st) f (.ref c) A outer s H E) [] σ' H' s' → RelV v u → Q v H' → CE outer P w H s Q u s' :=
    fun J rv q => ⟨_, _, J.os, J.bare, J.base, J.hok, rv, q⟩
  match fl, hs with
  | .ret u, ⟨v, σ', H', J, rv, q⟩ => exact fin J rv q
  | .next, ⟨σ', H', J, q⟩ => exact fin (v := V.non) (u := Value.none) J rfl q
  | .brk, ⟨_, _, _, q⟩ => exact q.elim
  | .cont, ⟨_, _, _, q⟩ => exact q.elim
end
end L2

set_option maxHeartbeats 8000000
namespace L2
open PySem PySem.Spec PyProof.Rows
section
variable {K : PySem.W.Frag} {mg : Str → Option Value} {h : Heap}
/-- a def with keyword-only defaults -/
theorem funK_mk {x qual : Str} {st : Stmt} {f D : Addr} {kws : List (Str × V)} {oc : Value} {od an : Option Addr} {osl : Array (Option Value)} {doc pm cdv ct : Value}
    (l : K.lookup f = some ⟨oc, od, .func (PySem.W.fnOf x qual (defArgs st) (defBody st) (defScope st) .none (.ref D) doc pm an cdv ct), osl⟩) (c : PySem.W.codeIn K cdv qual = true) (k : PySem.W.keepIn K (.ref f) = true)
    (d : ∀ q ∈ kws, ∃ u, PySem.W.nsIn K D q.1 = some (some u) ∧ RelV q.2 u) : FunD K x qual (defArgs st) (defBody st) (defScope st) [] kws f (PySem.W.fnOf x qual (defArgs st) (defBody st) (defScope st) .none (.ref D) doc pm an cdv ct) :=
  ⟨⟨oc, od, .none, .ref D, doc, pm, an, cdv, ct, osl, rfl, l, c, .inl ⟨rfl, rfl⟩, .inr ⟨D, rfl, d⟩⟩, k⟩
theorem funAtC_mk {x qual : Str} {st : Stmt} {f c : Addr} {oc : Value} {od an : Option Addr} {osl : Array (Option Value)} {kV doc pm ct : Value} (X : K.In h) (G : h.Ns mainGlobals mg) (a : PySem.W.nsIn K mainGlobals x = some (some (.ref f)))
    (l : K.lookup f = some ⟨oc, od, .func (PySem.W.fnOf x qual (defArgs st) (defBody st) (defScope st) .none kV doc pm an (.ref c) ct), osl⟩) (cd : PySem.W.codeIn K (.ref c) qual = true) (k : PySem.W.keepIn K (.ref f) = true) : FunAtC K mg x qual st c :=
  ⟨f, oc, od, kV, doc, pm, an, ct, osl, PySem.W.mg_of X G a, l, cd, k⟩
/-- an own error with one field -/
theorem errC_mk {x f qual : Str} {C fI N : Addr} {st : Stmt} {nm q : Str} {bs bm : List Value} {sn : List Str} {sub : List Value} {ab : Bool} {col : Option Bool} {dd : Option Addr} {k0 k1 k2 k3 k5 : Option Value}
    {od an : Option Addr} {sl : Array (Option Value)} {oc kV dc pm cd ct : Value} (X : K.In h) (G : h.Ns mainGlobals mg)
    (aC : PySem.W.nsIn K mainGlobals x = some (some (.ref C)))
    (xL : K.lookup C = some (excClassObj nm q C N bs bm true sn sub ab col dd k0 k1 k2 k3 k5 "ValueError.__new__")) (rf : PySem.HandSPX.refsVE bm = true)
    (sa : PySem.W.findIn K (.ref C) "__setattr__" = some (some (.builtin "object.__setattr__"))) (ga : PySem.W.findIn K (.ref C) "__getattribute__" = some (some (.builtin "BaseException.__getattribute__"))) (gg : PySem.W.findIn K (.ref C) "__getattr__" = some none) (nb : PySem.W.findIn K (.ref C) f = some none)
    (kC : PySem.W.keepIn K (.ref C) = true) (eC : PySem.W.subIn K (.ref C) (.type "BaseException") = some true) (tC : PySem.W.typeIn K (.ref C) = some (.type "type")) (hC : PySem.W.hasDictIn K C = true)
    (a1 : PySem.W.findIn K (.ref C) "__init__" = some (some (.ref fI))) (t1 : PySem.W.typeIn K (.ref fI) = some (.type "function"))
    (l : K.lookup fI = some ⟨oc, od, .func (PySem.W.fnOf "__init__" qual (defArgs st) (defBody st) (defScope st) .none kV dc pm an cd ct), sl⟩) (c : PySem.W.codeIn K cd qual = true) (k : PySem.W.keepIn K (.ref fI) = true) : ErrC K mg x f C st qual :=
  ⟨⟨⟨_, _, _, _, _, _, _, _, _, _, _, _, _, _, _, xL, rf⟩, sa, eC, tC, kC⟩, ⟨ga, gg, eC, hC⟩, PySem.W.mg_of X G aC, nb, fI, _, a1, t1, fun_mk l c k⟩
/-- is an error of the class at A what «except D» names -/
theorem exm_mk {A D : Addr} {b : Bool} (h1 : PySem.W.subIn K (.ref D) (.type "BaseException") = some true) (h2 : PySem.W.isClsIn K D = true) (h3 : PySem.W.typeIn K (.ref D) = some (.type "type")) (h4 : PySem.W.subIn K (.ref A) (.ref D) = some b) :
    PySem.W.exmOne K (.ref A) (.ref D) = some b := by
  have e1 : (PySem.W.subIn K (.ref D) (.type "BaseException") == some true) = true := by rw [h1] <;> rfl
  have e2 : ((PySem.W.clsIn K D).isSome && PySem.W.typeIn K (.ref D) == some (.type "type")) = true := by
    have h2' : (PySem.W.clsIn K D).isSome = true := h2
    rw [h2', h3] <;> rfl
  show (if (PySem.W.subIn K (.ref D) (.type "BaseException") == some true) = true then (if ((PySem.W.clsIn K D).isSome && PySem.W.typeIn K (.ref D) == some (.type "type")) = true then PySem.W.subIn K (.ref A) (.ref D) else none) else none) = some b
  rw [if_pos e1, if_pos e2]
  exact h4
end
end L2
namespace N
open PySem PySem.Spec PyProof.Rows L2
section
variable {K : PySem.W.Frag} {mg : Str → Option Value} {h : Heap}
/-- an own error over LookupError with one field -/
theorem noC_mk {x qual : Str} {C fI N : Addr} {st : Stmt} {nm q : Str} {bs bm : List Value} {sn : List Str} {sub : List Value} {ab : Bool} {col : Option Bool} {dd : Option Addr} {k0 k1 k2 k3 k5 : Option Value}
    {od an : Option Addr} {sl : Array (Option Value)} {oc kV dc pm cd ct : Value} (X : K.In h) (G : h.Ns mainGlobals mg)
    (aC : PySem.W.nsIn K mainGlobals x = some (some (.ref C)))
    (xL : K.lookup C = some (excClassObj nm q C N bs bm true sn sub ab col dd k0 k1 k2 k3 k5 "LookupError.__new__")) (rf : PySem.W.excTail lkT bm = true)
    (sa : PySem.W.findIn K (.ref C) "__setattr__" = some (some (.builtin "object.__setattr__"))) (ga : PySem.W.findIn K (.ref C) "__getattribute__" = some (some (.builtin "BaseException.__getattribute__"))) (gg : PySem.W.findIn K (.ref C) "__getattr__" = some none) (nb : PySem.W.findIn K (.ref C) "name" = some none)
    (kC : PySem.W.keepIn K (.ref C) = true) (eC : PySem.W.subIn K (.ref C) (.type "BaseException") = some true) (tC : PySem.W.typeIn K (.ref C) = some (.type "type")) (hC : PySem.W.hasDictIn K C = true)
    (a1 : PySem.W.findIn K (.ref C) "__init__" = some (some (.ref fI))) (t1 : PySem.W.typeIn K (.ref fI) = some (.type "function"))
    (l : K.lookup fI = some ⟨oc, od, .func (PySem.W.fnOf "__init__" qual (defArgs st) (defBody st) (defScope st) .none kV dc pm an cd ct), sl⟩) (c : PySem.W.codeIn K cd qual = true) (k : PySem.W.keepIn K (.ref fI) = true) : NoC K mg x C st qual :=
  ⟨⟨⟨⟨_, _, _, _, _, _, _, _, _, _, _, _, _, _, _, xL, rf⟩, sa, eC, tC, kC, F.store_LookupError, F.excBase_LookupError⟩, ⟨ga, gg, eC, hC⟩, PySem.W.mg_of X G aC, fI, _, a1, t1, fun_mk l c k⟩, nb⟩
theorem initAtC_mk {CB f c : Addr} {qual : Str} {st : Stmt} {oc : Value} {od an : Option Addr} {osl : Array (Option Value)} {kV doc pm ct : Value} (m : PySem.W.makesIn K CB = true) (i : PySem.W.findIn K (.ref CB) "__init__" = some (some (.ref f))) (n : PySem.W.isFn K (.ref f) = true) (k : PySem.W.keepIn K (.ref CB) = true)
    (l : K.lookup f = some ⟨oc, od, .func (PySem.W.fnOf "__init__" qual (defArgs st) (defBody st) (defScope st) .none kV doc pm an (.ref c) ct), osl⟩) (cd : PySem.W.codeIn K (.ref c) qual = true) : InitAtC K CB qual st c :=
  ⟨f, oc, od, kV, doc, pm, an, ct, osl, ⟨m, i, n, k⟩, l, cd⟩
end
end N
namespace N
open PySem PySem.Spec PyProof.Rows L2
section
variable {K : PySem.W.Frag} {mg : Str → Option Value} {h : Heap}
/-- NotFitting -/
theorem fitC_mk {C fI N : Addr} {st : Stmt} {nm q : Str} {bs bm : List Value} {sn : List Str} {sub : List Value} {ab : Bool} {col : Option Bool} {dd : Option Addr} {k0 k1 k2 k3 k5 : Option Value}
    {od an : Option Addr} {sl : Array (Option Value)} {oc kV dc pm cd ct : Value} (X : K.In h) (G : h.Ns mainGlobals mg)
    (aC : PySem.W.nsIn K mainGlobals "NotFitting" = some (some (.ref C)))
    (xL : K.lookup C = some (excClassObj nm q C N bs bm true sn sub ab col dd k0 k1 k2 k3 k5 "RuntimeError.__new__")) (rf : PySem.W.excTail rtT bm = true)
    (sa : PySem.W.findIn K (.ref C) "__setattr__" = some (some (.builtin "object.__setattr__"))) (ga : PySem.W.findIn K (.ref C) "__getattribute__" = some (some (.builtin "BaseException.__getattribute__"))) (gg : PySem.W.findIn K (.ref C) "__getattr__" = some none) (nb : PySem.W.findIn K (.ref C) "section" = some none) (nb2 : PySem.W.findIn K (.ref C) "loops" = some none)
    (kC : PySem.W.keepIn K (.ref C) = true) (eC : PySem.W.subIn K (.ref C) (.type "BaseException") = some true) (tC : PySem.W.typeIn K (.ref C) = some (.type "type")) (hC : PySem.W.hasDictIn K C = true)
    (a1 : PySem.W.findIn K (.ref C) "__init__" = some (some (.ref fI))) (t1 : PySem.W.typeIn K (.ref fI) = some (.type "function"))
    (l : K.lookup fI = some ⟨oc, od, .func (PySem.W.fnOf "__init__" "NotFitting.__init__" (defArgs st) (defBody st) (defScope st) .none kV dc pm an cd ct), sl⟩) (c : PySem.W.codeIn K cd "NotFitting.__init__" = true) (k : PySem.W.keepIn K (.ref fI) = true) : FitC K mg C st :=
  ⟨⟨⟨⟨_, _, _, _, _, _, _, _, _, _, _, _, _, _, _, xL, rf⟩, sa, eC, tC, kC, F.store_RuntimeError, F.excBase_RuntimeError⟩, ⟨ga, gg, eC, hC⟩, PySem.W.mg_of X G aC, fI, _, a1, t1, fun_mk l c k⟩, fun x hx => by
    simp only [List.mem_cons, List.mem_nil_iff, or_false] at hx
    rcases hx with rfl | rfl
    · exact nb
    · exact nb2⟩
end
theorem wtup {K : PySem.W.Frag} {a : Addr} {od : Option Addr} {its : List Value} {n : Nat} {sl : Array (Option Value)} {xs : List V} (l : K.lookup a = some ⟨.type "tuple", od, .seq its.toArray n, sl⟩) (v : Vals xs its) (z : its.length ≤ sizeLine) : ∀ H, SqT K H a xs :=
  fun H => .inr ⟨_, its.toArray, n, l, rfl, rfl, by rw [List.size_toArray]; exact z, v⟩
theorem usualT_mk {K : PySem.W.Frag} {mg : Str → Option Value} {h : Heap} {aU u0 u1 u2 u3 u4 u5 u6 u7 u8 u9 : Addr} {d0 d1 d2 d3 d4 d5 d6 d7 d8 d9 : Option Addr} {z0 z1 z2 z3 z4 z5 z6 z7 z8 z9 : Nat} {s0 s1 s2 s3 s4 s5 s6 s7 s8 s9 : Array (Option Value)} {k00 k01 k02 k03 k04 k10 k11 k12 k13 k14 k20 k21 k22 k23 k24 k30 k31 k32 k33 k34 k40 k41 k42 k43 k44 k50 k51 k52 k53 k54 k60 k61 k62 k63 k64 k70 k71 k72 k74 k80 k81 k82 k84 k90 k91 k92 k93 k94 : Tok} {dU : Option Addr} {zU : Nat} {sU : Array (Option Value)} (X : K.In h) (G : h.Ns mainGlobals mg)
    (g : PySem.W.nsIn K mainGlobals "_USUAL" = some (some (.ref aU))) (l : K.lookup aU = some ⟨.type "tuple", dU, .seq ([.ref u0, .ref u1, .ref u2, .ref u3, .ref u4, .ref u5, .ref u6, .ref u7, .ref u8, .ref u9] : List Value).toArray zU, sU⟩)
    (l0 : K.lookup u0 = some ⟨.type "tuple", d0, .seq ([.str "k" k00, .int 1 k01, .int 1 k02, .str "p" k03, .str "k" k04] : List Value).toArray z0, s0⟩)
    (l1 : K.lookup u1 = some ⟨.type "tuple", d1, .seq ([.str "p" k10, .int 1 k11, .int 1 k12, .str "k" k13, .str "p" k14] : List Value).toArray z1, s1⟩)
    (l2 : K.lookup u2 = some ⟨.type "tuple", d2, .seq ([.str "yo" k20, .int 0 k21, .int 1 k22, .str "yo" k23, .str "yo" k24] : List Value).toArray z2, s2⟩)
    (l3 : K.lookup u3 = some ⟨.type "tuple", d3, .seq ([.str "ktog" k30, .int 2 k31, .int 1 k32, .str "ptog" k33, .str "ssk" k34] : List Value).toArray z3, s3⟩)
    (l4 : K.lookup u4 = some ⟨.type "tuple", d4, .seq ([.str "ssk" k40, .int 2 k41, .int 1 k42, .str "ssp" k43, .str "ktog" k44] : List Value).toArray z4, s4⟩)
    (l5 : K.lookup u5 = some ⟨.type "tuple", d5, .seq ([.str "ptog" k50, .int 2 k51, .int 1 k52, .str "ktog" k53, .str "ssp" k54] : List Value).toArray z5, s5⟩)
    (l6 : K.lookup u6 = some ⟨.type "tuple", d6, .seq ([.str "ssp" k60, .int 2 k61, .int 1 k62, .str "ssk" k63, .str "ptog" k64] : List Value).toArray z6, s6⟩)
    (l7 : K.lookup u7 = some ⟨.type "tuple", d7, .seq ([.str "cdd" k70, .int 3 k71, .int 1 k72, .none, .str "cdd" k74] : List Value).toArray z7, s7⟩)
    (l8 : K.lookup u8 = some ⟨.type "tuple", d8, .seq ([.str "kfb" k80, .int 1 k81, .int 2 k82, .none, .str "kfb" k84] : List Value).toArray z8, s8⟩)
    (l9 : K.lookup u9 = some ⟨.type "tuple", d9, .seq ([.str "bo" k90, .int 1 k91, .int 0 k92, .str "bo" k93, .str "bo" k94] : List Value).toArray z9, s9⟩) : UsualT K mg :=
  ⟨aU, [u0, u1, u2, u3, u4, u5, u6, u7, u8, u9], PySem.W.mg_of X G g, wtup l (.cons rfl (.cons rfl (.cons rfl (.cons rfl (.cons rfl (.cons rfl (.cons rfl (.cons rfl (.cons rfl (.cons rfl (.nil))))))))))) (by show 10 ≤ sizeLine; decide), .cons (wtup l0 (.cons ⟨_, rfl⟩ (.cons ⟨_, rfl⟩ (.cons ⟨_, rfl⟩ (.cons ⟨_, rfl⟩ (.cons ⟨_, rfl⟩ (.nil)))))) (by show 5 ≤ sizeLine; decide)) (.cons (wtup l1 (.cons ⟨_, rfl⟩ (.cons ⟨_, rfl⟩ (.cons ⟨_, rfl⟩ (.cons ⟨_, rfl⟩ (.cons ⟨_, rfl⟩ (.nil)))))) (by show 5 ≤ sizeLine; decide)) (.cons (wtup l2 (.cons ⟨_, rfl⟩ (.cons ⟨_, rfl⟩ (.cons ⟨_, rfl⟩ (.cons ⟨_, rfl⟩ (.cons ⟨_, rfl⟩ (.nil)))))) (by show 5 ≤ sizeLine; decide)) (.cons (wtup l3 (.cons ⟨_, rfl⟩ (.cons ⟨_, rfl⟩ (.cons ⟨_, rfl⟩ (.cons ⟨_, rfl⟩ (.cons ⟨_, rfl⟩ (.nil)))))) (by show 5 ≤ sizeLine; decide)) (.cons (wtup l4 (.cons ⟨_, rfl⟩ (.cons ⟨_, rfl⟩ (.cons ⟨_, rfl⟩ (.cons ⟨_, rfl⟩ (.cons ⟨_, rfl⟩ (.nil)))))) (by show 5 ≤ sizeLine; decide)) (.cons (wtup l5 (.cons ⟨_, rfl⟩ (.cons ⟨_, rfl⟩ (.cons ⟨_, rfl⟩ (.cons ⟨_, rfl⟩ (.cons ⟨_, rfl⟩ (.nil)))))) (by show 5 ≤ sizeLine; decide)) (.cons (wtup l6 (.cons ⟨_, rfl⟩ (.cons ⟨_, rfl⟩ (.cons ⟨_, rfl⟩ (.cons ⟨_, rfl⟩ (.cons ⟨_, rfl⟩ (.nil)))))) (by show 5 ≤ sizeLine; decide)) (.cons (wtup l7 (.cons ⟨_, rfl⟩ (.cons ⟨_, rfl⟩ (.cons ⟨_, rfl⟩ (.cons rfl (.cons ⟨_, rfl⟩ (.nil)))))) (by show 5 ≤ sizeLine; decide)) (.cons (wtup l8 (.cons ⟨_, rfl⟩ (.cons ⟨_, rfl⟩ (.cons ⟨_, rfl⟩ (.cons rfl (.cons ⟨_, rfl⟩ (.nil)))))) (by show 5 ≤ sizeLine; decide)) (.cons (wtup l9 (.cons ⟨_, rfl⟩ (.cons ⟨_, rfl⟩ (.cons ⟨_, rfl⟩ (.cons ⟨_, rfl⟩ (.cons ⟨_, rfl⟩ (.nil)))))) (by show 5 ≤ sizeLine; decide)) (.nil))))))))))⟩
end N
namespace N
open PySem L2
theorem tabs_lst {T : List (Addr × Str)} {H : Hp} {M : Addr} {xs ys : List V} (h : LamX.Tabs T H) (hM : H M = some (.lst xs)) : LamX.Tabs T (upd H M (.lst ys)) := fun p hp => by
  obtain ⟨ps, h1, h2, h3⟩ := h p hp
  refine ⟨ps, (upd_ne (fun z => by rw [z, hM] at h1; cases h1)).trans h1, h2, fun pos cv hc => ?_⟩
  obtain ⟨c, e1, e2⟩ := h3 pos cv hc
  refine ⟨c, e1, (upd_ne (fun z => ?_)).trans e2⟩
  rw [z, hM] at e2
  unfold LamX.CodeO at e2
  cases e2
def spLaw (K : PySem.W.Frag) (T : List (Addr × Str)) : Sp := fun vs H Q _ => ∃ (a : Addr) (ns : List Int), vs = [.ref a] ∧ SqL K H a (ns.map V.int) ∧ ns.length ≤ 63 ∧ LamX.Tabs T H ∧ ∀ H', Q (.bl true) H'
theorem seq_ext {K : PySem.W.Frag} {H H' : Hp} {a : Addr} {xs : List V} (h : SqL K H a xs) (e : LamX.ExtN H H') : SqL K H' a xs :=
  h.elim (fun h => .inl (h.elim (fun h => .inl (e _ _ h fun _ z => by cases z)) fun ⟨o, h⟩ => .inr ⟨o, e _ _ h fun _ z => by cases z⟩)) fun h => .inr h
theorem ext_of_xb {p : Addr} {H H1 H2 : Hp} (np : H p = none) (s : Same H H1) (e : XB p H1 H2) : LamX.ExtN H H2 := fun b o h n => e b o (s b o h) (ne_of_none h np) n
section
variable {P : Program} {w : World} {K : PySem.W.Frag} {mg : Str → Option Value} {base : Heap} {C CB CL CE CF : Addr} {Cs : Nat → Addr}
abbrev s_law : Stmt := top 81
theorem sc_law : FnScope ["_law_script", "_law_k"] ["_law_script"] (defScope s_law) := ⟨rfl, rfl, rfl, by decide +kernel, rfl, by decide +kernel, by decide +kernel⟩
theorem ok_law {f : Addr} {fd : FuncData} {T : List (Addr × Str)} (B : Blts mg) (F : Fun K "law" "law" s_law f fd) (h_law_right : Has P w K mg base "_law_right" 11 ["_law_pot_here"] (spRight T)) (h_law_pot : Has P w K mg base "_law_pot" 1 ["_law_script", "_law_k"] (spPot K)) : FnG P w K mg base CX0 12 f fd ["_law_script"] (spLaw K T) := by
  refine F.okG sc_law (fun vs H Q E h => ?_) (fun cdv A outer s H vs Q E hG hr h => ?_)
  · obtain ⟨_, _, rfl, _⟩ := h
    rfl
  · obtain ⟨a, ns, rfl, hS, hn, ht, k⟩ := h
    refine ⟨_, (pss_one (ps_ret (pe_callB (cr_all rfl) (by rfl) B.n_all (by decide +kernel) (pa_cons (pe_lc (own := [("_law_k", 1)]) rfl sc_law.nd (pi_range1 (by rfl) B.n_range (pa_cons (pe_callB (call_max2 rfl) (by rfl) B.n_max (by decide +kernel) (pa_cons pe_int (pa_cons (pe_callB (call_min2 rfl) (by rfl) B.n_min (by decide +kernel) (pa_cons (pe_callB call_len (by rfl) B.n_len PySem.boot_len (pa_cons (pv 0) pa_nil)) (pa_cons pe_int pa_nil))) pa_nil))) pa_nil)) (blkOk_by (own := [("_law_k", 1)]) (N := ["_law_script", "_law_k"]) (sc := defScope s_law) (by decide +kernel)) (fun _ _ _ _ _ => by exact (pg_name (i := 1) sc_law.nd rfl (Or.inl rfl))) (fun _ _ _ _ _ => by exact pts_nil) (fun _ _ _ _ _ => by exact (pe_has h_law_right (hr.mono (by decide)) (pa_cons (pe_has h_law_pot (hr.mono (by decide)) (pa_cons (pv 0) (pa_cons (pv 1) pa_nil))) pa_nil)))) pa_nil)))), ?_⟩
    obtain ⟨n, hn0, hn1, hne⟩ : ∃ n : Nat, n < 1000 ∧ n ≤ 63 ∧ (if (if (8 : Int) < (ns.length : Int) then (8 : Int) else (ns.length : Int)) > 1 then (if (8 : Int) < (ns.length : Int) then (8 : Int) else (ns.length : Int)) else 1) = (n : Int) := by
      refine ⟨(if (if (8 : Int) < (ns.length : Int) then (8 : Int) else (ns.length : Int)) > 1 then (if (8 : Int) < (ns.length : Int) then (8 : Int) else (ns.length : Int)) else 1).toNat, ?_, ?_, ?_⟩ <;> (repeat' split) <;> omega
    refine ⟨_, rfl, _, ns.length, rfl, .inl ⟨_, hS, by rw [List.length_map]⟩, _, _, rfl, _, _, rfl, ?_⟩
    rw [hne]
    refine ⟨_, rfl, by omega, by omega, fun D nD => ?_⟩
    rw [Int.toNat_natCast]
    refine lc_it walk_range (fun i Hh => LamX.ExtN H Hh ∧ LamX.Tabs T Hh ∧ Hh D = some (.lst ((List.range i).map fun _ => V.bl true))) ⟨LamX.ExtN.of (Same.new nD), fun z hz => (ht z hz).ext (Same.new nD), upd_same⟩ (fun _ _ _ _ => trivial) ?_ (fun Hz q => ?_)
    · rintro i x H1 H2 hi ⟨e1, t1, hD⟩ ⟨rfl, rfl⟩
      refine ⟨rfl, ?_⟩
      simp only [tYes, if_true]
      refine ⟨_, rfl, _, rfl, a, ns, i, ?_, seq_ext hS e1, hn, by omega, fun q H3 nq hp s3 => ?_⟩
      · show [V.ref a, V.int (0 + (i : Int))] = _
        rw [Int.zero_add]
      · have hD3 := s3 _ _ hD
        refine ⟨q, rfl, hp, fun z hz => (t1 z hz).ext s3, fun H4 hp4 x4 t4 => ?_⟩
        have Dq : D ≠ q := ne_of_none hD nq
        have hD4 := x4 _ _ hD3 Dq (fun _ z => by cases z)
        have e4 : LamX.ExtN H H4 := e1.trans (ext_of_xb nq s3 x4)
        refine ⟨_, hD4, by rw [List.length_map, List.length_range, sizeLine_eq]; omega, fun b o hb n => (upd_ne (ne_of_none hb nD)).trans (e4 b o hb n), tabs_lst t4 hD4, ?_⟩
        rw [List.range_succ, List.map_append]
        exact upd_same
    · obtain ⟨e1, t1, hD⟩ := q
      refine ⟨D, (List.range n).map fun _ => true, rfl, SqL.of (by rw [List.map_map]; exact hD), ?_⟩
      rw [show ((List.range n).map fun _ => true).all id = true by simp]
      exact k _
def tri (a b c : Addr) : Nat → Addr
  | 0 => a
  | 1 => b
  | _ => c
abbrev n1 : Str := (("Book.__init__" : Str) ++ ".<locals>." ++ "<lambda>")
theorem all_ok {f : Addr} {fd : FuncData} {c1 T1 pU gU : Addr} {mc : Value} (B : Blts mg) (G : Globs mg) (T : KindT K mg C Cs) (U : BookT K mg CB) (TL : LongT K mg CL) (TE : EvenT K mg CE) (TB1 : LamX.TabB base mg c1 T1)
    (g_MK : ∃ t, mg "_MOST_KINDS" = some (.int 24 t)) (g_gcd : mg "gcd" = some (.builtin "math.gcd")) (UT : UsualT K mg) (CR : ClX.CRead K CB mc) (CU : ClsAt K CB mc "usual" "Book.usual" s_Book_usual pU gU)
    (TF : FitC K mg CF s_NotFitting___init__) (xff : PySem.W.exmOne K (.ref CF) (.ref CF) = some true)
    (I : InitAt K mg "Kind" C "Kind.__init__" s_Kind___init__ [] [("back", .non), ("mirror", .non), ("yarn", .int 1)]) (FI : InitAtC K CB "Book.__init__" s_Book___init__ c1) (IL : InitN K mg "LongWord" CL "LongWord.__init__" s_LongWord___init__) (IE : InitN K mg "Evenly" CE "Evenly.__init__" s_Evenly___init__)
    (F1 : FunAt K mg "is_integer" "is_integer" s_is_integer) (F2 : FunAt K mg "is_count" "is_count" s_is_count) (F3 : FunAt K mg "is_count_to" "is_count_to" s_is_count_to) (F4 : FunAt K mg "is_name" "is_name" s_is_name) (F5 : FunAt K mg "_numbers_and_names" "_numbers_and_names" s__numbers_and_names) (F6 : FunAt K mg "_same_loops" "_same_loops" s__same_loops) (F7 : FunAt K mg "_is_back" "_is_back" s__is_back) (F8 : FunAt K mg "_is_mirror" "_is_mirror" s__is_mirror) (F9 : FunAt K mg "_both_agree" "_both_agree" s__both_agree) (F10 : FunAt K mg "_check_kinds" "_check_kinds" s__check_kinds) (F11 : FunAt K mg "_law_pot" "_law_pot" s__law_pot) (F12 : FunAt K mg "_law_draw" "_law_draw" s__law_draw) (F13 : FunAt K mg "_law_pick" "_law_pick" s__law_pick) (F14 : FunAt K mg "is_list_of" "is_list_of" s_is_list_of) (F15 : FunAt K mg "tidy" "tidy" s_tidy) (F16 : FunAt K mg "run_length" "run_length" s_run_length) (F17 : FunAt K mg "letter_count" "letter_count" s_letter_count) (F18 : FunAt K mg "letters_from" "letters_from" s_letters_from) (F19 : FunAt K mg "_stretch" "_stretch" s__stretch) (F20 : FunAt K mg "_is_part" "_is_part" s__is_part) (F21 : FunAt K mg "place_in" "place_in" s_place_in) (F22 : FunAt K mg "_check_book" "_check_book" s__check_book) (F23 : FunAt K mg "_check_word" "_check_word" s__check_word) (F24 : FunAt K mg "_is_plain" "_is_plain" s__is_plain) (F25 : FunAt K mg "_place_of" "_place_of" s__place_of) (F26 : FunAt K mg "_made_of" "_made_of" s__made_of) (F27 : FunAt K mg "_slope_of" "_slope_of" s__slope_of) (F28 : FunAt K mg "_law_drawn" "_law_drawn" s__law_drawn) (F29 : FunAt K mg "_law_runs" "_law_runs" s__law_runs) (F30 : FunAt K mg "_law_small_right" "_law_small_right" s__law_small_right) (F31 : FunAt K mg "_law_is_refused" "_law_is_refused" s__law_is_refused) (F32 : FunAt K mg "_law_far_right" "_law_far_right" s__law_far_right) (F33 : FunAt K mg "_law_right" "_law_right" s__law_right)
    (P1 : PropAt K C "name" "Kind.name" s_Kind_name) (P2 : PropAt K C "takes" "Kind.takes" s_Kind_takes) (P3 : PropAt K C "makes" "Kind.makes" s_Kind_makes) (P4 : PropAt K C "back" "Kind.back" s_Kind_back) (P5 : PropAt K C "mirror" "Kind.mirror" s_Kind_mirror) (P6 : PropAt K C "yarn" "Kind.yarn" s_Kind_yarn)
    (Q1 : PropAt K CL "length" "LongWord.length" s_LongWord_length) (Q2 : PropAt K CL "takes" "LongWord.takes" s_LongWord_takes) (Q3 : PropAt K CL "makes" "LongWord.makes" s_LongWord_makes)
    (M1 : MethAt K CB "is_word" "Book.is_word" s_Book_is_word) (M2 : MethAt K CB "_kinds_of" "Book._kinds_of" s_Book__kinds_of) (M3 : MethAt K CB "taken" "Book.taken" s_Book_taken) (M4 : MethAt K CB "loops_made" "Book.loops_made" s_Book_loops_made) (M5 : MethAt K CB "made" "Book.made" s_Book_made) (M6 : MethAt K CB "__contains__" "Book.__contains__" s_Book___contains__) (M7 : MethAt K CB "kind" "Book.kind" s_Book_kind)
    (N1 : MethAt K CL "letter" "LongWord.letter" s_LongWord_letter) (N2 : MethAt K CL "count" "LongWord.count" s_LongWord_count) (N3 : MethAt K CL "letters" "LongWord.letters" s_LongWord_letters)
    (V1 : MethAt K CE "counts" "Evenly.counts" s_Evenly_counts) (V2 : MethAt K CE "made_counts" "Evenly.made_counts" s_Evenly_made_counts) (V3 : MethAt K CE "fits" "Evenly.fits" s_Evenly_fits) (V4 : MethAt K CE "word" "Evenly.word" s_Evenly_word) (V5 : MethAt K CE "made" "Evenly.made" s_Evenly_made) (V6 : MethAt K CE "slope" "Evenly.slope" s_Evenly_slope)
    (F : Fun K "law" "law" s_law f fd) : FnG P w K mg base CX0 12 f fd ["_law_script"] (spLaw K [(T1, n1)]) := by
  have hi := h_is_integer (P := P) (w := w) (base := base) B F1
  have hc := h_is_count F2 hi
  have hct := h_is_count_to F3 hc
  have hn := h_is_name (P := P) (w := w) (base := base) B G F4
  have k2 := hKind2 B G T I hn hct
  have p1 := p_name (P := P) (w := w) (base := base) T P1
  have p2 := p_takes (P := P) (w := w) (base := base) T P2
  have p3 := p_makes (P := P) (w := w) (base := base) T P3
  have p4 := p_back (P := P) (w := w) (base := base) T P4
  have p5 := p_mirror (P := P) (w := w) (base := base) T P5
  have hsl := h_same_loops T F6 p2 p3
  have hib := h_is_back T F7 p1 p4 hsl
  have him := h_is_mirror T F8 p1 p5 hsl
  have hba := h_both_agree T F9 p4 p5
  have hck := h_check_kinds T F10 p1 p4 p5 hib him hba
  have hd := h_law_draw (P := P) (w := w) (base := base) B F12
  have hk := h_law_pick (P := P) (w := w) (base := base) (K := K) B F13 hd
  have m1 := m_is_word (P := P) (w := w) (base := base) (C := C) B U M1
  have m2 := m_kinds_of (P := P) (w := w) (base := base) U M2 m1.m
  have m3 := m_taken B U T M3 p2 m2
  have m4 := m_loops_made B U T M4 p3 m2
  have m5 := m_made U M5 m4
  have m7 := m_contains (P := P) (w := w) (base := base) (C := C) B U M6
  have m8 := m_kind U M7 m7
  have in1 : (T1, n1) ∈ [(T1, n1)] := .head _
  have u1 : ∀ p ∈ [(T1, n1)], p.1 = T1 → p.2 = n1 := fun p hp e => by
    rw [List.mem_singleton.mp hp]
  obtain ⟨fB, MB, FB⟩ := b_init (T := [(T1, n1)]) B T U g_MK FI P1 p1 TB1 in1 u1 hck
  have FU := c_usual B T U UT CU k2 MB FB
  obtain ⟨_, CM, _⟩ := id CU.ex
  have hlo := h_is_list_of (P := P) (w := w) (base := base) B F14
  have htT := h_tidy (P := P) (w := w) (base := base) (K := K) true B F15
  have hrl := h_run_length (P := P) (w := w) (base := base) (K := K) B F16
  have hlc := h_letter_count (P := P) (w := w) (base := base) (K := K) B F17
  have hst := h_stretch (P := P) (w := w) (base := base) B F19
  have hlf := h_letters_from (P := P) (w := w) (base := base) (K := K) B F18 hst
  have hip := h_is_part B U F20 hc m1.m
  have l2T := hLong2 true B U TL IL hlo hip htT
  have pl := p_length (P := P) (w := w) (base := base) (CB := CB) (C := C) TL Q1 hrl
  have pt := p_ltakes B U TL Q2 m3.m
  have pm := p_lmakes B U TL Q3 m4
  have e1 := m_letter TL N1 hc pl hlf
  have e2 := m_count TL N2 m7 hlc
  have e3 := m_letters (P := P) (w := w) (base := base) (CB := CB) (C := C) TL N3 hc hct hlf
  have hpi := hplace_in F21 hc
  have hcb := h_check_book (P := P) (w := w) (base := base) (C := C) B U F22
  have hcw := h_check_word B U F23 m1.m
  have hpn := h_is_plain T F24 p2 p3
  have v1 := m_counts (P := P) (w := w) (base := base) (mg := mg) TE.sec V1
  have v2 := m_made_counts (P := P) (w := w) (base := base) (mg := mg) TE.sec V2
  have hpo := h_place_of TE.sec TF F25 hpi v1
  have hmo := h_made_of TE.sec F26 hpo v2
  have hso := h_slope_of TE.sec g_gcd F27 v1 v2
  have h4 := hEven4 B U TE IE hcb hcw hct hpn m8 m3 m5
  have v3 := m_fits TE.sec V3 hpi v1
  have v4 := m_tword B TE V4 hpo l2T
  have v5 := m_tmade TE.sec V5 hmo
  have v6 := m_slope V6 hso
  have w1 := h_law_drawn F28 hk
  have w2 := h_law_runs (P := P) (w := w) (base := base) B F29
  have w3 := h_law_is_refused TE TF xff F31 v4 v5
  have w4 := h_law_small_right B TE TL F30 v3 w3 w2 v4 e3 pl
  have w5 := h_law_far_right B TE TL F32 w2 v4 v5 e3 e1 e2 pl pt pm
  exact ok_law B F (h_law_right B U TE F33 CR CM FU h4 m3 m5 v1 v2 v6 v5 hd hk w1 w4 w5) (h_law_pot B F11)
end
theorem all_mk {l : PySem.W.OpenLaw} {w : World} {K : PySem.W.Frag} {h : Heap} {mg : Str → Option Value} {fa f C CB CL CE CF c1 T1 pU gU a0 a1 a2 : Addr} {mc : Value} (X : K.In h) (G : h.Ns mainGlobals mg) (hfa : mg "law" = some (.ref fa))
    (tab1 : h.get? T1 = some emptyTab) (loose1 : K.lookup T1 = none) (code1 : PySem.W.codeHdIn K c1 T1 = true)
    {od an : Option Addr} {sl : Array (Option Value)} {oc kV dc pm cd ct : Value}
    (a : PySem.W.nsIn K mainGlobals "law" = some (some (.ref f))) (lk : K.lookup f = some ⟨oc, od, .func (PySem.W.fnOf "law" "law" (defArgs s_law) (defBody s_law) (defScope s_law) .none kV dc pm an cd ct), sl⟩) (co : PySem.W.codeIn K cd "law" = true) (k : PySem.W.keepIn K (.ref f) = true)
    (B : Blts mg) (Gl : Globs mg) (own : OwnC K C) (n0 : NoAttr K C "_name") (n1' : NoAttr K C "_takes") (n2' : NoAttr K C "_makes") (n3 : NoAttr K C "_back") (n4 : NoAttr K C "_mirror") (n5 : NoAttr K C "_yarn") (gK : mg "Kind" = some (.ref C))
    (E0 : ErrC K mg "InvalidName" "value" a0 s_InvalidName___init__ "InvalidName.__init__") (E1 : ErrC K mg "InvalidNumber" "value" a1 s_InvalidNumber___init__ "InvalidNumber.__init__") (E2 : ErrC K mg "InvalidKind" "value" a2 s_InvalidKind___init__ "InvalidKind.__init__")
    (ownB : OwnC K CB) (nk : NoAttr K CB "_kinds") (nt : NoAttr K CB "_table") (gB : mg "Book" = some (.ref CB)) (gN : ∃ t, mg "MOST_NAMES_kinds" = some (.int 240 t))
    (ownL : OwnC K CL) (nb : NoAttr K CL "_book") (nr : NoAttr K CL "_runs") (gL : mg "LongWord" = some (.ref CL)) (gP : ∃ t, mg "_MOST_PARTS" = some (.int 400 t)) (gE : ∃ t, mg "_MOST_LETTERS" = some (.int 400 t)) (gM : ∃ t, mg "MOST_NAMES_longwords" = some (.int 240 t))
    (ownE : OwnC K CE) (ec : NoAttr K CE "_counts") (em : NoAttr K CE "_made_counts") (eb : NoAttr K CE "_book") (ed : NoAttr K CE "_deed") (et : NoAttr K CE "_times") (ep : NoAttr K CE "_plain") (gEv : mg "Evenly" = some (.ref CE)) (gT : ∃ t, mg "_MOST_TIMES" = some (.int 12 t))
    (g_MK : ∃ t, mg "_MOST_KINDS" = some (.int 24 t)) (g_gcd : mg "gcd" = some (.builtin "math.gcd")) (UT : UsualT K mg) (CR : ClX.CRead K CB mc) (CU : ClsAt K CB mc "usual" "Book.usual" s_Book_usual pU gU)
    (TF : FitC K mg CF s_NotFitting___init__) (xff : PySem.W.exmOne K (.ref CF) (.ref CF) = some true)
    (I : InitAt K mg "Kind" C "Kind.__init__" s_Kind___init__ [] [("back", .non), ("mirror", .non), ("yarn", .int 1)]) (FI : InitAtC K CB "Book.__init__" s_Book___init__ c1) (IL : InitN K mg "LongWord" CL "LongWord.__init__" s_LongWord___init__) (IE : InitN K mg "Evenly" CE "Evenly.__init__" s_Evenly___init__)
    (F1 : FunAt K mg "is_integer" "is_integer" s_is_integer) (F2 : FunAt K mg "is_count" "is_count" s_is_count) (F3 : FunAt K mg "is_count_to" "is_count_to" s_is_count_to) (F4 : FunAt K mg "is_name" "is_name" s_is_name) (F5 : FunAt K mg "_numbers_and_names" "_numbers_and_names" s__numbers_and_names) (F6 : FunAt K mg "_same_loops" "_same_loops" s__same_loops) (F7 : FunAt K mg "_is_back" "_is_back" s__is_back) (F8 : FunAt K mg "_is_mirror" "_is_mirror" s__is_mirror) (F9 : FunAt K mg "_both_agree" "_both_agree" s__both_agree) (F10 : FunAt K mg "_check_kinds" "_check_kinds" s__check_kinds) (F11 : FunAt K mg "_law_pot" "_law_pot" s__law_pot) (F12 : FunAt K mg "_law_draw" "_law_draw" s__law_draw) (F13 : FunAt K mg "_law_pick" "_law_pick" s__law_pick) (F14 : FunAt K mg "is_list_of" "is_list_of" s_is_list_of) (F15 : FunAt K mg "tidy" "tidy" s_tidy) (F16 : FunAt K mg "run_length" "run_length" s_run_length) (F17 : FunAt K mg "letter_count" "letter_count" s_letter_count) (F18 : FunAt K mg "letters_from" "letters_from" s_letters_from) (F19 : FunAt K mg "_stretch" "_stretch" s__stretch) (F20 : FunAt K mg "_is_part" "_is_part" s__is_part) (F21 : FunAt K mg "place_in" "place_in" s_place_in) (F22 : FunAt K mg "_check_book" "_check_book" s__check_book) (F23 : FunAt K mg "_check_word" "_check_word" s__check_word) (F24 : FunAt K mg "_is_plain" "_is_plain" s__is_plain) (F25 : FunAt K mg "_place_of" "_place_of" s__place_of) (F26 : FunAt K mg "_made_of" "_made_of" s__made_of) (F27 : FunAt K mg "_slope_of" "_slope_of" s__slope_of) (F28 : FunAt K mg "_law_drawn" "_law_drawn" s__law_drawn) (F29 : FunAt K mg "_law_runs" "_law_runs" s__law_runs) (F30 : FunAt K mg "_law_small_right" "_law_small_right" s__law_small_right) (F31 : FunAt K mg "_law_is_refused" "_law_is_refused" s__law_is_refused) (F32 : FunAt K mg "_law_far_right" "_law_far_right" s__law_far_right) (F33 : FunAt K mg "_law_right" "_law_right" s__law_right)
    (P1 : PropAt K C "name" "Kind.name" s_Kind_name) (P2 : PropAt K C "takes" "Kind.takes" s_Kind_takes) (P3 : PropAt K C "makes" "Kind.makes" s_Kind_makes) (P4 : PropAt K C "back" "Kind.back" s_Kind_back) (P5 : PropAt K C "mirror" "Kind.mirror" s_Kind_mirror) (P6 : PropAt K C "yarn" "Kind.yarn" s_Kind_yarn)
    (Q1 : PropAt K CL "length" "LongWord.length" s_LongWord_length) (Q2 : PropAt K CL "takes" "LongWord.takes" s_LongWord_takes) (Q3 : PropAt K CL "makes" "LongWord.makes" s_LongWord_makes)
    (M1 : MethAt K CB "is_word" "Book.is_word" s_Book_is_word) (M2 : MethAt K CB "_kinds_of" "Book._kinds_of" s_Book__kinds_of) (M3 : MethAt K CB "taken" "Book.taken" s_Book_taken) (M4 : MethAt K CB "loops_made" "Book.loops_made" s_Book_loops_made) (M5 : MethAt K CB "made" "Book.made" s_Book_made) (M6 : MethAt K CB "__contains__" "Book.__contains__" s_Book___contains__) (M7 : MethAt K CB "kind" "Book.kind" s_Book_kind)
    (N1 : MethAt K CL "letter" "LongWord.letter" s_LongWord_letter) (N2 : MethAt K CL "count" "LongWord.count" s_LongWord_count) (N3 : MethAt K CL "letters" "LongWord.letters" s_LongWord_letters)
    (V1 : MethAt K CE "counts" "Evenly.counts" s_Evenly_counts) (V2 : MethAt K CE "made_counts" "Evenly.made_counts" s_Evenly_made_counts) (V3 : MethAt K CE "fits" "Evenly.fits" s_Evenly_fits) (V4 : MethAt K CE "word" "Evenly.word" s_Evenly_word) (V5 : MethAt K CE "made" "Evenly.made" s_Evenly_made) (V6 : MethAt K CE "slope" "Evenly.slope" s_Evenly_slope) :
    LawGT l w K 12 63 "_law_script" mg fa h := by
  have e := hfa.symm.trans (PySem.W.mg_of X G a)
  cases e
  have T : KindT K mg C (tri a0 a1 a2) := ⟨own, n0, n1', n2', n3, n4, n5, gK, E0, E1, E2⟩
  have U : BookT K mg CB := ⟨ownB, nk, nt, gB, gN⟩
  have TL : LongT K mg CL := ⟨ownL, nb, nr, gL, gP, gE, gM⟩
  have TE : EvenT K mg CE := ⟨⟨ownE, ec, em⟩, eb, ed, et, ep, gEv, gT⟩
  refine ⟨PySem.W.fnOf "law" "law" (defArgs s_law) (defBody s_law) (defScope s_law) .none kV dc pm an cd ct, [(c1, T1)], spLaw K [(T1, n1)], fun p hp => ?_, fun p hp => ?_, fun p hp => ?_, fun s v => .of_eq rfl, fun H aa ns hl h1 h2 => ?_, fun base _ _ tb => ?_⟩
  · rw [List.mem_singleton.mp hp]
    exact tab1
  · rw [List.mem_singleton.mp hp]
    exact loose1
  · rw [List.mem_singleton.mp hp]
    exact PySem.W.codeHd_of_K X code1
  · refine ⟨aa, ns, rfl, h2, hl, fun p hp => ?_, fun _ => rfl⟩
    rw [List.mem_singleton.mp hp]
    exact LamX.TabS.nil (h1 (c1, T1) (.head _))
  · exact all_ok B Gl T U TL TE (tb (c1, T1) (.head _)) g_MK g_gcd UT CR CU TF xff I FI IL IE F1 F2 F3 F4 F5 F6 F7 F8 F9 F10 F11 F12 F13 F14 F15 F16 F17 F18 F19 F20 F21 F22 F23 F24 F25 F26 F27 F28 F29 F30 F31 F32 F33 P1 P2 P3 P4 P5 P6 Q1 Q2 Q3 M1 M2 M3 M4 M5 M6 M7 N1 N2 N3 V1 V2 V3 V4 V5 V6 (fun_mk (st := s_law) lk co k)
end N


namespace N
open PySem PySem.Spec PyProof.Rows L2
theorem clsAt_mk {K : PySem.W.Frag} {C p g : Addr} {mc : Value} {m qual : Str} {st : Stmt} {rest : List Value} {oc : Value} {od an : Option Addr} {osl : Array (Option Value)} {kV doc pm cdv ct : Value} (a : PySem.W.findCls K (.ref C) mc m = some (.get (.builtin "classmethod.__get__") (.ref p) .none (.ref C))) (r : PySem.W.recIn K p "classmethod" = some (.ref g :: rest)) (f : PySem.W.fnIn K g = true)
    (l : K.lookup g = some ⟨oc, od, .func (PySem.W.fnOf m qual (defArgs st) (defBody st) (defScope st) .none kV doc pm an cdv ct), osl⟩) (c : PySem.W.codeIn K cdv qual = true) (k : PySem.W.keepIn K (.ref g) = true) : ClsAt K C mc m qual st p g := ⟨_, ⟨a, ⟨rest, r⟩, f⟩, fun_mk l c k⟩
theorem initN_mk {K : PySem.W.Frag} {mg : Str → Option Value} {h : Heap} {x : Str} {C f : Addr} {qual : Str} {st : Stmt} {oc : Value} {od an : Option Addr} {osl : Array (Option Value)} {kV doc pm cdv ct : Value} (X : K.In h) (G : h.Ns mainGlobals mg) (g : PySem.W.nsIn K mainGlobals x = some (some (.ref C)))
    (m : PySem.W.makesIn K C = true) (i : PySem.W.findIn K (.ref C) "__init__" = some (some (.ref f))) (n : PySem.W.isFn K (.ref f) = true) (k : PySem.W.keepIn K (.ref C) = true)
    (l : K.lookup f = some ⟨oc, od, .func (PySem.W.fnOf "__init__" qual (defArgs st) (defBody st) (defScope st) .none kV doc pm an cdv ct), osl⟩) (c : PySem.W.codeIn K cdv qual = true) (kk : PySem.W.keepIn K (.ref f) = true) : InitN K mg x C qual st := ⟨f, _, PySem.W.mg_of X G g, ⟨m, i, n, k⟩, fun_mk l c kk⟩
end N
open PySem PySem.W PyProof.Rows
theorem L2.km_none {K : Params → PySem.W.Frag} {as : List Addr} {e : ∀ P, as = (K P).map (·.1)} {ts : List Addr} {w : World} {h : Heap} (_ : (PySem.W.kmHook K as e ts).says w h) {a : Addr} (n : as.contains a = false) : (K w.params).lookup a = none := by
  have q : ∀ l : List (Addr × Obj), (l.map (·.1)).contains a = false → l.lookup a = none := by
    intro l
    induction l with
    | nil => intro _; rfl
    | cons p r ih =>
      intro z
      obtain ⟨b, o⟩ := p
      simp only [List.map_cons, List.contains_cons, Bool.or_eq_false_iff] at z
      simp only [List.lookup, z.1]
      exact ih z.2
  exact q _ (e w.params ▸ n)
theorem L2.codeHd_mk {K : PySem.W.Frag} {c P : Addr} {od : Option Addr} {vs : Array Value} {sl : Array (Option Value)} (l : K.lookup c = some ⟨.type "code", od, .fields vs, sl⟩) (h11 : (vs[11]? : Option Value) = some (.ref P)) (h18 : ∃ a b, vs.getD 18 .none = .str a b)
    (h7 : ∃ a b, vs.getD 7 .none = .int a b) (h9 : ∃ a, vs.getD 9 .none = .bool a) (h10 : ∃ a b, vs.getD 10 .none = .int a b) (hne : (c != P) = true) : PySem.W.codeHdIn K c P = true := by
  obtain ⟨_, _, e18⟩ := h18
  obtain ⟨_, _, e7⟩ := h7
  obtain ⟨_, e9⟩ := h9
  obtain ⟨_, _, e10⟩ := h10
  unfold PySem.W.codeHdIn
  simp [l, h11, e18, e7, e9, e10]
  simpa using hne
set_option maxRecDepth 100000 in
set_option maxHeartbeats 0 in
theorem PySem.Challenge.cw_stitchsizes_k22_whole_evenly_worked_holds : PySem.Challenge.rw_stitchsizes_k22_whole_evenly_worked.Holds := by
  refine hd ?hc
  k_fill
  refine L2.walk_ofGT (l := PySem.Challenge.rw_stitchsizes_k22_whole_evenly_worked) (n := 63) (k := 12) (x := "_law_script") rfl (by decide) rfl ⟨rfl, by decide, by decide⟩ (fun w h Y => PySem.W.km_in_of Y) ?F
  case F =>
    intro w mg fa h Y KX G hmg
    have tab1 := PySem.W.km_tabs_of Y 468 (.head _)
    refine' N.all_mk (T1 := 468) (mc := .type "type") KX G hmg tab1 ?loose1 ?code1 ?a ?lk ?co ?k ?B ?Gl ?own ?n0 ?n1 ?n2 ?n3 ?n4 ?n5 ?gK ?E0 ?E1 ?E2 ?ownB ?nk ?nt ?gB ?gN ?ownL ?nb ?nr ?gL ?gP ?gE ?gM ?ownE ?ec ?em ?eb ?ed ?et ?ep ?gEv ?gT ?g_MK ?g_gcd ?UT ?CR ?CU ?TF ?xff ?I ?FI ?IL ?IE ?F1 ?F2 ?F3 ?F4 ?F5 ?F6 ?F7 ?F8 ?F9 ?F10 ?F11 ?F12 ?F13 ?F14 ?F15 ?F16 ?F17 ?F18 ?F19 ?F20 ?F21 ?F22 ?F23 ?F24 ?F25 ?F26 ?F27 ?F28 ?F29 ?F30 ?F31 ?F32 ?F33 ?P1 ?P2 ?P3 ?P4 ?P5 ?P6 ?Q1 ?Q2 ?Q3 ?M1 ?M2 ?M3 ?M4 ?M5 ?M6 ?M7 ?N1 ?N2 ?N3 ?V1 ?V2 ?V3 ?V4 ?V5 ?V6
    (case a => k_is)
    (case lk => k_is)
    (case co => k_is)
    (case k => k_is)
    (case B => exact ⟨PySem.W.mg_none_of KX G (by k_is), PySem.W.mg_none_of KX G (by k_is), PySem.W.mg_none_of KX G (by k_is), PySem.W.mg_none_of KX G (by k_is), PySem.W.mg_none_of KX G (by k_is), PySem.W.mg_none_of KX G (by k_is), PySem.W.mg_none_of KX G (by k_is), PySem.W.mg_none_of KX G (by k_is), PySem.W.mg_none_of KX G (by k_is), PySem.W.mg_none_of KX G (by k_is), PySem.W.mg_none_of KX G (by k_is), PySem.W.mg_none_of KX G (by k_is), PySem.W.mg_none_of KX G (by k_is), PySem.W.mg_none_of KX G (by k_is), PySem.W.mg_none_of KX G (by k_is), PySem.W.mg_none_of KX G (by k_is), PySem.W.mg_none_of KX G (by k_is), PySem.W.mg_none_of KX G (by k_is), PySem.W.mg_none_of KX G (by k_is), PySem.W.mg_none_of KX G (by k_is)⟩)
    (case Gl => exact ⟨⟨_, PySem.W.mg_of KX G (by k_is)⟩, ⟨_, PySem.W.mg_of KX G (by k_is)⟩, ⟨_, PySem.W.mg_of KX G (by k_is)⟩, ⟨_, PySem.W.mg_of KX G (by k_is)⟩⟩)
    (case gK => refine' PySem.W.mg_of KX G ?g; (case g => k_is))
    (case gB => refine' PySem.W.mg_of KX G ?g; (case g => k_is))
    (case gL => refine' PySem.W.mg_of KX G ?g; (case g => k_is))
    (case gEv => refine' PySem.W.mg_of KX G ?g; (case g => k_is))
    (case g_gcd => refine' PySem.W.mg_of KX G ?g; (case g => k_is))
    (case gN => exact ⟨_, PySem.W.mg_of KX G (by k_is)⟩)
    (case g_MK => exact ⟨_, PySem.W.mg_of KX G (by k_is)⟩)
    (case gP => exact ⟨_, PySem.W.mg_of KX G (by k_is)⟩)
    (case gE => exact ⟨_, PySem.W.mg_of KX G (by k_is)⟩)
    (case gM => exact ⟨_, PySem.W.mg_of KX G (by k_is)⟩)
    (case gT => exact ⟨_, PySem.W.mg_of KX G (by k_is)⟩)
    (case own => refine' L2.ownC_mk ?t1 ?t2 ?t3 ?t4 ?t5 ?t6 ?t7 ?t8 ?t9 ?t10; (case t1 => k_is); (case t2 => k_is); (case t3 => k_is); (case t4 => k_is); (case t5 => k_is); (case t6 => k_is); (case t7 => k_is); (case t8 => k_is); (case t9 => k_is); (case t10 => k_is))
    (case ownB => refine' L2.ownC_mk ?t1 ?t2 ?t3 ?t4 ?t5 ?t6 ?t7 ?t8 ?t9 ?t10; (case t1 => k_is); (case t2 => k_is); (case t3 => k_is); (case t4 => k_is); (case t5 => k_is); (case t6 => k_is); (case t7 => k_is); (case t8 => k_is); (case t9 => k_is); (case t10 => k_is))
    (case ownL => refine' L2.ownC_mk ?t1 ?t2 ?t3 ?t4 ?t5 ?t6 ?t7 ?t8 ?t9 ?t10; (case t1 => k_is); (case t2 => k_is); (case t3 => k_is); (case t4 => k_is); (case t5 => k_is); (case t6 => k_is); (case t7 => k_is); (case t8 => k_is); (case t9 => k_is); (case t10 => k_is))
    (case ownE => refine' L2.ownC_mk ?t1 ?t2 ?t3 ?t4 ?t5 ?t6 ?t7 ?t8 ?t9 ?t10; (case t1 => k_is); (case t2 => k_is); (case t3 => k_is); (case t4 => k_is); (case t5 => k_is); (case t6 => k_is); (case t7 => k_is); (case t8 => k_is); (case t9 => k_is); (case t10 => k_is))
    (case n0 => unfold L2.NoAttr; k_is)
    (case n1 => unfold L2.NoAttr; k_is)
    (case n2 => unfold L2.NoAttr; k_is)
    (case n3 => unfold L2.NoAttr; k_is)
    (case n4 => unfold L2.NoAttr; k_is)
    (case n5 => unfold L2.NoAttr; k_is)
    (case nk => unfold L2.NoAttr; k_is)
    (case nt => unfold L2.NoAttr; k_is)
    (case nb => unfold L2.NoAttr; k_is)
    (case nr => unfold L2.NoAttr; k_is)
    (case ec => unfold L2.NoAttr; k_is)
    (case em => unfold L2.NoAttr; k_is)
    (case eb => unfold L2.NoAttr; k_is)
    (case ed => unfold L2.NoAttr; k_is)
    (case et => unfold L2.NoAttr; k_is)
    (case ep => unfold L2.NoAttr; k_is)
    (case E0 => refine' L2.errC_mk KX G ?aC ?xL ?rf ?sa ?ga ?gg ?nb ?kC ?eC ?tC ?hC ?a1 ?t1 ?l ?c ?k; (case aC => k_is); (case xL => k_is); (case rf => decide +kernel); (case sa => k_is); (case ga => k_is); (case gg => k_is); (case nb => k_is); (case kC => k_is); (case eC => k_is); (case tC => k_is); (case hC => k_is); (case a1 => k_is); (case t1 => k_is); (case l => k_is); (case c => k_is); (case k => k_is))
    (case E1 => refine' L2.errC_mk KX G ?aC ?xL ?rf ?sa ?ga ?gg ?nb ?kC ?eC ?tC ?hC ?a1 ?t1 ?l ?c ?k; (case aC => k_is); (case xL => k_is); (case rf => decide +kernel); (case sa => k_is); (case ga => k_is); (case gg => k_is); (case nb => k_is); (case kC => k_is); (case eC => k_is); (case tC => k_is); (case hC => k_is); (case a1 => k_is); (case t1 => k_is); (case l => k_is); (case c => k_is); (case k => k_is))
    (case E2 => refine' L2.errC_mk KX G ?aC ?xL ?rf ?sa ?ga ?gg ?nb ?kC ?eC ?tC ?hC ?a1 ?t1 ?l ?c ?k; (case aC => k_is); (case xL => k_is); (case rf => decide +kernel); (case sa => k_is); (case ga => k_is); (case gg => k_is); (case nb => k_is); (case kC => k_is); (case eC => k_is); (case tC => k_is); (case hC => k_is); (case a1 => k_is); (case t1 => k_is); (case l => k_is); (case c => k_is); (case k => k_is))
    (case TF => refine' N.fitC_mk KX G ?aC ?xL ?rf ?sa ?ga ?gg ?nb ?nb2 ?kC ?eC ?tC ?hC ?a1 ?t1 ?l ?c ?k; (case aC => k_is); (case xL => k_is); (case rf => decide +kernel); (case sa => k_is); (case ga => k_is); (case gg => k_is); (case nb => k_is); (case nb2 => k_is); (case kC => k_is); (case eC => k_is); (case tC => k_is); (case hC => k_is); (case a1 => k_is); (case t1 => k_is); (case l => k_is); (case c => k_is); (case k => k_is))
    (case xff => refine' L2.exm_mk ?h1 ?h2 ?h3 ?h4; (case h1 => k_is); (case h2 => k_is); (case h3 => k_is); (case h4 => first | rfl | k_is))
    (case UT => refine' N.usualT_mk KX G ?g ?l ?l0 ?l1 ?l2 ?l3 ?l4 ?l5 ?l6 ?l7 ?l8 ?l9; (case g => k_is); (case l => k_is); (case l0 => k_is); (case l1 => k_is); (case l2 => k_is); (case l3 => k_is); (case l4 => k_is); (case l5 => k_is); (case l6 => k_is); (case l7 => k_is); (case l8 => k_is); (case l9 => k_is))
    (case CR => refine' ⟨?r, ?g⟩; (case r => k_is); (case g => k_is))
    (case CU => refine' N.clsAt_mk ?a ?r ?f ?l ?c ?k; (case a => k_is); (case r => k_is); (case f => k_is); (case l => k_is); (case c => k_is); (case k => k_is))
    (case I =>
      refine' L2.initAt_mk KX G ?i1 ?i2 ?i3 ?i4 ?i5 (L2.funK_mk ?i6 ?i7 ?i8 ?i9)
      (case i1 => k_is); (case i2 => k_is); (case i3 => k_is); (case i4 => k_is); (case i5 => k_is); (case i6 => k_is); (case i7 => k_is); (case i8 => k_is)
      (case i9 =>
        intro q hq
        simp only [List.mem_cons, List.mem_nil_iff, or_false] at hq
        rcases hq with rfl | rfl | rfl
        · exact ⟨.none, by k_is, rfl⟩
        · exact ⟨.none, by k_is, rfl⟩
        · exact ⟨_, by k_is, ⟨_, rfl⟩⟩))
    (case FI => refine' N.initAtC_mk ?m ?i ?n ?k ?l ?c; (case m => k_is); (case i => k_is); (case n => k_is); (case k => k_is); (case l => k_is); (case c => k_is))
    (case IL => refine' N.initN_mk KX G ?g ?m ?i ?n ?k ?l ?c ?kk; (case g => k_is); (case m => k_is); (case i => k_is); (case n => k_is); (case k => k_is); (case l => k_is); (case c => k_is); (case kk => k_is))
    (case IE => refine' N.initN_mk KX G ?g ?m ?i ?n ?k ?l ?c ?kk; (case g => k_is); (case m => k_is); (case i => k_is); (case n => k_is); (case k => k_is); (case l => k_is); (case c => k_is); (case kk => k_is))
    (case F1 => refine' L2.funAt_mk KX G ?a ?l ?c ?k; (case a => k_is); (case l => k_is); (case c => k_is); (case k => k_is))
    (case F2 => refine' L2.funAt_mk KX G ?a ?l ?c ?k; (case a => k_is); (case l => k_is); (case c => k_is); (case k => k_is))
    (case F3 => refine' L2.funAt_mk KX G ?a ?l ?c ?k; (case a => k_is); (case l => k_is); (case c => k_is); (case k => k_is))
    (case F4 => refine' L2.funAt_mk KX G ?a ?l ?c ?k; (case a => k_is); (case l => k_is); (case c => k_is); (case k => k_is))
    (case F5 => refine' L2.funAt_mk KX G ?a ?l ?c ?k; (case a => k_is); (case l => k_is); (case c => k_is); (case k => k_is))
    (case F6 => refine' L2.funAt_mk KX G ?a ?l ?c ?k; (case a => k_is); (case l => k_is); (case c => k_is); (case k => k_is))
    (case F7 => refine' L2.funAt_mk KX G ?a ?l ?c ?k; (case a => k_is); (case l => k_is); (case c => k_is); (case k => k_is))
    (case F8 => refine' L2.funAt_mk KX G ?a ?l ?c ?k; (case a => k_is); (case l => k_is); (case c => k_is); (case k => k_is))
    (case F9 => refine' L2.funAt_mk KX G ?a ?l ?c ?k; (case a => k_is); (case l => k_is); (case c => k_is); (case k => k_is))
    (case F10 => refine' L2.funAt_mk KX G ?a ?l ?c ?k; (case a => k_is); (case l => k_is); (case c => k_is); (case k => k_is))
    (case F11 => refine' L2.funAt_mk KX G ?a ?l ?c ?k; (case a => k_is); (case l => k_is); (case c => k_is); (case k => k_is))
    (case F12 => refine' L2.funAt_mk KX G ?a ?l ?c ?k; (case a => k_is); (case l => k_is); (case c => k_is); (case k => k_is))
    (case F13 => refine' L2.funAt_mk KX G ?a ?l ?c ?k; (case a => k_is); (case l => k_is); (case c => k_is); (case k => k_is))
    (case F14 => refine' L2.funAt_mk KX G ?a ?l ?c ?k; (case a => k_is); (case l => k_is); (case c => k_is); (case k => k_is))
    (case F15 => refine' L2.funAt_mk KX G ?a ?l ?c ?k; (case a => k_is); (case l => k_is); (case c => k_is); (case k => k_is))
    (case F16 => refine' L2.funAt_mk KX G ?a ?l ?c ?k; (case a => k_is); (case l => k_is); (case c => k_is); (case k => k_is))
    (case F17 => refine' L2.funAt_mk KX G ?a ?l ?c ?k; (case a => k_is); (case l => k_is); (case c => k_is); (case k => k_is))
    (case F18 => refine' L2.funAt_mk KX G ?a ?l ?c ?k; (case a => k_is); (case l => k_is); (case c => k_is); (case k => k_is))
    (case F19 => refine' L2.funAt_mk KX G ?a ?l ?c ?k; (case a => k_is); (case l => k_is); (case c => k_is); (case k => k_is))
    (case F20 => refine' L2.funAt_mk KX G ?a ?l ?c ?k; (case a => k_is); (case l => k_is); (case c => k_is); (case k => k_is))
    (case F21 => refine' L2.funAt_mk KX G ?a ?l ?c ?k; (case a => k_is); (case l => k_is); (case c => k_is); (case k => k_is))
    (case F22 => refine' L2.funAt_mk KX G ?a ?l ?c ?k; (case a => k_is); (case l => k_is); (case c => k_is); (case k => k_is))
    (case F23 => refine' L2.funAt_mk KX G ?a ?l ?c ?k; (case a => k_is); (case l => k_is); (case c => k_is); (case k => k_is))
    (case F24 => refine' L2.funAt_mk KX G ?a ?l ?c ?k; (case a => k_is); (case l => k_is); (case c => k_is); (case k => k_is))
    (case F25 => refine' L2.funAt_mk KX G ?a ?l ?c ?k; (case a => k_is); (case l => k_is); (case c => k_is); (case k => k_is))
    (case F26 => refine' L2.funAt_mk KX G ?a ?l ?c ?k; (case a => k_is); (case l => k_is); (case c => k_is); (case k => k_is))
    (case F27 => refine' L2.funAt_mk KX G ?a ?l ?c ?k; (case a => k_is); (case l => k_is); (case c => k_is); (case k => k_is))
    (case F28 => refine' L2.funAt_mk KX G ?a ?l ?c ?k; (case a => k_is); (case l => k_is); (case c => k_is); (case k => k_is))
    (case F29 => refine' L2.funAt_mk KX G ?a ?l ?c ?k; (case a => k_is); (case l => k_is); (case c => k_is); (case k => k_is))
    (case F30 => refine' L2.funAt_mk KX G ?a ?l ?c ?k; (case a => k_is); (case l => k_is); (case c => k_is); (case k => k_is))
    (case F31 => refine' L2.funAt_mk KX G ?a ?l ?c ?k; (case a => k_is); (case l => k_is); (case c => k_is); (case k => k_is))
    (case F32 => refine' L2.funAt_mk KX G ?a ?l ?c ?k; (case a => k_is); (case l => k_is); (case c => k_is); (case k => k_is))
    (case F33 => refine' L2.funAt_mk KX G ?a ?l ?c ?k; (case a => k_is); (case l => k_is); (case c => k_is); (case k => k_is))
    (case P1 => refine' L2.propAt_mk ?a ?b ?t ?r ?l ?c ?k; (case a => k_is); (case b => k_is); (case t => k_is); (case r => k_is); (case l => k_is); (case c => k_is); (case k => k_is))
    (case P2 => refine' L2.propAt_mk ?a ?b ?t ?r ?l ?c ?k; (case a => k_is); (case b => k_is); (case t => k_is); (case r => k_is); (case l => k_is); (case c => k_is); (case k => k_is))
    (case P3 => refine' L2.propAt_mk ?a ?b ?t ?r ?l ?c ?k; (case a => k_is); (case b => k_is); (case t => k_is); (case r => k_is); (case l => k_is); (case c => k_is); (case k => k_is))
    (case P4 => refine' L2.propAt_mk ?a ?b ?t ?r ?l ?c ?k; (case a => k_is); (case b => k_is); (case t => k_is); (case r => k_is); (case l => k_is); (case c => k_is); (case k => k_is))
    (case P5 => refine' L2.propAt_mk ?a ?b ?t ?r ?l ?c ?k; (case a => k_is); (case b => k_is); (case t => k_is); (case r => k_is); (case l => k_is); (case c => k_is); (case k => k_is))
    (case P6 => refine' L2.propAt_mk ?a ?b ?t ?r ?l ?c ?k; (case a => k_is); (case b => k_is); (case t => k_is); (case r => k_is); (case l => k_is); (case c => k_is); (case k => k_is))
    (case Q1 => refine' L2.propAt_mk ?a ?b ?t ?r ?l ?c ?k; (case a => k_is); (case b => k_is); (case t => k_is); (case r => k_is); (case l => k_is); (case c => k_is); (case k => k_is))
    (case Q2 => refine' L2.propAt_mk ?a ?b ?t ?r ?l ?c ?k; (case a => k_is); (case b => k_is); (case t => k_is); (case r => k_is); (case l => k_is); (case c => k_is); (case k => k_is))
    (case Q3 => refine' L2.propAt_mk ?a ?b ?t ?r ?l ?c ?k; (case a => k_is); (case b => k_is); (case t => k_is); (case r => k_is); (case l => k_is); (case c => k_is); (case k => k_is))
    (case M1 => refine' L2.methAt_mk ?a ?i ?l ?c ?k; (case a => k_is); (case i => k_is); (case l => k_is); (case c => k_is); (case k => k_is))
    (case M2 => refine' L2.methAt_mk ?a ?i ?l ?c ?k; (case a => k_is); (case i => k_is); (case l => k_is); (case c => k_is); (case k => k_is))
    (case M3 => refine' L2.methAt_mk ?a ?i ?l ?c ?k; (case a => k_is); (case i => k_is); (case l => k_is); (case c => k_is); (case k => k_is))
    (case M4 => refine' L2.methAt_mk ?a ?i ?l ?c ?k; (case a => k_is); (case i => k_is); (case l => k_is); (case c => k_is); (case k => k_is))
    (case M5 => refine' L2.methAt_mk ?a ?i ?l ?c ?k; (case a => k_is); (case i => k_is); (case l => k_is); (case c => k_is); (case k => k_is))
    (case M6 => refine' L2.methAt_mk ?a ?i ?l ?c ?k; (case a => k_is); (case i => k_is); (case l => k_is); (case c => k_is); (case k => k_is))
    (case M7 => refine' L2.methAt_mk ?a ?i ?l ?c ?k; (case a => k_is); (case i => k_is); (case l => k_is); (case c => k_is); (case k => k_is))
    (case N1 => refine' L2.methAt_mk ?a ?i ?l ?c ?k; (case a => k_is); (case i => k_is); (case l => k_is); (case c => k_is); (case k => k_is))
    (case N2 => refine' L2.methAt_mk ?a ?i ?l ?c ?k; (case a => k_is); (case i => k_is); (case l => k_is); (case c => k_is); (case k => k_is))
    (case N3 => refine' L2.methAt_mk ?a ?i ?l ?c ?k; (case a => k_is); (case i => k_is); (case l => k_is); (case c => k_is); (case k => k_is))
    (case V1 => refine' L2.methAt_mk ?a ?i ?l ?c ?k; (case a => k_is); (case i => k_is); (case l => k_is); (case c => k_is); (case k => k_is))
    (case V2 => refine' L2.methAt_mk ?a ?i ?l ?c ?k; (case a => k_is); (case i => k_is); (case l => k_is); (case c => k_is); (case k => k_is))
    (case V3 => refine' L2.methAt_mk ?a ?i ?l ?c ?k; (case a => k_is); (case i => k_is); (case l => k_is); (case c => k_is); (case k => k_is))
    (case V4 => refine' L2.methAt_mk ?a ?i ?l ?c ?k; (case a => k_is); (case i => k_is); (case l => k_is); (case c => k_is); (case k => k_is))
    (case V5 => refine' L2.methAt_mk ?a ?i ?l ?c ?k; (case a => k_is); (case i => k_is); (case l => k_is); (case c => k_is); (case k => k_is))
    (case V6 => refine' L2.methAt_mk ?a ?i ?l ?c ?k; (case a => k_is); (case i => k_is); (case l => k_is); (case c => k_is); (case k => k_is))
    (case code1 => refine' L2.codeHd_mk ?l ?a ?b ?c ?d ?e ?f; (case l => k_is); (case a => rfl); (case b => exact ⟨_, _, rfl⟩); (case c => exact ⟨_, _, rfl⟩); (case d => exact ⟨_, rfl⟩); (case e => exact ⟨_, _, rfl⟩); (case f => decide))
    (case loose1 => exact L2.km_none Y (by decide +kernel))

