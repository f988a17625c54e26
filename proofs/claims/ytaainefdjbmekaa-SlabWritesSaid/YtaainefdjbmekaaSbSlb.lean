/- What the slab's texts stand on: dnew_good dwrite_any dread_any dblocks dfail_any DReadPost newSt write_yes write_no no_hit applied_look PSt Dev new_any take_any' mark_any' free_any RepP snew_any' sadd_any' suses_any' sless_any' ssettle_any' sback_any' smap_op RepSV RepB kb_of ShSt OpS OpR shst_taken take_some shst_start i64_nat giveAll_at mem_ins mem_news back_taken back_change StOk free_giveAll enc_ok enc_no pdec_any node_any back_any same_any NdAt dec_enc make_by open_by open_frame fr_open fr_len fr_data fr_g4 fr_g8 fr_sizeV openE make_bytes byblk_zeros byblk_sl by_zeros zcells_list blocks_lit. -/
import Derived.Test.YtaainefdjbmekaaSbce
import Derived.Test.YtaainefdjbmekaaSbcg
import Derived.Test.YtaainefdjbmekaaSbch
import Derived.Test.YtaainefdjbmekaaSbci
import Derived.Test.YtaainefdjbmekaaSbda
import Derived.Test.YtaainefdjbmekaaSbdj
import Derived.Test.YtaainefdjbmekaaSbea
import Derived.Test.YtaainefdjbmekaaSbed
import Derived.Test.YtaainefdjbmekaaSbee
import Derived.Test.YtaainefdjbmekaaSbi
namespace Go.Proofs.Ytaainefdjbmekaa
theorem slab_base : True := trivial
end Go.Proofs.Ytaainefdjbmekaa
