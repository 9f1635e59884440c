/- The walk of the law NodeBack. -/
import Derived.Test.YtcfmpidibbbehaaNdBackB
import Derived.Test.YtcfmpidibbbehaaNdBackC
import Derived.Test.YtcfmpidibbbehaaNdBackD
import Derived.Test.YtcfmpidibbbehaaNdBackE
import Derived.Test.YtcfmpidibbbehaaNdBackF
import Derived.Test.YtcfmpidibbbehaaNdBackG
import Derived.Test.YtcfmpidibbbehaaNdBackH
namespace Go.Proofs.Ytcfmpidibbbehaa
open Go Go.RowKit
set_option maxRecDepth 100000 in
theorem nodeBack_walk (l m : List (ByteArray × ByteArray)) (ks : List ByteArray) (kids : List Int) (mo : Int) (u1 u2 u3 u4 : Value) (hmo : 0 ≤ mo ∧ mo < 256) (sz1 : ∀ p ∈ l, p.1.size ≤ 1152921504606846976 ∧ p.2.size ≤ 1152921504606846976) (sz2 : ∀ p ∈ m, p.1.size ≤ 1152921504606846976 ∧ p.2.size ≤ 1152921504606846976) (kb : ∀ x ∈ kids, 0 ≤ x ∧ x < 4294967296) (w : World) (vl : SlP w u1 l) (vm : SlP w u2 m) (vk : SlS w u3 ks) (vi : SlU w u4 kids) :
    Calls Try.prog 5 #[u1, u2, u3, u4, .int .u8 mo] w fun e w' => e = .returned (.bool true) ∧ Below w.heap.size w w' := by
  obtain ⟨q1, d1, rfl, _⟩ := SlV.len vl
  obtain ⟨q2, d2, rfl, _⟩ := SlV.len vm
  obtain ⟨q3, d3, rfl, _⟩ := SlV.len vk
  obtain ⟨q4, d4, rfl, _⟩ := SlV.len vi
  by_cases h1 : l.length ≤ 40
  · by_cases h2 : m.length ≤ 40
    · by_cases h3 : ks.length ≤ 40
      · by_cases h4 : kids.length ≤ 41
        · by_cases hE : leafCode l = 0
          · by_cases hG : branchCode ks kids.length = 0
            · by_cases hF : leafCode m = 0
              · by_cases hLM : l = m
                · exact back_fge l m ks kids mo q1 q2 q3 q4 _ _ _ _ d1 d2 d3 d4 rfl rfl rfl rfl h1 h2 h3 h4 hmo sz1 sz2 kb hE hG hF hLM w vl vm vk vi
                · exact back_fgd l m ks kids mo q1 q2 q3 q4 _ _ _ _ d1 d2 d3 d4 rfl rfl rfl rfl h1 h2 h3 h4 hmo sz1 sz2 kb hE hG hF hLM w vl vm vk vi
              · exact back_eg l m ks kids mo q1 q2 q3 q4 _ _ _ _ d1 d2 d3 d4 rfl rfl rfl rfl h1 h2 h3 h4 hmo sz1 sz2 kb hE hG hF w vl vm vk vi
            · by_cases hF : leafCode m = 0
              · by_cases hLM : l = m
                · exact back_fne l m ks kids mo q1 q2 q3 q4 _ _ _ _ d1 d2 d3 d4 rfl rfl rfl rfl h1 h2 h3 h4 hmo sz1 sz2 kb hE hG hF hLM w vl vm vk vi
                · exact back_fnd l m ks kids mo q1 q2 q3 q4 _ _ _ _ d1 d2 d3 d4 rfl rfl rfl rfl h1 h2 h3 h4 hmo sz1 sz2 kb hE hG hF hLM w vl vm vk vi
              · exact back_en l m ks kids mo q1 q2 q3 q4 _ _ _ _ d1 d2 d3 d4 rfl rfl rfl rfl h1 h2 h3 h4 hmo sz1 sz2 kb hE hG hF w vl vm vk vi
          · by_cases hG : branchCode ks kids.length = 0
            · exact back_ng l m ks kids mo q1 q2 q3 q4 _ _ _ _ d1 d2 d3 d4 rfl rfl rfl rfl h1 h2 h3 h4 hmo sz1 sz2 kb hE hG w vl vm vk vi
            · exact back_nn l m ks kids mo q1 q2 q3 q4 _ _ _ _ d1 d2 d3 d4 rfl rfl rfl rfl h1 h2 h3 h4 hmo sz1 sz2 kb hE hG w vl vm vk vi
        · exact back_out_d mo q1 q2 q3 q4 _ _ _ _ d1 d2 d3 d4 h1 h2 h3 (by omega) w
      · exact back_out_c mo q1 q2 q3 q4 _ _ _ _ d1 d2 d3 d4 h1 h2 (by omega) w
    · exact back_out_b mo q1 q2 q3 q4 _ _ _ _ d1 d2 d3 d4 h1 (by omega) w
  · exact back_out_a mo q1 q2 q3 q4 _ _ _ _ d1 d2 d3 d4 (by omega) w
end Go.Proofs.Ytcfmpidibbbehaa
