/- The contract of the reader's reply, at every room. -/
import Derived.Test.YtcjbfgkmpoebgaaDoorRpReply
namespace Go.Proofs.YtcjbfgkmpoebgaaDoor
open Go.RowKit Go.Shelf

/-- THE READER's CONTRACT: a reply, so many levels deep at most. -/
theorem reply_any (S : Nat → Prop) (Pb : Nat) (hS : ¬ S Pb) (hPb8 : 8 ≤ Pb) : ∀ (d : Nat) (bs : List UInt8) (w : World), d ≤ 1000 → Rst S Pb w bs → (∀ k, S k → k < w.heap.size) → Env w → (∀ t, Rp.IsSuf t bs → IA (t.take 512)) →
    CallsIn Fence.wide 0 Tryd.prog 29 #[.pointer (some ⟨Pb, 0, none⟩), .int .i64 d] w (ROut S Pb w (Rp.replyD d bs))
  | 0, bs, w, _, h, hSlt, henv, hia => by
    rw [show ((0 : Nat) : Int) = 0 from rfl, Rp.replyD]
    exact mark_any 0 _ S Pb bs w h hS hSlt henv hPb8 hia fun _ w' _ _ _ _ => array_zero S Pb w'
  | d + 1, bs, w, hd, h, hSlt, henv, hia => by
    have ih := reply_any S Pb hS hPb8 d
    rw [Int.natCast_succ, Rp.replyD]
    exact mark_any ((d : Int) + 1) _ S Pb bs w h hS hSlt henv hPb8 hia fun b w' hb hr he hs =>
      array_any d (by omega) (Rp.replyD d) S Pb b w' hr hS hs he hPb8 (fun _ _ _ h => Rp.replyD_suf d h) (fun _ _ h => Rp.devP_suf h) fun b' w'' hb' hr' he' hs' =>
        ih b' w'' (by omega) hr' hs' he' fun t ht => hia t (ht.trans (hb'.trans hb))
end Go.Proofs.YtcjbfgkmpoebgaaDoor
