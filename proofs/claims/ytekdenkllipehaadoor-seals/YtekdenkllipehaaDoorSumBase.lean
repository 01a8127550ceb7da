import Derived.Test.YtekdenkllipehaaDoorCrc
namespace Go.Proofs.YtekdenkllipehaaDoor

theorem take_snoc (s : ByteArray) (k : Nat) (h : k < s.size) : s.data.toList.take (k + 1) = s.data.toList.take k ++ [s[k]] := by
  rw [List.take_succ_eq_append_getElem (by simpa using h)]; rfl

end Go.Proofs.YtekdenkllipehaaDoor
