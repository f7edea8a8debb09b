/- Plain: a queue into which jobs are put, one behind the other. -/
import Derived.Test.YtgcpkploeobafabEdPure
namespace Go.Proofs.Ytgcpkploeobafab.Bt

/-- The first k of l, put into a queue. -/
def fillK (l : List Jb) (k : Nat) : List Jb := (l.take k).foldl pushQ []

theorem fillK_zero (l : List Jb) : fillK l 0 = [] := rfl

theorem fillK_step (l : List Jb) {k : Nat} (h : k < l.length) : fillK l (k + 1) = pushQ (fillK l k) l[k] := by
  unfold fillK
  rw [List.take_add_one, List.getElem?_eq_getElem h, List.foldl_append]
  rfl

theorem fillK_ok (l : List Jb) (k : Nat) : QOk (fillK l k) := by
  unfold fillK
  generalize l.take k = m
  have key : ∀ (m x : List Jb), QOk x → QOk (m.foldl pushQ x) := by
    intro m
    induction m with
    | nil => intro x h; exact h
    | cons j m ih => intro x h; exact ih _ (pushQ_ok h j)
  exact key m [] qok_nil

theorem pushQ_yes {x : List Jb} {j : Jb} (h : pushE' x j = 0) : pushQ x j = insJ x j := by unfold pushQ; rw [if_pos h]
theorem pushQ_no {x : List Jb} {j : Jb} (h : pushE' x j ≠ 0) : pushQ x j = x := by unfold pushQ; rw [if_neg h]

/-- How many are late, with one more. -/
theorem late_push_yes {x : List Jb} {j : Jb} {now : Int} (h : pushE' x j = 0) : (lateD (pushQ x j) now).length = (lateD x now).length + (if j.dl ≤ now then 1 else 0) := by
  rw [pushQ_yes h]
  unfold lateD
  rw [insJ_count]
  simp

theorem late_push_no {x : List Jb} {j : Jb} {now : Int} (h : pushE' x j ≠ 0) : (lateD (pushQ x j) now).length = (lateD x now).length := by rw [pushQ_no h]

/-- Without a bed's, with one more. -/
theorem drop_push_no {x : List Jb} {j : Jb} {bed : Int} (h : pushE' x j ≠ 0) : dropN (pushQ x j) bed = dropN x bed ∧ dropR (pushQ x j) bed = dropR x bed := by rw [pushQ_no h]; exact ⟨rfl, rfl⟩

theorem drop_push_own {x : List Jb} {j : Jb} {bed : Int} (h : pushE' x j = 0) (hb : j.bed = bed) : dropN (pushQ x j) bed = dropN x bed + 1 ∧ dropR (pushQ x j) bed = dropR x bed := by
  rw [pushQ_yes h]
  constructor
  · unfold dropN
    rw [insJ_count, if_pos (by simpa using hb)]
  · unfold dropR
    rw [insJ_filter_no _ _ _ (by simpa using hb)]

theorem push_parts {x : List Jb} {j : Jb} (h : pushE' x j = 0) : mayJ j = true ∧ x.length < 40 := by
  unfold pushE' at h
  split at h
  · rename_i r
    split at h
    · exact absurd h (by decide)
    · exact ⟨r, by omega⟩
  · exact absurd h (by decide)

theorem drop_push_other {x : List Jb} {j : Jb} {bed : Int} (hx : QOk x) (h : pushE' x j = 0) (hb : j.bed ≠ bed) : dropN (pushQ x j) bed = dropN x bed ∧ dropR (pushQ x j) bed = pushQ (dropR x bed) j := by
  obtain ⟨hm, hl⟩ := push_parts h
  have e0 : pushE' (dropR x bed) j = 0 := by
    unfold pushE'
    have : (dropR x bed).length ≤ x.length := List.length_filter_le _ _
    rw [if_pos hm, if_neg (by omega)]
  rw [pushQ_yes h, pushQ_yes e0]
  constructor
  · unfold dropN
    rw [insJ_count, if_neg (by simpa using hb)]
    rfl
  · unfold dropR
    exact insJ_filter hx.srt j _ (by simpa using hb)

theorem workD_len (x : List Jb) (u : Nat) : (workD x u).length ≤ x.length := by
  induction x generalizing u with
  | nil => simp [workD]
  | cons j x ih =>
    unfold workD
    split
    · simp
    · split
      · simp only [List.length_cons]
        have := ih (u - j.left.toNat)
        omega
      · simp

end Go.Proofs.Ytgcpkploeobafab.Bt
