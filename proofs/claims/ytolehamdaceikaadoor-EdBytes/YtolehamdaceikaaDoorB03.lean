/- The four moduli are primes, by records of their powers. The second curve's own numbers: its points are a group, and the modulus 3 times the base point is the neutral one. Points of three numbers, X / Z and Y / Z, as the document reckons with them: they are the points of the second curve. The moduli by their numbers, and plain facts on what is left of a number. What math/bits.LeadingZeros64 and Div64 answer at the greatest words of the moduli. -/
import Derived.Test.YtolehamdaceikaaDoorB02
import Derived.Test.YtolehamdaceikaaDoorB01
import Derived.Laws.MathBits
namespace Go.Proofs.YtolehamdaceikaaDoor

theorem prm2 : Prm 2 := prm_small (by decide +kernel)
theorem prm3 : Prm 3 := prm_small (by decide +kernel)
theorem prm5 : Prm 5 := prm_small (by decide +kernel)
theorem prm17 : Prm 17 := prm_small (by decide +kernel)
theorem prm257 : Prm 257 := prm_small (by decide +kernel)
theorem prm641 : Prm 641 := prm_small (by decide +kernel)
theorem prm1531 : Prm 1531 := prm_small (by decide +kernel)
theorem full65537 : Full 65537 := by
  refine lucas_rec 3 [2, 2, 2, 2, 2, 2, 2, 2, 2, 2, 2, 2, 2, 2, 2, 2] (by decide +kernel) (fun q hq => ?_)
  simp only [List.mem_cons, List.not_mem_nil, or_false] at hq
  rcases hq with rfl | rfl | rfl | rfl | rfl | rfl | rfl | rfl | rfl | rfl | rfl | rfl | rfl | rfl | rfl | rfl
  · exact prm2
  · exact prm2
  · exact prm2
  · exact prm2
  · exact prm2
  · exact prm2
  · exact prm2
  · exact prm2
  · exact prm2
  · exact prm2
  · exact prm2
  · exact prm2
  · exact prm2
  · exact prm2
  · exact prm2
  · exact prm2
theorem prm65537 : Prm 65537 := full65537.prm
theorem prm7 : Prm 7 := prm_small (by decide +kernel)
theorem prm53 : Prm 53 := prm_small (by decide +kernel)
theorem prm661 : Prm 661 := prm_small (by decide +kernel)
theorem full490463 : Full 490463 := by
  refine lucas_rec 14 [2, 7, 53, 661] (by decide +kernel) (fun q hq => ?_)
  simp only [List.mem_cons, List.not_mem_nil, or_false] at hq
  rcases hq with rfl | rfl | rfl | rfl
  · exact prm2
  · exact prm7
  · exact prm53
  · exact prm661
theorem prm490463 : Prm 490463 := full490463.prm
theorem prm727 : Prm 727 := prm_small (by decide +kernel)
theorem full17449 : Full 17449 := by
  refine lucas_rec 14 [2, 2, 2, 3, 727] (by decide +kernel) (fun q hq => ?_)
  simp only [List.mem_cons, List.not_mem_nil, or_false] at hq
  rcases hq with rfl | rfl | rfl | rfl | rfl
  · exact prm2
  · exact prm2
  · exact prm2
  · exact prm3
  · exact prm727
theorem prm17449 : Prm 17449 := full17449.prm
theorem full6700417 : Full 6700417 := by
  refine lucas_rec 5 [2, 2, 2, 2, 2, 2, 2, 3, 17449] (by decide +kernel) (fun q hq => ?_)
  simp only [List.mem_cons, List.not_mem_nil, or_false] at hq
  rcases hq with rfl | rfl | rfl | rfl | rfl | rfl | rfl | rfl | rfl
  · exact prm2
  · exact prm2
  · exact prm2
  · exact prm2
  · exact prm2
  · exact prm2
  · exact prm2
  · exact prm3
  · exact prm17449
theorem prm6700417 : Prm 6700417 := full6700417.prm
theorem prm2411 : Prm 2411 := prm_small (by decide +kernel)
theorem prm11 : Prm 11 := prm_small (by decide +kernel)
theorem prm23 : Prm 23 := prm_small (by decide +kernel)
theorem prm107 : Prm 107 := prm_small (by decide +kernel)
theorem prm3769 : Prm 3769 := prm_small (by decide +kernel)
theorem full204061199 : Full 204061199 := by
  refine lucas_rec 11 [2, 11, 23, 107, 3769] (by decide +kernel) (fun q hq => ?_)
  simp only [List.mem_cons, List.not_mem_nil, or_false] at hq
  rcases hq with rfl | rfl | rfl | rfl | rfl
  · exact prm2
  · exact prm11
  · exact prm23
  · exact prm107
  · exact prm3769
theorem prm204061199 : Prm 204061199 := full204061199.prm
theorem full34282281433 : Full 34282281433 := by
  refine lucas_rec 17 [2, 2, 2, 3, 7, 204061199] (by decide +kernel) (fun q hq => ?_)
  simp only [List.mem_cons, List.not_mem_nil, or_false] at hq
  rcases hq with rfl | rfl | rfl | rfl | rfl | rfl
  · exact prm2
  · exact prm2
  · exact prm2
  · exact prm3
  · exact prm7
  · exact prm204061199
theorem prm34282281433 : Prm 34282281433 := full34282281433.prm
theorem prm173 : Prm 173 := prm_small (by decide +kernel)
theorem prm197 : Prm 197 := prm_small (by decide +kernel)
theorem prm3677 : Prm 3677 := prm_small (by decide +kernel)
theorem full66417393611 : Full 66417393611 := by
  refine lucas_rec 6 [2, 5, 53, 173, 197, 3677] (by decide +kernel) (fun q hq => ?_)
  simp only [List.mem_cons, List.not_mem_nil, or_false] at hq
  rcases hq with rfl | rfl | rfl | rfl | rfl | rfl
  · exact prm2
  · exact prm5
  · exact prm53
  · exact prm173
  · exact prm197
  · exact prm3677
theorem prm66417393611 : Prm 66417393611 := full66417393611.prm
theorem full11290956913871 : Full 11290956913871 := by
  refine lucas_rec 13 [2, 5, 17, 66417393611] (by decide +kernel) (fun q hq => ?_)
  simp only [List.mem_cons, List.not_mem_nil, or_false] at hq
  rcases hq with rfl | rfl | rfl | rfl
  · exact prm2
  · exact prm5
  · exact prm17
  · exact prm66417393611
theorem prm11290956913871 : Prm 11290956913871 := full11290956913871.prm
theorem prm757 : Prm 757 := prm_small (by decide +kernel)
theorem full18169 : Full 18169 := by
  refine lucas_rec 11 [2, 2, 2, 3, 757] (by decide +kernel) (fun q hq => ?_)
  simp only [List.mem_cons, List.not_mem_nil, or_false] at hq
  rcases hq with rfl | rfl | rfl | rfl | rfl
  · exact prm2
  · exact prm2
  · exact prm2
  · exact prm3
  · exact prm757
theorem prm18169 : Prm 18169 := full18169.prm
theorem prm4349 : Prm 4349 := prm_small (by decide +kernel)
theorem full78283 : Full 78283 := by
  refine lucas_rec 3 [2, 3, 3, 4349] (by decide +kernel) (fun q hq => ?_)
  simp only [List.mem_cons, List.not_mem_nil, or_false] at hq
  rcases hq with rfl | rfl | rfl | rfl
  · exact prm2
  · exact prm3
  · exact prm3
  · exact prm4349
theorem prm78283 : Prm 78283 := full78283.prm
theorem prm313 : Prm 313 := prm_small (by decide +kernel)
theorem full704251 : Full 704251 := by
  refine lucas_rec 2 [2, 3, 3, 5, 5, 5, 313] (by decide +kernel) (fun q hq => ?_)
  simp only [List.mem_cons, List.not_mem_nil, or_false] at hq
  rcases hq with rfl | rfl | rfl | rfl | rfl | rfl | rfl
  · exact prm2
  · exact prm3
  · exact prm3
  · exact prm5
  · exact prm5
  · exact prm5
  · exact prm313
theorem prm704251 : Prm 704251 := full704251.prm
theorem full46076956964474543 : Full 46076956964474543 := by
  refine lucas_rec 5 [2, 23, 18169, 78283, 704251] (by decide +kernel) (fun q hq => ?_)
  simp only [List.mem_cons, List.not_mem_nil, or_false] at hq
  rcases hq with rfl | rfl | rfl | rfl | rfl
  · exact prm2
  · exact prm23
  · exact prm18169
  · exact prm78283
  · exact prm704251
theorem prm46076956964474543 : Prm 46076956964474543 := full46076956964474543.prm
theorem full774023187263532362759620327192479577272145303 : Full 774023187263532362759620327192479577272145303 := by
  refine lucas_rec 3 [2, 3, 3, 2411, 34282281433, 11290956913871, 46076956964474543] (by decide +kernel) (fun q hq => ?_)
  simp only [List.mem_cons, List.not_mem_nil, or_false] at hq
  rcases hq with rfl | rfl | rfl | rfl | rfl | rfl | rfl
  · exact prm2
  · exact prm3
  · exact prm3
  · exact prm2411
  · exact prm34282281433
  · exact prm11290956913871
  · exact prm46076956964474543
theorem prm774023187263532362759620327192479577272145303 : Prm 774023187263532362759620327192479577272145303 := full774023187263532362759620327192479577272145303.prm
theorem full835945042244614951780389953367877943453916927241 : Full 835945042244614951780389953367877943453916927241 := by
  refine lucas_rec 11 [2, 2, 2, 3, 3, 3, 5, 774023187263532362759620327192479577272145303] (by decide +kernel) (fun q hq => ?_)
  simp only [List.mem_cons, List.not_mem_nil, or_false] at hq
  rcases hq with rfl | rfl | rfl | rfl | rfl | rfl | rfl | rfl
  · exact prm2
  · exact prm2
  · exact prm2
  · exact prm3
  · exact prm3
  · exact prm3
  · exact prm5
  · exact prm774023187263532362759620327192479577272145303
theorem prm835945042244614951780389953367877943453916927241 : Prm 835945042244614951780389953367877943453916927241 := full835945042244614951780389953367877943453916927241.prm
theorem full115792089210356248762697446949407573530086143415290314195533631308867097853951 : Full 115792089210356248762697446949407573530086143415290314195533631308867097853951 := by
  refine lucas_rec 6 [2, 3, 5, 5, 17, 257, 641, 1531, 65537, 490463, 6700417, 835945042244614951780389953367877943453916927241] (by decide +kernel) (fun q hq => ?_)
  simp only [List.mem_cons, List.not_mem_nil, or_false] at hq
  rcases hq with rfl | rfl | rfl | rfl | rfl | rfl | rfl | rfl | rfl | rfl | rfl | rfl
  · exact prm2
  · exact prm3
  · exact prm5
  · exact prm5
  · exact prm17
  · exact prm257
  · exact prm641
  · exact prm1531
  · exact prm65537
  · exact prm490463
  · exact prm6700417
  · exact prm835945042244614951780389953367877943453916927241
theorem prm115792089210356248762697446949407573530086143415290314195533631308867097853951 : Prm 115792089210356248762697446949407573530086143415290314195533631308867097853951 := full115792089210356248762697446949407573530086143415290314195533631308867097853951.prm
theorem prm71 : Prm 71 := prm_small (by decide +kernel)
theorem prm131 : Prm 131 := prm_small (by decide +kernel)
theorem prm373 : Prm 373 := prm_small (by decide +kernel)
theorem prm3407 : Prm 3407 := prm_small (by decide +kernel)
theorem prm37 : Prm 37 := prm_small (by decide +kernel)
theorem prm43 : Prm 43 := prm_small (by decide +kernel)
theorem full9547 : Full 9547 := by
  refine lucas_rec 2 [2, 3, 37, 43] (by decide +kernel) (fun q hq => ?_)
  simp only [List.mem_cons, List.not_mem_nil, or_false] at hq
  rcases hq with rfl | rfl | rfl | rfl
  · exact prm2
  · exact prm3
  · exact prm37
  · exact prm43
theorem prm9547 : Prm 9547 := full9547.prm
theorem full38189 : Full 38189 := by
  refine lucas_rec 2 [2, 2, 9547] (by decide +kernel) (fun q hq => ?_)
  simp only [List.mem_cons, List.not_mem_nil, or_false] at hq
  rcases hq with rfl | rfl | rfl
  · exact prm2
  · exact prm2
  · exact prm9547
theorem prm38189 : Prm 38189 := full38189.prm
theorem prm229 : Prm 229 := prm_small (by decide +kernel)
theorem prm1201 : Prm 1201 := prm_small (by decide +kernel)
theorem full9350987 : Full 9350987 := by
  refine lucas_rec 2 [2, 17, 229, 1201] (by decide +kernel) (fun q hq => ?_)
  simp only [List.mem_cons, List.not_mem_nil, or_false] at hq
  rcases hq with rfl | rfl | rfl | rfl
  · exact prm2
  · exact prm17
  · exact prm229
  · exact prm1201
theorem prm9350987 : Prm 9350987 := full9350987.prm
theorem full187019741 : Full 187019741 := by
  refine lucas_rec 2 [2, 2, 5, 9350987] (by decide +kernel) (fun q hq => ?_)
  simp only [List.mem_cons, List.not_mem_nil, or_false] at hq
  rcases hq with rfl | rfl | rfl | rfl
  · exact prm2
  · exact prm2
  · exact prm5
  · exact prm9350987
theorem prm187019741 : Prm 187019741 := full187019741.prm
theorem prm29 : Prm 29 := prm_small (by decide +kernel)
theorem prm311 : Prm 311 := prm_small (by decide +kernel)
theorem full311245691 : Full 311245691 := by
  refine lucas_rec 2 [2, 5, 7, 17, 29, 29, 311] (by decide +kernel) (fun q hq => ?_)
  simp only [List.mem_cons, List.not_mem_nil, or_false] at hq
  rcases hq with rfl | rfl | rfl | rfl | rfl | rfl | rfl
  · exact prm2
  · exact prm5
  · exact prm7
  · exact prm17
  · exact prm29
  · exact prm29
  · exact prm311
theorem prm311245691 : Prm 311245691 := full311245691.prm
theorem full622491383 : Full 622491383 := by
  refine lucas_rec 5 [2, 311245691] (by decide +kernel) (fun q hq => ?_)
  simp only [List.mem_cons, List.not_mem_nil, or_false] at hq
  rcases hq with rfl | rfl
  · exact prm2
  · exact prm311245691
theorem prm622491383 : Prm 622491383 := full622491383.prm
theorem prm263 : Prm 263 := prm_small (by decide +kernel)
theorem full126241 : Full 126241 := by
  refine lucas_rec 7 [2, 2, 2, 2, 2, 3, 5, 263] (by decide +kernel) (fun q hq => ?_)
  simp only [List.mem_cons, List.not_mem_nil, or_false] at hq
  rcases hq with rfl | rfl | rfl | rfl | rfl | rfl | rfl | rfl
  · exact prm2
  · exact prm2
  · exact prm2
  · exact prm2
  · exact prm2
  · exact prm3
  · exact prm5
  · exact prm263
theorem prm126241 : Prm 126241 := full126241.prm
theorem prm19 : Prm 19 := prm_small (by decide +kernel)
theorem prm31 : Prm 31 := prm_small (by decide +kernel)
theorem prm337 : Prm 337 := prm_small (by decide +kernel)
theorem full104471 : Full 104471 := by
  refine lucas_rec 11 [2, 5, 31, 337] (by decide +kernel) (fun q hq => ?_)
  simp only [List.mem_cons, List.not_mem_nil, or_false] at hq
  rcases hq with rfl | rfl | rfl | rfl
  · exact prm2
  · exact prm5
  · exact prm31
  · exact prm337
theorem prm104471 : Prm 104471 := full104471.prm
theorem full3969899 : Full 3969899 := by
  refine lucas_rec 2 [2, 19, 104471] (by decide +kernel) (fun q hq => ?_)
  simp only [List.mem_cons, List.not_mem_nil, or_false] at hq
  rcases hq with rfl | rfl | rfl
  · exact prm2
  · exact prm19
  · exact prm104471
theorem prm3969899 : Prm 3969899 := full3969899.prm
theorem full1002328039319 : Full 1002328039319 := by
  refine lucas_rec 19 [2, 126241, 3969899] (by decide +kernel) (fun q hq => ?_)
  simp only [List.mem_cons, List.not_mem_nil, or_false] at hq
  rcases hq with rfl | rfl | rfl
  · exact prm2
  · exact prm126241
  · exact prm3969899
theorem prm1002328039319 : Prm 1002328039319 := full1002328039319.prm
theorem prm1297 : Prm 1297 := prm_small (by decide +kernel)
theorem prm97 : Prm 97 := prm_small (by decide +kernel)
theorem full16879 : Full 16879 := by
  refine lucas_rec 3 [2, 3, 29, 97] (by decide +kernel) (fun q hq => ?_)
  simp only [List.mem_cons, List.not_mem_nil, or_false] at hq
  rcases hq with rfl | rfl | rfl | rfl
  · exact prm2
  · exact prm3
  · exact prm29
  · exact prm97
theorem prm16879 : Prm 16879 := full16879.prm
theorem prm127 : Prm 127 := prm_small (by decide +kernel)
theorem prm3023 : Prm 3023 := prm_small (by decide +kernel)
theorem prm41 : Prm 41 := prm_small (by decide +kernel)
theorem full155317 : Full 155317 := by
  refine lucas_rec 5 [2, 2, 3, 7, 43, 43] (by decide +kernel) (fun q hq => ?_)
  simp only [List.mem_cons, List.not_mem_nil, or_false] at hq
  rcases hq with rfl | rfl | rfl | rfl | rfl | rfl
  · exact prm2
  · exact prm2
  · exact prm3
  · exact prm7
  · exact prm43
  · exact prm43
theorem prm155317 : Prm 155317 := full155317.prm
theorem full191039911 : Full 191039911 := by
  refine lucas_rec 3 [2, 3, 5, 41, 155317] (by decide +kernel) (fun q hq => ?_)
  simp only [List.mem_cons, List.not_mem_nil, or_false] at hq
  rcases hq with rfl | rfl | rfl | rfl | rfl
  · exact prm2
  · exact prm3
  · exact prm5
  · exact prm41
  · exact prm155317
theorem prm191039911 : Prm 191039911 := full191039911.prm
theorem full208150935158385979 : Full 208150935158385979 := by
  refine lucas_rec 2 [2, 3, 11, 43, 127, 3023, 191039911] (by decide +kernel) (fun q hq => ?_)
  simp only [List.mem_cons, List.not_mem_nil, or_false] at hq
  rcases hq with rfl | rfl | rfl | rfl | rfl | rfl | rfl
  · exact prm2
  · exact prm3
  · exact prm11
  · exact prm43
  · exact prm127
  · exact prm3023
  · exact prm191039911
theorem prm208150935158385979 : Prm 208150935158385979 := full208150935158385979.prm
theorem full2624747550333869278416773953 : Full 2624747550333869278416773953 := by
  refine lucas_rec 7 [2, 2, 2, 2, 2, 2, 3, 3, 1297, 16879, 208150935158385979] (by decide +kernel) (fun q hq => ?_)
  simp only [List.mem_cons, List.not_mem_nil, or_false] at hq
  rcases hq with rfl | rfl | rfl | rfl | rfl | rfl | rfl | rfl | rfl | rfl | rfl
  · exact prm2
  · exact prm2
  · exact prm2
  · exact prm2
  · exact prm2
  · exact prm2
  · exact prm3
  · exact prm3
  · exact prm1297
  · exact prm16879
  · exact prm208150935158385979
theorem prm2624747550333869278416773953 : Prm 2624747550333869278416773953 := full2624747550333869278416773953.prm
theorem full115792089210356248762697446949407573529996955224135760342422259061068512044369 : Full 115792089210356248762697446949407573529996955224135760342422259061068512044369 := by
  refine lucas_rec 7 [2, 2, 2, 2, 3, 71, 131, 373, 3407, 17449, 38189, 187019741, 622491383, 1002328039319, 2624747550333869278416773953] (by decide +kernel) (fun q hq => ?_)
  simp only [List.mem_cons, List.not_mem_nil, or_false] at hq
  rcases hq with rfl | rfl | rfl | rfl | rfl | rfl | rfl | rfl | rfl | rfl | rfl | rfl | rfl | rfl | rfl
  · exact prm2
  · exact prm2
  · exact prm2
  · exact prm2
  · exact prm3
  · exact prm71
  · exact prm131
  · exact prm373
  · exact prm3407
  · exact prm17449
  · exact prm38189
  · exact prm187019741
  · exact prm622491383
  · exact prm1002328039319
  · exact prm2624747550333869278416773953
theorem prm115792089210356248762697446949407573529996955224135760342422259061068512044369 : Prm 115792089210356248762697446949407573529996955224135760342422259061068512044369 := full115792089210356248762697446949407573529996955224135760342422259061068512044369.prm
theorem prm479 : Prm 479 := prm_small (by decide +kernel)
theorem full32573 : Full 32573 := by
  refine lucas_rec 2 [2, 2, 17, 479] (by decide +kernel) (fun q hq => ?_)
  simp only [List.mem_cons, List.not_mem_nil, or_false] at hq
  rcases hq with rfl | rfl | rfl | rfl
  · exact prm2
  · exact prm2
  · exact prm17
  · exact prm479
theorem prm32573 : Prm 32573 := full32573.prm
theorem full65147 : Full 65147 := by
  refine lucas_rec 2 [2, 32573] (by decide +kernel) (fun q hq => ?_)
  simp only [List.mem_cons, List.not_mem_nil, or_false] at hq
  rcases hq with rfl | rfl
  · exact prm2
  · exact prm32573
theorem prm65147 : Prm 65147 := full65147.prm
theorem prm353 : Prm 353 := prm_small (by decide +kernel)
theorem prm59 : Prm 59 := prm_small (by decide +kernel)
theorem prm487 : Prm 487 := prm_small (by decide +kernel)
theorem full57467 : Full 57467 := by
  refine lucas_rec 2 [2, 59, 487] (by decide +kernel) (fun q hq => ?_)
  simp only [List.mem_cons, List.not_mem_nil, or_false] at hq
  rcases hq with rfl | rfl | rfl
  · exact prm2
  · exact prm59
  · exact prm487
theorem prm57467 : Prm 57467 := full57467.prm
theorem full132049 : Full 132049 := by
  refine lucas_rec 26 [2, 2, 2, 2, 3, 3, 7, 131] (by decide +kernel) (fun q hq => ?_)
  simp only [List.mem_cons, List.not_mem_nil, or_false] at hq
  rcases hq with rfl | rfl | rfl | rfl | rfl | rfl | rfl | rfl
  · exact prm2
  · exact prm2
  · exact prm2
  · exact prm2
  · exact prm3
  · exact prm3
  · exact prm7
  · exact prm131
theorem prm132049 : Prm 132049 := full132049.prm
theorem prm3727 : Prm 3727 := prm_small (by decide +kernel)
theorem full1923133 : Full 1923133 := by
  refine lucas_rec 2 [2, 2, 3, 43, 3727] (by decide +kernel) (fun q hq => ?_)
  simp only [List.mem_cons, List.not_mem_nil, or_false] at hq
  rcases hq with rfl | rfl | rfl | rfl | rfl
  · exact prm2
  · exact prm2
  · exact prm3
  · exact prm43
  · exact prm3727
theorem prm1923133 : Prm 1923133 := full1923133.prm
theorem prm223 : Prm 223 := prm_small (by decide +kernel)
theorem prm4153 : Prm 4153 := prm_small (by decide +kernel)
theorem prm1723 : Prm 1723 := prm_small (by decide +kernel)
theorem full430751 : Full 430751 := by
  refine lucas_rec 17 [2, 5, 5, 5, 1723] (by decide +kernel) (fun q hq => ?_)
  simp only [List.mem_cons, List.not_mem_nil, or_false] at hq
  rcases hq with rfl | rfl | rfl | rfl | rfl
  · exact prm2
  · exact prm5
  · exact prm5
  · exact prm5
  · exact prm1723
theorem prm430751 : Prm 430751 := full430751.prm
theorem full31757755568855353 : Full 31757755568855353 := by
  refine lucas_rec 10 [2, 2, 2, 3, 31, 107, 223, 4153, 430751] (by decide +kernel) (fun q hq => ?_)
  simp only [List.mem_cons, List.not_mem_nil, or_false] at hq
  rcases hq with rfl | rfl | rfl | rfl | rfl | rfl | rfl | rfl | rfl
  · exact prm2
  · exact prm2
  · exact prm2
  · exact prm3
  · exact prm31
  · exact prm107
  · exact prm223
  · exact prm4153
  · exact prm430751
theorem prm31757755568855353 : Prm 31757755568855353 := full31757755568855353.prm
theorem prm83 : Prm 83 := prm_small (by decide +kernel)
theorem full9463 : Full 9463 := by
  refine lucas_rec 3 [2, 3, 19, 83] (by decide +kernel) (fun q hq => ?_)
  simp only [List.mem_cons, List.not_mem_nil, or_false] at hq
  rcases hq with rfl | rfl | rfl | rfl
  · exact prm2
  · exact prm3
  · exact prm19
  · exact prm83
theorem prm9463 : Prm 9463 := full9463.prm
theorem full37853 : Full 37853 := by
  refine lucas_rec 2 [2, 2, 9463] (by decide +kernel) (fun q hq => ?_)
  simp only [List.mem_cons, List.not_mem_nil, or_false] at hq
  rcases hq with rfl | rfl | rfl
  · exact prm2
  · exact prm2
  · exact prm9463
theorem prm37853 : Prm 37853 := full37853.prm
theorem full75707 : Full 75707 := by
  refine lucas_rec 2 [2, 37853] (by decide +kernel) (fun q hq => ?_)
  simp only [List.mem_cons, List.not_mem_nil, or_false] at hq
  rcases hq with rfl | rfl
  · exact prm2
  · exact prm37853
theorem prm75707 : Prm 75707 := full75707.prm
theorem prm13 : Prm 13 := prm_small (by decide +kernel)
theorem prm2437 : Prm 2437 := prm_small (by decide +kernel)
theorem prm419 : Prm 419 := prm_small (by decide +kernel)
theorem full569003 : Full 569003 := by
  refine lucas_rec 2 [2, 7, 97, 419] (by decide +kernel) (fun q hq => ?_)
  simp only [List.mem_cons, List.not_mem_nil, or_false] at hq
  rcases hq with rfl | rfl | rfl | rfl
  · exact prm2
  · exact prm7
  · exact prm97
  · exact prm419
theorem prm569003 : Prm 569003 := full569003.prm
theorem full2773320623 : Full 2773320623 := by
  refine lucas_rec 5 [2, 2437, 569003] (by decide +kernel) (fun q hq => ?_)
  simp only [List.mem_cons, List.not_mem_nil, or_false] at hq
  rcases hq with rfl | rfl | rfl
  · exact prm2
  · exact prm2437
  · exact prm569003
theorem prm2773320623 : Prm 2773320623 := full2773320623.prm
theorem full72106336199 : Full 72106336199 := by
  refine lucas_rec 7 [2, 13, 2773320623] (by decide +kernel) (fun q hq => ?_)
  simp only [List.mem_cons, List.not_mem_nil, or_false] at hq
  rcases hq with rfl | rfl | rfl
  · exact prm2
  · exact prm13
  · exact prm2773320623
theorem prm72106336199 : Prm 72106336199 := full72106336199.prm
theorem prm47 : Prm 47 := prm_small (by decide +kernel)
theorem prm103 : Prm 103 := prm_small (by decide +kernel)
theorem prm991 : Prm 991 := prm_small (by decide +kernel)
theorem full8574133 : Full 8574133 := by
  refine lucas_rec 2 [2, 2, 3, 7, 103, 991] (by decide +kernel) (fun q hq => ?_)
  simp only [List.mem_cons, List.not_mem_nil, or_false] at hq
  rcases hq with rfl | rfl | rfl | rfl | rfl | rfl
  · exact prm2
  · exact prm2
  · exact prm3
  · exact prm7
  · exact prm103
  · exact prm991
theorem prm8574133 : Prm 8574133 := full8574133.prm
theorem full1919519569386763 : Full 1919519569386763 := by
  refine lucas_rec 2 [2, 3, 7, 19, 47, 47, 127, 8574133] (by decide +kernel) (fun q hq => ?_)
  simp only [List.mem_cons, List.not_mem_nil, or_false] at hq
  rcases hq with rfl | rfl | rfl | rfl | rfl | rfl | rfl | rfl
  · exact prm2
  · exact prm3
  · exact prm7
  · exact prm19
  · exact prm47
  · exact prm47
  · exact prm127
  · exact prm8574133
theorem prm1919519569386763 : Prm 1919519569386763 := full1919519569386763.prm
theorem full75445702479781427272750846543864801 : Full 75445702479781427272750846543864801 := by
  refine lucas_rec 7 [2, 2, 2, 2, 2, 3, 3, 5, 5, 75707, 72106336199, 1919519569386763] (by decide +kernel) (fun q hq => ?_)
  simp only [List.mem_cons, List.not_mem_nil, or_false] at hq
  rcases hq with rfl | rfl | rfl | rfl | rfl | rfl | rfl | rfl | rfl | rfl | rfl | rfl
  · exact prm2
  · exact prm2
  · exact prm2
  · exact prm2
  · exact prm2
  · exact prm3
  · exact prm3
  · exact prm5
  · exact prm5
  · exact prm75707
  · exact prm72106336199
  · exact prm1919519569386763
theorem prm75445702479781427272750846543864801 : Prm 75445702479781427272750846543864801 := full75445702479781427272750846543864801.prm
theorem full74058212732561358302231226437062788676166966415465897661863160754340907 : Full 74058212732561358302231226437062788676166966415465897661863160754340907 := by
  refine lucas_rec 2 [2, 3, 353, 57467, 132049, 1923133, 31757755568855353, 75445702479781427272750846543864801] (by decide +kernel) (fun q hq => ?_)
  simp only [List.mem_cons, List.not_mem_nil, or_false] at hq
  rcases hq with rfl | rfl | rfl | rfl | rfl | rfl | rfl | rfl
  · exact prm2
  · exact prm3
  · exact prm353
  · exact prm57467
  · exact prm132049
  · exact prm1923133
  · exact prm31757755568855353
  · exact prm75445702479781427272750846543864801
theorem prm74058212732561358302231226437062788676166966415465897661863160754340907 : Prm 74058212732561358302231226437062788676166966415465897661863160754340907 := full74058212732561358302231226437062788676166966415465897661863160754340907.prm
theorem full57896044618658097711785492504343953926634992332820282019728792003956564819949 : Full 57896044618658097711785492504343953926634992332820282019728792003956564819949 := by
  refine lucas_rec 2 [2, 2, 3, 65147, 74058212732561358302231226437062788676166966415465897661863160754340907] (by decide +kernel) (fun q hq => ?_)
  simp only [List.mem_cons, List.not_mem_nil, or_false] at hq
  rcases hq with rfl | rfl | rfl | rfl | rfl
  · exact prm2
  · exact prm2
  · exact prm3
  · exact prm65147
  · exact prm74058212732561358302231226437062788676166966415465897661863160754340907
theorem prm57896044618658097711785492504343953926634992332820282019728792003956564819949 : Prm 57896044618658097711785492504343953926634992332820282019728792003956564819949 := full57896044618658097711785492504343953926634992332820282019728792003956564819949.prm
theorem full34123 : Full 34123 := by
  refine lucas_rec 2 [2, 3, 11, 11, 47] (by decide +kernel) (fun q hq => ?_)
  simp only [List.mem_cons, List.not_mem_nil, or_false] at hq
  rcases hq with rfl | rfl | rfl | rfl | rfl
  · exact prm2
  · exact prm3
  · exact prm11
  · exact prm11
  · exact prm47
theorem prm34123 : Prm 34123 := full34123.prm
theorem full409477 : Full 409477 := by
  refine lucas_rec 2 [2, 2, 3, 34123] (by decide +kernel) (fun q hq => ?_)
  simp only [List.mem_cons, List.not_mem_nil, or_false] at hq
  rcases hq with rfl | rfl | rfl | rfl
  · exact prm2
  · exact prm2
  · exact prm3
  · exact prm34123
theorem prm409477 : Prm 409477 := full409477.prm
theorem full14741173 : Full 14741173 := by
  refine lucas_rec 2 [2, 2, 3, 3, 409477] (by decide +kernel) (fun q hq => ?_)
  simp only [List.mem_cons, List.not_mem_nil, or_false] at hq
  rcases hq with rfl | rfl | rfl | rfl | rfl
  · exact prm2
  · exact prm2
  · exact prm3
  · exact prm3
  · exact prm409477
theorem prm14741173 : Prm 14741173 := full14741173.prm
theorem full58964693 : Full 58964693 := by
  refine lucas_rec 2 [2, 2, 14741173] (by decide +kernel) (fun q hq => ?_)
  simp only [List.mem_cons, List.not_mem_nil, or_false] at hq
  rcases hq with rfl | rfl | rfl
  · exact prm2
  · exact prm2
  · exact prm14741173
theorem prm58964693 : Prm 58964693 := full58964693.prm
theorem full30703 : Full 30703 := by
  refine lucas_rec 3 [2, 3, 7, 17, 43] (by decide +kernel) (fun q hq => ?_)
  simp only [List.mem_cons, List.not_mem_nil, or_false] at hq
  rcases hq with rfl | rfl | rfl | rfl | rfl
  · exact prm2
  · exact prm3
  · exact prm7
  · exact prm17
  · exact prm43
theorem prm30703 : Prm 30703 := full30703.prm
theorem prm79 : Prm 79 := prm_small (by decide +kernel)
theorem full41081 : Full 41081 := by
  refine lucas_rec 3 [2, 2, 2, 5, 13, 79] (by decide +kernel) (fun q hq => ?_)
  simp only [List.mem_cons, List.not_mem_nil, or_false] at hq
  rcases hq with rfl | rfl | rfl | rfl | rfl | rfl
  · exact prm2
  · exact prm2
  · exact prm2
  · exact prm5
  · exact prm13
  · exact prm79
theorem prm41081 : Prm 41081 := full41081.prm
theorem full82163 : Full 82163 := by
  refine lucas_rec 2 [2, 41081] (by decide +kernel) (fun q hq => ?_)
  simp only [List.mem_cons, List.not_mem_nil, or_false] at hq
  rcases hq with rfl | rfl
  · exact prm2
  · exact prm41081
theorem prm82163 : Prm 82163 := full82163.prm
theorem prm67 : Prm 67 := prm_small (by decide +kernel)
theorem full22111 : Full 22111 := by
  refine lucas_rec 6 [2, 3, 5, 11, 67] (by decide +kernel) (fun q hq => ?_)
  simp only [List.mem_cons, List.not_mem_nil, or_false] at hq
  rcases hq with rfl | rfl | rfl | rfl | rfl
  · exact prm2
  · exact prm3
  · exact prm5
  · exact prm11
  · exact prm67
theorem prm22111 : Prm 22111 := full22111.prm
theorem full132667 : Full 132667 := by
  refine lucas_rec 5 [2, 3, 22111] (by decide +kernel) (fun q hq => ?_)
  simp only [List.mem_cons, List.not_mem_nil, or_false] at hq
  rcases hq with rfl | rfl | rfl
  · exact prm2
  · exact prm3
  · exact prm22111
theorem prm132667 : Prm 132667 := full132667.prm
theorem full17231 : Full 17231 := by
  refine lucas_rec 13 [2, 5, 1723] (by decide +kernel) (fun q hq => ?_)
  simp only [List.mem_cons, List.not_mem_nil, or_false] at hq
  rcases hq with rfl | rfl | rfl
  · exact prm2
  · exact prm5
  · exact prm1723
theorem prm17231 : Prm 17231 := full17231.prm
theorem full137849 : Full 137849 := by
  refine lucas_rec 3 [2, 2, 2, 17231] (by decide +kernel) (fun q hq => ?_)
  simp only [List.mem_cons, List.not_mem_nil, or_false] at hq
  rcases hq with rfl | rfl | rfl | rfl
  · exact prm2
  · exact prm2
  · exact prm2
  · exact prm17231
theorem prm137849 : Prm 137849 := full137849.prm
theorem full3044861653679985063343 : Full 3044861653679985063343 := by
  refine lucas_rec 5 [2, 3, 11, 30703, 82163, 132667, 137849] (by decide +kernel) (fun q hq => ?_)
  simp only [List.mem_cons, List.not_mem_nil, or_false] at hq
  rcases hq with rfl | rfl | rfl | rfl | rfl | rfl | rfl
  · exact prm2
  · exact prm3
  · exact prm11
  · exact prm30703
  · exact prm82163
  · exact prm132667
  · exact prm137849
theorem prm3044861653679985063343 : Prm 3044861653679985063343 := full3044861653679985063343.prm
theorem full198211423230930754013084525763697 : Full 198211423230930754013084525763697 := by
  refine lucas_rec 5 [2, 2, 2, 2, 3, 23, 58964693, 3044861653679985063343] (by decide +kernel) (fun q hq => ?_)
  simp only [List.mem_cons, List.not_mem_nil, or_false] at hq
  rcases hq with rfl | rfl | rfl | rfl | rfl | rfl | rfl | rfl
  · exact prm2
  · exact prm2
  · exact prm2
  · exact prm2
  · exact prm3
  · exact prm23
  · exact prm58964693
  · exact prm3044861653679985063343
theorem prm198211423230930754013084525763697 : Prm 198211423230930754013084525763697 := full198211423230930754013084525763697.prm
theorem prm269 : Prm 269 := prm_small (by decide +kernel)
theorem prm73 : Prm 73 := prm_small (by decide +kernel)
theorem prm307 : Prm 307 := prm_small (by decide +kernel)
theorem prm2939 : Prm 2939 := prm_small (by decide +kernel)
theorem full5879 : Full 5879 := by
  refine lucas_rec 11 [2, 2939] (by decide +kernel) (fun q hq => ?_)
  simp only [List.mem_cons, List.not_mem_nil, or_false] at hq
  rcases hq with rfl | rfl
  · exact prm2
  · exact prm2939
theorem prm5879 : Prm 5879 := full5879.prm
theorem full292386187 : Full 292386187 := by
  refine lucas_rec 2 [2, 3, 3, 3, 3, 307, 5879] (by decide +kernel) (fun q hq => ?_)
  simp only [List.mem_cons, List.not_mem_nil, or_false] at hq
  rcases hq with rfl | rfl | rfl | rfl | rfl | rfl | rfl
  · exact prm2
  · exact prm3
  · exact prm3
  · exact prm3
  · exact prm3
  · exact prm307
  · exact prm5879
theorem prm292386187 : Prm 292386187 := full292386187.prm
theorem full213441916511 : Full 213441916511 := by
  refine lucas_rec 13 [2, 5, 73, 292386187] (by decide +kernel) (fun q hq => ?_)
  simp only [List.mem_cons, List.not_mem_nil, or_false] at hq
  rcases hq with rfl | rfl | rfl | rfl
  · exact prm2
  · exact prm5
  · exact prm73
  · exact prm292386187
theorem prm213441916511 : Prm 213441916511 := full213441916511.prm
theorem prm1361 : Prm 1361 := prm_small (by decide +kernel)
theorem prm2851 : Prm 2851 := prm_small (by decide +kernel)
theorem prm3797 : Prm 3797 := prm_small (by decide +kernel)
theorem full531581 : Full 531581 := by
  refine lucas_rec 2 [2, 2, 5, 7, 3797] (by decide +kernel) (fun q hq => ?_)
  simp only [List.mem_cons, List.not_mem_nil, or_false] at hq
  rcases hq with rfl | rfl | rfl | rfl | rfl
  · exact prm2
  · exact prm2
  · exact prm5
  · exact prm7
  · exact prm3797
theorem prm531581 : Prm 531581 := full531581.prm
theorem prm2551 : Prm 2551 := prm_small (by decide +kernel)
theorem full1224481 : Full 1224481 := by
  refine lucas_rec 13 [2, 2, 2, 2, 2, 3, 5, 2551] (by decide +kernel) (fun q hq => ?_)
  simp only [List.mem_cons, List.not_mem_nil, or_false] at hq
  rcases hq with rfl | rfl | rfl | rfl | rfl | rfl | rfl | rfl
  · exact prm2
  · exact prm2
  · exact prm2
  · exact prm2
  · exact prm2
  · exact prm3
  · exact prm5
  · exact prm2551
theorem prm1224481 : Prm 1224481 := full1224481.prm
theorem full1257559732178653 : Full 1257559732178653 := by
  refine lucas_rec 2 [2, 2, 3, 7, 23, 531581, 1224481] (by decide +kernel) (fun q hq => ?_)
  simp only [List.mem_cons, List.not_mem_nil, or_false] at hq
  rcases hq with rfl | rfl | rfl | rfl | rfl | rfl | rfl
  · exact prm2
  · exact prm2
  · exact prm3
  · exact prm7
  · exact prm23
  · exact prm531581
  · exact prm1224481
theorem prm1257559732178653 : Prm 1257559732178653 := full1257559732178653.prm
theorem full4434155615661930479 : Full 4434155615661930479 := by
  refine lucas_rec 17 [2, 41, 43, 1257559732178653] (by decide +kernel) (fun q hq => ?_)
  simp only [List.mem_cons, List.not_mem_nil, or_false] at hq
  rcases hq with rfl | rfl | rfl | rfl
  · exact prm2
  · exact prm41
  · exact prm43
  · exact prm1257559732178653
theorem prm4434155615661930479 : Prm 4434155615661930479 := full4434155615661930479.prm
theorem full172054593956031949258510691 : Full 172054593956031949258510691 := by
  refine lucas_rec 2 [2, 5, 1361, 2851, 4434155615661930479] (by decide +kernel) (fun q hq => ?_)
  simp only [List.mem_cons, List.not_mem_nil, or_false] at hq
  rcases hq with rfl | rfl | rfl | rfl | rfl
  · exact prm2
  · exact prm5
  · exact prm1361
  · exact prm2851
  · exact prm4434155615661930479
theorem prm172054593956031949258510691 : Prm 172054593956031949258510691 := full172054593956031949258510691.prm
theorem full19757330305831588566944191468367130476339 : Full 19757330305831588566944191468367130476339 := by
  refine lucas_rec 2 [2, 269, 213441916511, 172054593956031949258510691] (by decide +kernel) (fun q hq => ?_)
  simp only [List.mem_cons, List.not_mem_nil, or_false] at hq
  rcases hq with rfl | rfl | rfl | rfl
  · exact prm2
  · exact prm269
  · exact prm213441916511
  · exact prm172054593956031949258510691
theorem prm19757330305831588566944191468367130476339 : Prm 19757330305831588566944191468367130476339 := full19757330305831588566944191468367130476339.prm
theorem full276602624281642239937218680557139826668747 : Full 276602624281642239937218680557139826668747 := by
  refine lucas_rec 2 [2, 7, 19757330305831588566944191468367130476339] (by decide +kernel) (fun q hq => ?_)
  simp only [List.mem_cons, List.not_mem_nil, or_false] at hq
  rcases hq with rfl | rfl | rfl
  · exact prm2
  · exact prm7
  · exact prm19757330305831588566944191468367130476339
theorem prm276602624281642239937218680557139826668747 : Prm 276602624281642239937218680557139826668747 := full276602624281642239937218680557139826668747.prm
theorem full7237005577332262213973186563042994240857116359379907606001950938285454250989 : Full 7237005577332262213973186563042994240857116359379907606001950938285454250989 := by
  refine lucas_rec 2 [2, 2, 3, 11, 198211423230930754013084525763697, 276602624281642239937218680557139826668747] (by decide +kernel) (fun q hq => ?_)
  simp only [List.mem_cons, List.not_mem_nil, or_false] at hq
  rcases hq with rfl | rfl | rfl | rfl | rfl | rfl
  · exact prm2
  · exact prm2
  · exact prm3
  · exact prm11
  · exact prm198211423230930754013084525763697
  · exact prm276602624281642239937218680557139826668747
theorem prm7237005577332262213973186563042994240857116359379907606001950938285454250989 : Prm 7237005577332262213973186563042994240857116359379907606001950938285454250989 := full7237005577332262213973186563042994240857116359379907606001950938285454250989.prm
/-- Modulus 0. -/
def mod0 : Nat := 115792089210356248762697446949407573530086143415290314195533631308867097853951
theorem mod0_full : Full mod0 := full115792089210356248762697446949407573530086143415290314195533631308867097853951
/-- Modulus 1. -/
def mod1 : Nat := 115792089210356248762697446949407573529996955224135760342422259061068512044369
theorem mod1_full : Full mod1 := full115792089210356248762697446949407573529996955224135760342422259061068512044369
/-- Modulus 2. -/
def mod2 : Nat := 57896044618658097711785492504343953926634992332820282019728792003956564819949
theorem mod2_full : Full mod2 := full57896044618658097711785492504343953926634992332820282019728792003956564819949
/-- Modulus 3. -/
def mod3 : Nat := 7237005577332262213973186563042994240857116359379907606001950938285454250989
theorem mod3_full : Full mod3 := full7237005577332262213973186563042994240857116359379907606001950938285454250989
#print axioms mod0_full
end Go.Proofs.YtolehamdaceikaaDoor
namespace Go.Proofs.YtolehamdaceikaaDoor

/-- Modulus 2, as a number behind another. -/
def q2 : Nat := 57896044618658097711785492504343953926634992332820282019728792003956564819948
abbrev m2 : Nat := q2 + 1
theorem m2_full : Full m2 := mod2_full
theorem fld2 : Fld m2 fiv := by
  obtain ⟨h1, h2, h3⟩ := fld_of m2_full (by unfold m2 q2; omega)
  exact ⟨h1, h2, h3⟩
/-- -121665 / 121666. -/
def edN : Nat := 37095705934669439343138083508754565189542113879843219016388785533085940283555
def ed : Fin m2 := kc (edN : Int)
theorem val_kc2 {p : Nat} [NeZero p] {n : Nat} (h : n < p) : (kc (n : Int) : Fin p).val = n := by
  have := kc_val (p := p) n
  rw [Int.emod_eq_of_lt (by omega) (by omega)] at this
  omega
theorem neg_kc {p : Nat} [NeZero p] {a : Int} {n : Fin p} (h : (a + 1) % p = 0) (e : n = kc a) : n = - 1 := by
  have := kc_nil.2 h
  rw [kc_add, kc_one, ← e] at this
  clear h e
  grobner
theorem ek_im : ∃ i : Fin m2, i * i = - 1 := by
  refine ⟨kc ((19681161376707505956807079304988542015446066515923890162744021073123829784752 : Nat) : Int), ?_⟩
  rw [← kc_mul]
  exact neg_kc (by decide +kernel) rfl
theorem euler_ok : (pm 256 edN ((m2 - 1) / 2) m2 == 1) = false := by decide +kernel
theorem pow_sq {p : Nat} [NeZero p] (v : Fin p) : ∀ m : Nat, (v * v) ^ m = v ^ (2 * m)
  | 0 => by grobner
  | m + 1 => by
    have i2 := pow_sq v m
    have a1 : (v * v) ^ (m + 1) = (v * v) ^ m * (v * v) := by clear i2; grobner
    have a2 : v ^ (2 * (m + 1)) = v ^ (2 * m) * (v * v) := by clear i2 a1; grobner
    rw [a1, a2, i2]
theorem nil_sq {p : Nat} [NeZero p] : (0 : Fin p) * 0 = 0 := by grobner
theorem ek_ns (s : Fin m2) : s * s ≠ ed := by
  intro e
  have hs : s ≠ 0 := by
    rintro rfl
    rw [nil_sq] at e
    have h1 : ed.val = edN := val_kc2 (by decide +kernel)
    rw [← e] at h1
    exact absurd h1 (by decide +kernel)
  have f := fermat_fin m2_full hs
  have e2 : ed ^ ((m2 - 1) / 2) = 1 := by
    rw [← e, pow_sq, show 2 * ((m2 - 1) / 2) = m2 - 1 by unfold m2 q2; omega, f]
  rw [ed, ← kc_pow, ← kc_one] at e2
  have e3 := kc_inj e2
  have e4 : edN ^ ((m2 - 1) / 2) % m2 = 1 := by
    have : ((edN ^ ((m2 - 1) / 2) % m2 : Nat) : Int) = 1 := by
      rw [Int.natCast_emod, Int.natCast_pow, e3]
      rfl
    omega
  have e5 := euler_ok
  rw [pm_eq 256 edN ((m2 - 1) / 2) m2 (by unfold m2 q2; decide), e4] at e5
  exact absurd e5 (by decide)
theorem ek2 : Ek m2 fiv ed := ⟨fld2, ek_im, ek_ns⟩
/-- The sum of two points of the curve. -/
def eadd : Ep m2 → Ep m2 → Ep m2 := Ep.add fiv ed
theorem egr : Gr (Ep.on ed) eadd (Ep.o m2) where
  mem := fun ha hb => Ep.add_on ek2 ha hb
  zero := Ep.o_on ed
  comm := Ep.add_comm fiv ed
  ass := fun ha hb hc => Ep.add_assoc ek2 ha hb hc
  add_o := fun _ => Ep.add_o fld2 ed _

/-! The modulus 3 times the base point, reckoned by the kernel. -/
def P4.frc {β : Type} (P : P4 Nat) (k : P4 Nat → β) : β := frcN P.x fun x => frcN P.z fun z => frcN P.y fun y => frcN P.t fun t => k ⟨x, z, y, t⟩
theorem P4.frc_eq {β : Type} (P : P4 Nat) (k : P4 Nat → β) : P.frc k = k P := by simp only [P4.frc, frcN_eq]
def mulE (p d : Nat) : Nat → P4 Nat → P4 Nat → Nat → P4 Nat
  | 0, _, acc, _ => acc
  | k + 1, t, acc, e => (ef (natOp p) d t t).frc fun t2 => if e % 2 = 1 then (ef (natOp p) d acc t).frc fun acc => mulE p d k t2 acc (e / 2) else mulE p d k t2 acc (e / 2)
/-- Four plain numbers stand for a point. -/
def Se (a : Ep m2) (N : P4 Nat) : Prop := ∃ P : P4 (Fin m2), Dn P ∧ em fiv P = a ∧ Rq Rn P N
theorem se_add {a c : Ep m2} {N M : P4 Nat} (ha : a.on ed) (hc : c.on ed) (h1 : Se a N) (h2 : Se c M) : Se (eadd a c) (ef (natOp m2) (ed.val) N M) := by
  obtain ⟨P, p1, rfl, p3⟩ := h1
  obtain ⟨Q, q1, rfl, q3⟩ := h2
  have k := em_ea ek2 p1 q1 ha hc
  exact ⟨ea ed P Q, k.1, k.2, ef_par (par_nat m2) (d := ed) (d' := ed.val) rfl p3 q3⟩
theorem se_mul : ∀ (k : Nat) {a c : Ep m2} {N M : P4 Nat} (e : Nat), a.on ed → c.on ed → e < 2 ^ k → Se a N → Se c M → Se (eadd c (mt eadd (Ep.o m2) a e)) (mulE m2 ed.val k N M e)
  | 0, a, c, N, M, e, ha, hc, he, hN, hM => by
    have : e = 0 := by simpa using he
    subst this
    show Se (eadd c (Ep.o m2)) M
    rw [egr.add_o hc]
    exact hM
  | k + 1, a, c, N, M, e, ha, hc, he, hN, hM => by
    have h2 : e / 2 < 2 ^ k := by rw [Nat.pow_succ] at he; omega
    have hd := se_add ha ha hN hN
    have od := egr.mem ha ha
    have e2 : mt eadd (Ep.o m2) (eadd a a) (e / 2) = mt eadd (Ep.o m2) a (2 * (e / 2)) := by
      rw [mt_mul egr ha]
      congr 1
      show eadd a a = eadd (eadd (Ep.o m2) a) a
      rw [egr.comm (Ep.o m2) a, egr.add_o ha]
    unfold mulE
    simp only [P4.frc_eq]
    split
    · have ih := se_mul k (e / 2) od (egr.mem hc ha) h2 hd (se_add hc ha hM hN)
      rw [e2, egr.ass hc ha (mt_on egr ha _), egr.comm a] at ih
      have e3 : eadd (mt eadd (Ep.o m2) a (2 * (e / 2))) a = mt eadd (Ep.o m2) a e := by
        show mt eadd (Ep.o m2) a (2 * (e / 2) + 1) = _
        congr 1
        omega
      rw [e3] at ih
      exact ih
    · have ih := se_mul k (e / 2) od hc h2 hd hM
      rw [e2] at ih
      rw [show 2 * (e / 2) = e by omega] at ih
      exact ih
def exN : Nat := 15112221349535400772501151409588531511454012693041857206046113283949847762202
def eyN : Nat := 46316835694926478169428394003475163141307993866256225615783033603165251855960
/-- The base point. -/
def eG : Ep m2 := ⟨kc (exN : Int), kc (eyN : Int)⟩
theorem eG_on : eG.on ed := by
  show kc (eyN : Int) * kc (eyN : Int) - kc (exN : Int) * kc (exN : Int) = 1 + ed * (kc (exN : Int) * kc (exN : Int) * (kc (eyN : Int) * kc (eyN : Int)))
  rw [← kc_one, ed, ← kc_mul, ← kc_mul, ← kc_mul, ← kc_mul, ← kc_sub, ← kc_add]
  exact kc_eq (by decide +kernel)
theorem one_val2 : (1 : Fin m2).val = 1 := by
  rw [← kc_one]
  exact val_kc2 (n := 1) (by decide +kernel)
theorem se_o : Se (Ep.o m2) ⟨0, 1, 1, 1⟩ := ⟨(Ep.o m2).lift, ⟨fld2.one, fld2.one⟩, em_lift fld2 _, ⟨rfl, one_val2, one_val2, one_val2⟩⟩
theorem se_G : Se eG ⟨exN, 1, eyN, 1⟩ := ⟨eG.lift, ⟨fld2.one, fld2.one⟩, em_lift fld2 _, ⟨val_kc2 (by decide +kernel), one_val2, val_kc2 (by decide +kernel), one_val2⟩⟩
def P4.isO (P : P4 Nat) : Bool := P.x == 0 && P.y == P.t
theorem eorder_ok : (mulE m2 edN 256 ⟨exN, 1, eyN, 1⟩ ⟨0, 1, 1, 1⟩ mod3).isO = true := by decide +kernel
theorem nil_mul {p : Nat} [NeZero p] (a : Fin p) : 0 * a = 0 := by grobner
/-- The modulus 3 times the base point is the neutral one. -/
theorem eG_order : mt eadd (Ep.o m2) eG mod3 = Ep.o m2 := by
  have hs := se_mul 256 mod3 eG_on (c := Ep.o m2) (Ep.o_on ed) (by unfold mod3; decide) se_G se_o
  have hb : ed.val = edN := val_kc2 (by decide +kernel)
  rw [hb] at hs
  have hz := eorder_ok
  generalize mulE m2 edN 256 ⟨exN, 1, eyN, 1⟩ ⟨0, 1, 1, 1⟩ mod3 = N at hs hz
  obtain ⟨P, p1, p2, p3⟩ := hs
  simp only [P4.isO, Bool.and_eq_true, beq_iff_eq] at hz
  have z0 : P.x = 0 := Fin.ext (by
    show P.x.val = 0
    rw [← hz.1]
    exact p3.x)
  have z1 : P.y = P.t := Fin.ext (by
    have h1 : P.y.val = N.y := p3.y
    have h2 : P.t.val = N.t := p3.t
    omega)
  rw [egr.comm, egr.add_o (mt_on egr eG_on _)] at p2
  rw [← p2, em, z0, z1, fld2.inv _ p1.t, nil_mul]
  rfl
end Go.Proofs.YtolehamdaceikaaDoor
namespace Go.Proofs.YtolehamdaceikaaDoor

/-- The document's sum. -/
def fadd (p q : P3 (Fin m2)) : P3 (Fin m2) :=
  let c := p.z * q.z
  let cc := c * c
  let xx := p.x * q.x
  let yy := p.y * q.y
  let e := ed * (xx * yy)
  let cross := p.x * q.y + q.x * p.y
  ⟨c * cross * (cc - e), c * (yy + xx) * (cc + e), (cc - e) * (cc + e)⟩
def fdrop (p : P3 (Fin m2)) : Ep m2 := ⟨p.x * fiv p.z, p.y * fiv p.z⟩
def flift (a : Ep m2) : P3 (Fin m2) := ⟨a.x, a.y, 1⟩
/-- Three numbers stand for a point of the curve. -/
structure Fo (p : P3 (Fin m2)) : Prop where
  z : p.z ≠ 0
  on : (fdrop p).on ed
theorem fiv2_one : fiv (1 : Fin m2) = 1 := iv_one fld2
theorem fdrop_lift (a : Ep m2) : fdrop (flift a) = a := by
  obtain ⟨x, y⟩ := a
  simp only [fdrop, flift, fiv2_one]
  congr 1
  · grobner
  · grobner
theorem fo_lift {a : Ep m2} (h : a.on ed) : Fo (flift a) := ⟨fld2.one, by rw [fdrop_lift]; exact h⟩
theorem fo_own {p : P3 (Fin m2)} (h : p.z ≠ 0) : p.x = (fdrop p).x * p.z ∧ p.y = (fdrop p).y * p.z := by
  have h1 := fld2.inv _ h
  simp only [fdrop]
  generalize fiv p.z = i at h1
  constructor
  · rw [show p.x * i * p.z = p.x * (p.z * i) by clear h1; grobner, h1]
    clear h1
    grobner
  · rw [show p.y * i * p.z = p.y * (p.z * i) by clear h1; grobner, h1]
    clear h1
    grobner
theorem fadd_ok {p q : P3 (Fin m2)} (hp : Fo p) (hq : Fo q) : Fo (fadd p q) ∧ fdrop (fadd p q) = eadd (fdrop p) (fdrop q) := by
  obtain ⟨ox1, oy1⟩ := fo_own hp.z
  obtain ⟨ox2, oy2⟩ := fo_own hq.z
  have d1 := den_add ek2 hp.on hq.on
  have d2 := den_sub ek2 hp.on hq.on
  have i1 := fld2.inv _ d1
  have i2 := fld2.inv _ d2
  have hc := fld2.ne (fld2.ne hp.z hq.z) (fld2.ne hp.z hq.z)
  have el : p.z * q.z * (p.z * q.z) - ed * (p.x * q.x * (p.y * q.y)) = p.z * q.z * (p.z * q.z) * (1 - (fdrop p).t ed (fdrop q)) := by
    rw [ox1, ox2, oy1, oy2]
    simp only [Ep.t]
    generalize fdrop p = a
    generalize fdrop q = b
    clear i1 i2 hc d1 d2 ox1 ox2 oy1 oy2
    grobner
  have em : p.z * q.z * (p.z * q.z) + ed * (p.x * q.x * (p.y * q.y)) = p.z * q.z * (p.z * q.z) * (1 + (fdrop p).t ed (fdrop q)) := by
    rw [ox1, ox2, oy1, oy2]
    simp only [Ep.t]
    generalize fdrop p = a
    generalize fdrop q = b
    clear i1 i2 hc d1 d2 ox1 ox2 oy1 oy2 el
    grobner
  have hz : (fadd p q).z = (p.z * q.z * (p.z * q.z) * (1 - (fdrop p).t ed (fdrop q))) * (p.z * q.z * (p.z * q.z) * (1 + (fdrop p).t ed (fdrop q))) := by
    show (p.z * q.z * (p.z * q.z) - ed * (p.x * q.x * (p.y * q.y))) * (p.z * q.z * (p.z * q.z) + ed * (p.x * q.x * (p.y * q.y))) = _
    rw [el, em]
  have nz : (fadd p q).z ≠ 0 := by
    rw [hz]
    exact fld2.ne (fld2.ne hc d2) (fld2.ne hc d1)
  have key : fdrop (fadd p q) = eadd (fdrop p) (fdrop q) := by
    have iz := fld2.inv _ nz
    have hx : (fadd p q).x = p.z * q.z * (p.x * q.y + q.x * p.y) * (p.z * q.z * (p.z * q.z) * (1 - (fdrop p).t ed (fdrop q))) := by
      show p.z * q.z * (p.x * q.y + q.x * p.y) * (p.z * q.z * (p.z * q.z) - ed * (p.x * q.x * (p.y * q.y))) = _
      rw [el]
    have hy : (fadd p q).y = p.z * q.z * (p.y * q.y + p.x * q.x) * (p.z * q.z * (p.z * q.z) * (1 + (fdrop p).t ed (fdrop q))) := by
      show p.z * q.z * (p.y * q.y + p.x * q.x) * (p.z * q.z * (p.z * q.z) + ed * (p.x * q.x * (p.y * q.y))) = _
      rw [em]
    have cx : p.x * q.y + q.x * p.y = ((fdrop p).x * (fdrop q).y + (fdrop q).x * (fdrop p).y) * (p.z * q.z) := by
      conv => lhs; rw [ox1, ox2, oy1, oy2]
      generalize fdrop p = a
      generalize fdrop q = b
      clear i1 i2 hc d1 d2 ox1 ox2 oy1 oy2 el em hz nz iz hx hy
      grobner
    have cy : p.y * q.y + p.x * q.x = ((fdrop p).y * (fdrop q).y + (fdrop p).x * (fdrop q).x) * (p.z * q.z) := by
      conv => lhs; rw [ox1, ox2, oy1, oy2]
      generalize fdrop p = a
      generalize fdrop q = b
      clear i1 i2 hc d1 d2 ox1 ox2 oy1 oy2 el em hz nz iz hx hy cx
      grobner
    rw [hz] at iz
    rw [fdrop, hx, hy, cx, cy, hz]
    simp only [eadd, Ep.add]
    generalize (fdrop p).t ed (fdrop q) = t at *
    generalize fiv (p.z * q.z * (p.z * q.z) * (1 - t) * (p.z * q.z * (p.z * q.z) * (1 + t))) = iz' at *
    generalize (fdrop p).x * (fdrop q).y + (fdrop q).x * (fdrop p).y = A at *
    generalize (fdrop p).y * (fdrop q).y + (fdrop p).x * (fdrop q).x = B at *
    generalize fiv (1 + t) = j1 at *
    generalize fiv (1 - t) = j2 at *
    generalize p.z * q.z = c at *
    clear hp hq ox1 ox2 oy1 oy2 el em hz nz hx hy cx cy hc
    congr 1
    · have e1 : c * (A * c) * (c * c * (1 - t)) * iz' = A * j1 * (c * c * (1 - t) * (c * c * (1 + t)) * iz') := by
        rw [show A * j1 * (c * c * (1 - t) * (c * c * (1 + t)) * iz') = A * ((1 + t) * j1) * (c * c * (1 - t) * (c * c) * iz') by clear i1 i2 iz; grobner, i1]
        clear i1 i2 iz
        grobner
      rw [e1, iz]
      clear e1 i1 i2 iz
      grobner
    · have e1 : c * (B * c) * (c * c * (1 + t)) * iz' = B * j2 * (c * c * (1 - t) * (c * c * (1 + t)) * iz') := by
        rw [show B * j2 * (c * c * (1 - t) * (c * c * (1 + t)) * iz') = B * ((1 - t) * j2) * (c * c * (c * c * (1 + t)) * iz') by clear i1 i2 iz; grobner, i2]
        clear i1 i2 iz
        grobner
      rw [e1, iz]
      clear e1 i1 i2 iz
      grobner
  exact ⟨⟨nz, by rw [key]; exact egr.mem hp.on hq.on⟩, key⟩
/-- The document's multiple: bit by bit, from the highest on; whether a bit was 1 yet is told too. -/
def fm (k : Nat) (p : P3 (Fin m2)) : Nat → P3 (Fin m2) × Bool
  | 0 => (flift (Ep.o m2), false)
  | n + 1 =>
    let d := if (fm k p n).2 = true then fadd (fm k p n).1 (fm k p n).1 else (fm k p n).1
    if k / 2 ^ (255 - n) % 2 = 1 then (fadd d p, true) else (d, (fm k p n).2)
theorem fm_succ (k : Nat) (p : P3 (Fin m2)) (n : Nat) : fm k p (n + 1) = if k / 2 ^ (255 - n) % 2 = 1 then (fadd (if (fm k p n).2 = true then fadd (fm k p n).1 (fm k p n).1 else (fm k p n).1) p, true) else ((if (fm k p n).2 = true then fadd (fm k p n).1 (fm k p n).1 else (fm k p n).1), (fm k p n).2) := rfl
theorem fm_mt {k : Nat} {p : P3 (Fin m2)} (hp : Fo p) : ∀ n, n ≤ 256 → Fo (fm k p n).1 ∧ fdrop (fm k p n).1 = mt eadd (Ep.o m2) (fdrop p) (k / 2 ^ (256 - n) % 2 ^ n) ∧ ((fm k p n).2 = false → k / 2 ^ (256 - n) % 2 ^ n = 0)
  | 0, _ => by
    rw [show k / 2 ^ (256 - 0) % 2 ^ 0 = 0 by rw [Nat.pow_zero, Nat.mod_one]]
    exact ⟨fo_lift egr.zero, fdrop_lift _, fun _ => rfl⟩
  | n + 1, hn => by
    obtain ⟨h1, h2, h3⟩ := fm_mt (k := k) hp n (by omega)
    have e1 : k / 2 ^ (256 - (n + 1)) % 2 ^ (n + 1) = 2 * (k / 2 ^ (256 - n) % 2 ^ n) + k / 2 ^ (255 - n) % 2 := by
      rw [show 256 - (n + 1) = 255 - n by omega]
      have e2 : k / 2 ^ (256 - n) = k / 2 ^ (255 - n) / 2 := by
        rw [Nat.div_div_eq_div_mul, ← Nat.pow_succ]
        congr 2
        omega
      rw [e2]
      generalize k / 2 ^ (255 - n) = m
      rw [Nat.pow_succ, Nat.mul_comm (2 ^ n) 2, Nat.mod_mul]
      omega
    have hd : Fo (if (fm k p n).2 = true then fadd (fm k p n).1 (fm k p n).1 else (fm k p n).1) ∧ fdrop (if (fm k p n).2 = true then fadd (fm k p n).1 (fm k p n).1 else (fm k p n).1) = mt eadd (Ep.o m2) (fdrop p) (2 * (k / 2 ^ (256 - n) % 2 ^ n)) := by
      by_cases hb : (fm k p n).2 = true
      · rw [if_pos hb]
        obtain ⟨g1, g2⟩ := fadd_ok h1 h1
        exact ⟨g1, by rw [g2, h2, mt_two egr hp.on]⟩
      · rw [if_neg hb]
        have := h3 (by simpa using hb)
        exact ⟨h1, by rw [h2, this]⟩
    rw [e1]
    by_cases hb : k / 2 ^ (255 - n) % 2 = 1
    · rw [show fm k p (n + 1) = _ from if_pos hb]
      obtain ⟨g1, g2⟩ := fadd_ok hd.1 hp
      refine ⟨g1, ?_, fun h => by cases h⟩
      rw [g2, hd.2, hb]
      rfl
    · rw [show fm k p (n + 1) = _ from if_neg hb]
      refine ⟨hd.1, ?_, fun h => ?_⟩
      · rw [hd.2, show k / 2 ^ (255 - n) % 2 = 0 by omega]
        rfl
      · have := h3 h
        omega
theorem fm_all {k : Nat} (hk : k < 2 ^ 256) {p : P3 (Fin m2)} (hp : Fo p) : fdrop (fm k p 256).1 = mt eadd (Ep.o m2) (fdrop p) k := by
  have := (fm_mt (k := k) hp 256 (Nat.le_refl _)).2.1
  rw [this, Nat.sub_self, Nat.pow_zero, Nat.div_one, Nat.mod_eq_of_lt hk]
end Go.Proofs.YtolehamdaceikaaDoor
namespace Go.Proofs.YtolehamdaceikaaDoor

/-- The modulus of a number; 0 of none. -/
def md (k : Int) : Int := if k = 0 then 115792089210356248762697446949407573530086143415290314195533631308867097853951 else if k = 1 then 115792089210356248762697446949407573529996955224135760342422259061068512044369 else if k = 2 then 57896044618658097711785492504343953926634992332820282019728792003956564819949 else if k = 3 then 7237005577332262213973186563042994240857116359379907606001950938285454250989 else 0
theorem md_num (k : Int) : Num (md k) := by
  unfold md
  (repeat' split) <;> exact ⟨by omega, by unfold M; omega⟩
theorem mod_low {s m : Int} (h0 : 0 ≤ s) (h : s < m) : s % m = s := Int.emod_eq_of_lt h0 h
theorem mod_once {s m : Int} (h0 : m ≤ s) (h : s < m + m) : s % m = s - m := by
  have e : s % m = (s - m) % m := by rw [Int.sub_emod_right]
  rw [e]; exact Int.emod_eq_of_lt (by omega) (by omega)

theorem md_0_0 : L 0 (md 0) = 18446744073709551615 := by decide
theorem md_0_1 : L 1 (md 0) = 4294967295 := by decide
theorem md_0_2 : L 2 (md 0) = 0 := by decide
theorem md_0_3 : L 3 (md 0) = 18446744069414584321 := by decide
theorem md_1_0 : L 0 (md 1) = 17562291160714782033 := by decide
theorem md_1_1 : L 1 (md 1) = 13611842547513532036 := by decide
theorem md_1_2 : L 2 (md 1) = 18446744073709551615 := by decide
theorem md_1_3 : L 3 (md 1) = 18446744069414584320 := by decide
theorem md_2_0 : L 0 (md 2) = 18446744073709551597 := by decide
theorem md_2_1 : L 1 (md 2) = 18446744073709551615 := by decide
theorem md_2_2 : L 2 (md 2) = 18446744073709551615 := by decide
theorem md_2_3 : L 3 (md 2) = 9223372036854775807 := by decide
theorem md_3_0 : L 0 (md 3) = 6346243789798364141 := by decide
theorem md_3_1 : L 1 (md 3) = 1503914060200516822 := by decide
theorem md_3_2 : L 2 (md 3) = 0 := by decide
theorem md_3_3 : L 3 (md 3) = 1152921504606846976 := by decide
theorem md_none {k : Int} (h : k < 0 ∨ 3 < k) : md k = 0 := by unfold md; (repeat' split) <;> omega
theorem L_zero (i : Nat) : L i 0 = 0 := by simp [L]
theorem md_cases {k : Int} (h : 0 ≤ k ∧ k ≤ 3) : k = 0 ∨ k = 1 ∨ k = 2 ∨ k = 3 := by omega
theorem md_pos {k : Int} (h : 0 ≤ k ∧ k ≤ 3) : 0 < md k := by
  rcases md_cases h with rfl | rfl | rfl | rfl <;> decide
theorem md_odd {k : Int} (h : 0 ≤ k ∧ k ≤ 3) : (L 0 (md k) == 0) = false := by
  rcases md_cases h with rfl | rfl | rfl | rfl <;> decide
end Go.Proofs.YtolehamdaceikaaDoor
namespace Go.Proofs.YtolehamdaceikaaDoor
open Go.RowKit
attribute [local go_sem ↓] Go.wp_at_zero Go.wp_at_succ

set_option maxRecDepth 100000 in
set_option maxHeartbeats 1000000 in
theorem lead_0 (w : World) : Calls Tryd.prog 90 #[.int .u64 18446744069414584321] w fun e w' => e = .returned (.int .i64 0) ∧ w' = w := by
  go_enter Tryd.func90, Tryd.ntmps90
  go_wp2
  go_ret
  exact ⟨by kernel_rfl, rfl⟩

set_option maxRecDepth 100000 in
set_option maxHeartbeats 1000000 in
theorem lead_1 (w : World) : Calls Tryd.prog 90 #[.int .u64 18446744069414584320] w fun e w' => e = .returned (.int .i64 0) ∧ w' = w := by
  go_enter Tryd.func90, Tryd.ntmps90
  go_wp2
  go_ret
  exact ⟨by kernel_rfl, rfl⟩

set_option maxRecDepth 100000 in
set_option maxHeartbeats 1000000 in
theorem lead_2 (w : World) : Calls Tryd.prog 90 #[.int .u64 9223372036854775807] w fun e w' => e = .returned (.int .i64 1) ∧ w' = w := by
  go_enter Tryd.func90, Tryd.ntmps90
  go_wp2
  go_ret
  exact ⟨by kernel_rfl, rfl⟩

set_option maxRecDepth 100000 in
set_option maxHeartbeats 1000000 in
theorem lead_3 (w : World) : Calls Tryd.prog 90 #[.int .u64 1152921504606846976] w fun e w' => e = .returned (.int .i64 3) ∧ w' = w := by
  go_enter Tryd.func90, Tryd.ntmps90
  go_wp2
  go_ret
  exact ⟨by kernel_rfl, rfl⟩
theorem or_apart (x d : Int) (s : Nat) (hx : 0 ≤ x) (hd : 0 ≤ d) (hd2 : d < 2 ^ s) (h : x * 2 ^ s + d < 18446744073709551616) : bits .or .u64 (x * 2 ^ s) d = x * 2 ^ s + d := by
  obtain ⟨x, rfl⟩ := Int.eq_ofNat_of_zero_le hx
  obtain ⟨d, rfl⟩ := Int.eq_ofNat_of_zero_le hd
  have hd3 : d < 2 ^ s := by exact_mod_cast hd2
  have e : ((x : Int) * 2 ^ s) = ((x * 2 ^ s : Nat) : Int) := by simp
  rw [e] at h ⊢
  have h3 : x * 2 ^ s + d < 18446744073709551616 := by omega
  rw [u64_or_nat _ _ (by omega) (by omega), Nat.mul_comm, ← Nat.two_pow_add_eq_or_of_lt hd3]
  simp
theorem or_nothing (x : Int) (hx : 0 ≤ x) (h : x < 18446744073709551616) : bits .or .u64 x 0 = x := by
  obtain ⟨x, rfl⟩ := Int.eq_ofNat_of_zero_le hx
  have := u64_or_nat x 0 (by omega) (by omega)
  rwa [Nat.or_zero] at this
theorem tdiv_pos {u y : Int} (hu : 0 ≤ u) : u.tdiv y = u / y := Int.tdiv_eq_ediv_of_nonneg hu
end Go.Proofs.YtolehamdaceikaaDoor
